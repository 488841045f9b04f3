/- Texts of this claim, put together: YStage, YCache, YTask, LP1, LP2, LP3, LWd1, LWd2, LBr. -/
import Derived.Test.YtlpffgmfgkleiaaDoorMR5
import Derived.Lib.OthersKept
import Derived.RangeFuncNested
import Derived.RangeFuncBound
import Derived.RangeFuncCalls
import Derived.RangeFuncLeaves
import Derived.RangeFuncBox
import Derived.Shelf.Abstract
import Derived.Shelf.RegionOpen
import Derived.OwnWalkIn
import Derived.TacticsInMore
import Derived.LoopNIn
import Derived.LoopIn
import Derived.Maps.AppendAt
import Derived.Deep.RegionHeldLaw

/-
  The stages of a row that is read: what each word of it leaves behind.
-/
namespace Go.Proofs.YtlpffgmfgkleiaaDoor
open Go.RowKit Go.Maps

/-- Where a row that is read stands: at that place, with that laid down. -/
structure Stg (W : List WV) (R N : Nat) (w0 : World) (TY : TypeId) (i : Nat) (cs : Array Value) (w : World) : Prop where
  two : Two R R w0 w
  left : Left w R N (endAt W i) (W.drop i)
  box : Box w w0.heap.size TY cs
/-- A block that was new from the start may turn. -/
theorem Two.news {R : Nat} {w0 w w' : World} (h : Two R R w0 w) (k : Two R w0.heap.size w w') : Two R R w0 w' :=
  ⟨k.os.trans h.os, k.tape.trans h.tape, k.output.trans h.output, Nat.le_trans h.size k.size, fun b hb h1 _ => (k.block b (Nat.lt_of_lt_of_le hb h.size) h1 (Nat.ne_of_lt hb)).trans (h.block b hb h1 h1)⟩
/-- What does not change while a row is read. -/
structure Fix (W : List WV) (R N : Nat) (w0 : World) : Prop where
  words : WordsOk W
  hR : N ≤ R
  lt : R < w0.heap.size
theorem Fix.hN {W : List WV} {R N : Nat} {w0 : World} (h : Fix W R N w0) : N ≤ w0.heap.size := Nat.le_trans h.hR (Nat.le_of_lt h.lt)
theorem Fix.ne {W : List WV} {R N : Nat} {w0 : World} (h : Fix W R N w0) : R ≠ w0.heap.size := Nat.ne_of_lt h.lt
theorem Stg.below {W : List WV} {R N : Nat} {w0 w w' : World} {TY : TypeId} {i : Nat} {cs : Array Value} (h : Stg W R N w0 TY i cs w) (hf : Fix W R N w0) (hb : Below w.heap.size w w') : Stg W R N w0 TY i cs w' :=
  ⟨h.two.then hb, h.left.below hb (Nat.le_trans hf.hN h.two.size), kept_obj hb h.box⟩
theorem box_row {R T : Nat} {TY : TypeId} {cs : Array Value} (hne : T ≠ R) : ∀ (v v' : World) (c1 : Array Value), Box v R RowT c1 → Box v T TY cs → Two R R v v' → Box v' T TY cs := fun _ _ _ _ hb h2 => h2.box hb hne hne
/-- What one step of a row does: it goes on, or panics at that place. -/
def StepIs (W : List WV) (R N : Nat) (w0 : World) (TY : TypeId) (i : Nat) (o : Option (Array Value)) (y : Ending) (w' : World) : Prop := match o with
  | some cs => y = .returned (.tuple #[]) ∧ Stg W R N w0 TY (i + 1) cs w'
  | none => Panics (placeAt W i) 10 y ∧ Two R R w0 w'
theorem step_text {W : List WV} {R N b i : Nat} {w0 w w' : World} {TY : TypeId} {cs : Array Value} {t : ByteArray} (hf : Fix W R N w0) (h : Stg W R N w0 TY i cs w) (hi : i ≤ W.length) (hb : Below w.heap.size w w') (hc : w'.cell? ⟨b, 0, none⟩ = some (.string t)) :
    Calls Tryd.prog 58 #[.pointer (some ⟨R, 0, none⟩), .func (.func 79) #[] #[.pointer (some ⟨b, 0, none⟩)]] w' (StepIs W R N w0 TY i (if wordAt W i = some t then some cs else none)) := by
  have h1 := h.below hf hb
  refine (must_at (T := w0.heap.size) (ok := decide (wordAt W i = some t)) (C := fun v => Box v w0.heap.size TY cs) hf.words hi h1.left hf.hR hf.hN (Nat.le_trans hf.hN h1.two.size) hf.ne ?_ ?_ (box_row hf.ne.symm)).mono ?_
  · intro hx
    rw [decide_eq_false]
    unfold wordAt; rw [hx]; simp
  · intro x hx
    have e : decide (wordAt W i = some t) = decide (x.tx = t) := by rw [wordAt_some hx]; simp
    rw [e]
    exact says_text hc h1.box
  · intro y w2 hm
    unfold MustAt at hm
    unfold StepIs
    by_cases q : wordAt W i = some t
    · rw [if_pos (by rw [decide_eq_true q])] at hm
      rw [if_pos q]
      exact ⟨hm.1, h1.two.news hm.2.1, hm.2.2.2, hm.2.2.1⟩
    · rw [if_neg (by rw [decide_eq_false q]; decide)] at hm
      rw [if_neg q]
      exact ⟨hm.1, h1.two.news hm.2⟩

theorem step_numI {W : List WV} {R N i k : Nat} {w0 w w' : World} {TY : TypeId} {cs : Array Value} {u v : Value} {most : Int} (hf : Fix W R N w0) (h : Stg W R N w0 TY i cs w) (hi : i ≤ W.length) (hb : Below w.heap.size w w') (ht : TakesAt 80 v w' ⟨w0.heap.size, k, none⟩ most) (hm : I64 most) (hu : cs[k]? = some u) :
    Calls Tryd.prog 58 #[.pointer (some ⟨R, 0, none⟩), v] w' (StepIs W R N w0 TY i ((((wordAt W i).bind fun s => numOf s most) : Option Nat).map fun (n : Nat) => cs.setIfInBounds k (.int .i64 n))) := by
  have h1 := h.below hf hb
  obtain ⟨o, ho⟩ : ∃ o, ((wordAt W i).bind fun s => numOf s most) = o := ⟨_, rfl⟩
  rw [ho]
  refine (must_at (T := w0.heap.size) (ok := o.isSome) (C := fun v => Box v w0.heap.size TY (putN cs k o)) hf.words hi h1.left hf.hR hf.hN (Nat.le_trans hf.hN h1.two.size) hf.ne ?_ ?_ (box_row hf.ne.symm)).mono ?_
  · intro hx
    rw [← ho]
    unfold wordAt; rw [hx]; rfl
  · intro x hx
    obtain ⟨-, q2⟩ := hf.words x (List.mem_of_getElem? hx)
    have e : numOf x.tx most = o := by rw [← ho]; rw [wordAt_some hx]; rfl
    rw [← e]
    exact says_numI ht hm q2 h1.box hu
  · intro y w2 hm
    unfold MustAt at hm
    unfold StepIs
    cases o with
    | some n =>
      rw [if_pos (show (some n).isSome = true from rfl)] at hm
      exact ⟨hm.1, h1.two.news hm.2.1, hm.2.2.2, hm.2.2.1⟩
    | none =>
      rw [if_neg (show ¬ (none : Option Nat).isSome = true by decide)] at hm
      exact ⟨hm.1, h1.two.news hm.2⟩

theorem step_numQ {W : List WV} {R N i k : Nat} {w0 w w' : World} {TY : TypeId} {cs : Array Value} {u v : Value} {most : Int} (hf : Fix W R N w0) (h : Stg W R N w0 TY i cs w) (hi : i ≤ W.length) (hb : Below w.heap.size w w') (ht : TakesAt 82 v w' ⟨w0.heap.size, k, none⟩ most) (hm : I64 most) (hu : cs[k]? = some u) :
    Calls Tryd.prog 58 #[.pointer (some ⟨R, 0, none⟩), v] w' (StepIs W R N w0 TY i ((((wordAt W i).bind fun s => numOf s most) : Option Nat).map fun (n : Nat) => cs.setIfInBounds k (.int .i64 n))) := by
  have h1 := h.below hf hb
  obtain ⟨o, ho⟩ : ∃ o, ((wordAt W i).bind fun s => numOf s most) = o := ⟨_, rfl⟩
  rw [ho]
  refine (must_at (T := w0.heap.size) (ok := o.isSome) (C := fun v => Box v w0.heap.size TY (putN cs k o)) hf.words hi h1.left hf.hR hf.hN (Nat.le_trans hf.hN h1.two.size) hf.ne ?_ ?_ (box_row hf.ne.symm)).mono ?_
  · intro hx
    rw [← ho]
    unfold wordAt; rw [hx]; rfl
  · intro x hx
    obtain ⟨-, q2⟩ := hf.words x (List.mem_of_getElem? hx)
    have e : numOf x.tx most = o := by rw [← ho]; rw [wordAt_some hx]; rfl
    rw [← e]
    exact says_numQ ht hm q2 h1.box hu
  · intro y w2 hm
    unfold MustAt at hm
    unfold StepIs
    cases o with
    | some n =>
      rw [if_pos (show (some n).isSome = true from rfl)] at hm
      exact ⟨hm.1, h1.two.news hm.2.1, hm.2.2.2, hm.2.2.1⟩
    | none =>
      rw [if_neg (show ¬ (none : Option Nat).isSome = true by decide)] at hm
      exact ⟨hm.1, h1.two.news hm.2⟩

theorem step_named_numI {W : List WV} {R N i k nb sb : Nat} {w0 w w' : World} {TY : TypeId} {cs : Array Value} {u v : Value} {most : Int} {name : ByteArray} (hf : Fix W R N w0) (h : Stg W R N w0 TY i cs w) (hi : i ≤ W.length) (hb : Below w.heap.size w w') (hn : w'.cell? ⟨nb, 0, none⟩ = some (.string name)) (hsb : w'.cell? ⟨sb, 0, none⟩ = some v) (ht : TakesAt 80 v w' ⟨w0.heap.size, k, none⟩ most) (hm : I64 most) (hu : cs[k]? = some u) :
    Calls Tryd.prog 58 #[.pointer (some ⟨R, 0, none⟩), .func (.func 83) #[] #[.pointer (some ⟨nb, 0, none⟩), .pointer (some ⟨sb, 0, none⟩)]] w' (StepIs W R N w0 TY i ((numAt W i name most : Option Nat).map fun (n : Nat) => cs.setIfInBounds k (.int .i64 n))) := by
  have h1 := h.below hf hb
  obtain ⟨o, ho⟩ : ∃ o, numAt W i name most = o := ⟨_, rfl⟩
  rw [ho]
  refine (must_at (T := w0.heap.size) (ok := o.isSome) (C := fun v => Box v w0.heap.size TY (putN cs k o)) hf.words hi h1.left hf.hR hf.hN (Nat.le_trans hf.hN h1.two.size) hf.ne ?_ ?_ (box_row hf.ne.symm)).mono ?_
  · intro hx
    rw [← ho]
    unfold numAt valAt wordAt; rw [hx]; rfl
  · intro x hx
    obtain ⟨-, q2⟩ := hf.words x (List.mem_of_getElem? hx)
    have e : ((namedV x.tx name).bind fun z => numOf z most) = o := by rw [← ho]; unfold numAt valAt; rw [wordAt_some hx]; rfl
    rw [← e]
    exact says_named_numI hn hsb ht hm q2 h1.box hu
  · intro y w2 hm
    unfold MustAt at hm
    unfold StepIs
    cases o with
    | some n =>
      rw [if_pos (show (some n).isSome = true from rfl)] at hm
      exact ⟨hm.1, h1.two.news hm.2.1, hm.2.2.2, hm.2.2.1⟩
    | none =>
      rw [if_neg (show ¬ (none : Option Nat).isSome = true by decide)] at hm
      exact ⟨hm.1, h1.two.news hm.2⟩

theorem step_named_numQ {W : List WV} {R N i k nb sb : Nat} {w0 w w' : World} {TY : TypeId} {cs : Array Value} {u v : Value} {most : Int} {name : ByteArray} (hf : Fix W R N w0) (h : Stg W R N w0 TY i cs w) (hi : i ≤ W.length) (hb : Below w.heap.size w w') (hn : w'.cell? ⟨nb, 0, none⟩ = some (.string name)) (hsb : w'.cell? ⟨sb, 0, none⟩ = some v) (ht : TakesAt 82 v w' ⟨w0.heap.size, k, none⟩ most) (hm : I64 most) (hu : cs[k]? = some u) :
    Calls Tryd.prog 58 #[.pointer (some ⟨R, 0, none⟩), .func (.func 83) #[] #[.pointer (some ⟨nb, 0, none⟩), .pointer (some ⟨sb, 0, none⟩)]] w' (StepIs W R N w0 TY i ((numAt W i name most : Option Nat).map fun (n : Nat) => cs.setIfInBounds k (.int .i64 n))) := by
  have h1 := h.below hf hb
  obtain ⟨o, ho⟩ : ∃ o, numAt W i name most = o := ⟨_, rfl⟩
  rw [ho]
  refine (must_at (T := w0.heap.size) (ok := o.isSome) (C := fun v => Box v w0.heap.size TY (putN cs k o)) hf.words hi h1.left hf.hR hf.hN (Nat.le_trans hf.hN h1.two.size) hf.ne ?_ ?_ (box_row hf.ne.symm)).mono ?_
  · intro hx
    rw [← ho]
    unfold numAt valAt wordAt; rw [hx]; rfl
  · intro x hx
    obtain ⟨-, q2⟩ := hf.words x (List.mem_of_getElem? hx)
    have e : ((namedV x.tx name).bind fun z => numOf z most) = o := by rw [← ho]; unfold numAt valAt; rw [wordAt_some hx]; rfl
    rw [← e]
    exact says_named_numQ hn hsb ht hm q2 h1.box hu
  · intro y w2 hm
    unfold MustAt at hm
    unfold StepIs
    cases o with
    | some n =>
      rw [if_pos (show (some n).isSome = true from rfl)] at hm
      exact ⟨hm.1, h1.two.news hm.2.1, hm.2.2.2, hm.2.2.1⟩
    | none =>
      rw [if_neg (show ¬ (none : Option Nat).isSome = true by decide)] at hm
      exact ⟨hm.1, h1.two.news hm.2⟩

/-- Numbers laid down, or none. -/
def LaidL (w : World) (B : Nat) (T : Nat) (TY : TypeId) (cs : Array Value) (k : Nat) (l : List Int) : Prop :=
  ∃ a c, Box w T TY (cs.setIfInBounds k (.slice a l.length c)) ∧ (IsI w a l ∧ FreshI B a l) ∧ Ints w a l ∧ l.length ≤ c ∧ (c : Int) ≤ 9223372036854775807
theorem putL_laid {w : World} {B T k : Nat} {TY : TypeId} {cs : Array Value} {o : Option (List Int)} (h : PutL w B T TY cs k o) (hk : cs.setIfInBounds k (.slice none 0 0) = cs) : LaidL w B T TY cs k (o.getD []) := by
  cases o with
  | some l => exact h
  | none => exact ⟨none, 0, by show Box w T TY (cs.setIfInBounds k (.slice none 0 0)); rw [hk]; exact h, ⟨.inl rfl, .inl rfl⟩, .inl rfl, Nat.le_refl _, by omega⟩

theorem step_numsI {W : List WV} {R N i k nb sb : Nat} {w0 w w' : World} {TY : TypeId} {cs : Array Value} {u v : Value} {most : Int} {name : ByteArray} (hf : Fix W R N w0) (h : Stg W R N w0 TY i cs w) (hb : Below w.heap.size w w') (hn : w'.cell? ⟨nb, 0, none⟩ = some (.string name)) (hsb : w'.cell? ⟨sb, 0, none⟩ = some v) (ht : TakesAt 88 v w' ⟨w0.heap.size, k, none⟩ most) (hm : I64 most) (hu : cs[k]? = some u) (hk : cs.setIfInBounds k (.slice none 0 0) = cs) (hty : TY ≠ 2 ∧ TY ≠ 3) (o : Option (List Int)) (ho : numsAt W i name most = o) (j : Nat) (hj : (if o.isSome = true then i + 1 else i) = j) :
    Calls Tryd.prog 64 #[.pointer (some ⟨R, 0, none⟩), .func (.func 83) #[] #[.pointer (some ⟨nb, 0, none⟩), .pointer (some ⟨sb, 0, none⟩)]] w' (fun y w2 => y = .returned (.bool o.isSome) ∧ Two R w0.heap.size w w2 ∧ Two R R w0 w2 ∧ Left w2 R N (endAt W j) (W.drop j) ∧ LaidL w2 w0.heap.size w0.heap.size TY cs k (o.getD [])) := by
  have h1 := h.below hf hb
  refine (may_at (T := w0.heap.size) (ok := o.isSome) (C := fun v => PutL v w0.heap.size w0.heap.size TY cs k o) hf.words h1.left hf.hR hf.hN (Nat.le_trans hf.hN h1.two.size) hf.ne ?_ ?_ (fun _ _ _ hb hc h2 => putL_two hf.ne.symm hty hb hc h2)).mono ?_
  · intro hx
    have e : o = none := by rw [← ho]; unfold numsAt valAt wordAt; rw [hx]; rfl
    subst e
    exact ⟨rfl, h1.box⟩
  · intro x hx
    obtain ⟨-, q2⟩ := hf.words x (List.mem_of_getElem? hx)
    have e : ((namedV x.tx name).bind fun z => numsOf z most) = o := by rw [← ho]; unfold numsAt valAt; rw [wordAt_some hx]; rfl
    rw [← e]
    exact says_named_numsI hn hsb ht hm q2 h1.box hu hty h1.two.size
  · intro y w2 ⟨m1, m2, m3, m4⟩
    rw [hj] at m4
    exact ⟨m1, (Two.of_below hb).trans m2, h1.two.news m2, m4, putL_laid m3 hk⟩

theorem step_numsQ {W : List WV} {R N i k nb sb : Nat} {w0 w w' : World} {TY : TypeId} {cs : Array Value} {u v : Value} {most : Int} {name : ByteArray} (hf : Fix W R N w0) (h : Stg W R N w0 TY i cs w) (hb : Below w.heap.size w w') (hn : w'.cell? ⟨nb, 0, none⟩ = some (.string name)) (hsb : w'.cell? ⟨sb, 0, none⟩ = some v) (ht : TakesAt 85 v w' ⟨w0.heap.size, k, none⟩ most) (hm : I64 most) (hu : cs[k]? = some u) (hk : cs.setIfInBounds k (.slice none 0 0) = cs) (hty : TY ≠ 2 ∧ TY ≠ 3) (o : Option (List Int)) (ho : numsAt W i name most = o) (j : Nat) (hj : (if o.isSome = true then i + 1 else i) = j) :
    Calls Tryd.prog 64 #[.pointer (some ⟨R, 0, none⟩), .func (.func 83) #[] #[.pointer (some ⟨nb, 0, none⟩), .pointer (some ⟨sb, 0, none⟩)]] w' (fun y w2 => y = .returned (.bool o.isSome) ∧ Two R w0.heap.size w w2 ∧ Two R R w0 w2 ∧ Left w2 R N (endAt W j) (W.drop j) ∧ LaidL w2 w0.heap.size w0.heap.size TY cs k (o.getD [])) := by
  have h1 := h.below hf hb
  refine (may_at (T := w0.heap.size) (ok := o.isSome) (C := fun v => PutL v w0.heap.size w0.heap.size TY cs k o) hf.words h1.left hf.hR hf.hN (Nat.le_trans hf.hN h1.two.size) hf.ne ?_ ?_ (fun _ _ _ hb hc h2 => putL_two hf.ne.symm hty hb hc h2)).mono ?_
  · intro hx
    have e : o = none := by rw [← ho]; unfold numsAt valAt wordAt; rw [hx]; rfl
    subst e
    exact ⟨rfl, h1.box⟩
  · intro x hx
    obtain ⟨-, q2⟩ := hf.words x (List.mem_of_getElem? hx)
    have e : ((namedV x.tx name).bind fun z => numsOf z most) = o := by rw [← ho]; unfold numsAt valAt; rw [wordAt_some hx]; rfl
    rw [← e]
    exact says_named_numsQ hn hsb ht hm q2 h1.box hu hty h1.two.size
  · intro y w2 ⟨m1, m2, m3, m4⟩
    rw [hj] at m4
    exact ⟨m1, (Two.of_below hb).trans m2, h1.two.news m2, m4, putL_laid m3 hk⟩
end Go.Proofs.YtlpffgmfgkleiaaDoor

/-
  The walks over a row that says a cache, or a task.
-/
namespace Go.Proofs.YtlpffgmfgkleiaaDoor
open Go.RowKit Go.Maps

theorem takes_func {F : Nat} {v : Value} {w : World} {p : Addr} {most : Int} (h : TakesAt F v w p most) : ∃ f a b, v = .func f a b := let ⟨_, _, q, _⟩ := h; ⟨_, _, _, q⟩
theorem Two.setNew {R b o : Nat} {w0 w : World} (h : Two R R w0 w) (hb : w0.heap.size ≤ b) (v : Value) : Two R R w0 (w.setCell ⟨b, o, none⟩ v) :=
  ⟨h.os, h.tape, h.output, by simp [World.setCell]; exact h.size, fun k hk h1 h2 => (blk_far (a := ⟨b, o, none⟩) (by show k ≠ b; omega) v).trans (h.block k hk h1 h2)⟩
theorem bind_lt {α : Type} {W : List WV} {i : Nat} {f : ByteArray → Option α} {n : α} (h : (wordAt W i).bind f = some n) : i < W.length := by
  rcases Nat.lt_or_ge i W.length with q | q
  · exact q
  · rw [wordAt_none q] at h; cases h
theorem word_lt {W : List WV} {i : Nat} {t : ByteArray} (h : wordAt W i = some t) : i < W.length := by
  rcases Nat.lt_or_ge i W.length with q | q
  · exact q
  · rw [wordAt_none q] at h; cases h
theorem cache_first {W : List WV} (h : wordAt W 0 ≠ some bCache) : cacheOf W = .error (placeAt W 0) := by unfold cacheOf; rw [if_pos h]
theorem cache_sets {W : List WV} (h : wordAt W 0 = some bCache) (h1 : setsOf W = none) : cacheOf W = .error (placeAt W 1) := by unfold cacheOf; rw [if_neg (fun q => q h), h1]
theorem cache_rel {W : List WV} (h : wordAt W 0 = some bCache) {s : Nat} (h1 : setsOf W = some s) (h2 : relOf W = none) : cacheOf W = .error (placeAt W 2) := by
  unfold cacheOf; rw [if_neg (fun q => q h), h1]; simp only []; rw [h2]
theorem cache_over {W : List WV} (h : wordAt W 0 = some bCache) {s r : Nat} (h1 : setsOf W = some s) (h2 : relOf W = some r) (h3 : 3 < W.length) : cacheOf W = .error (placeAt W 3) := by
  unfold cacheOf; rw [if_neg (fun q => q h), h1]; simp only []; rw [h2]; simp only []; rw [if_pos h3]
theorem cache_ok {W : List WV} (h : wordAt W 0 = some bCache) {s r : Nat} (h1 : setsOf W = some s) (h2 : relOf W = some r) (h3 : ¬ 3 < W.length) : cacheOf W = .ok (s, r) := by
  unfold cacheOf; rw [if_neg (fun q => q h), h1]; simp only []; rw [h2]; simp only []; rw [if_neg h3]
theorem w_zeroSys (w : World) : (zeroValue SysT).run Tryd.prog w = .ok (.agg #[.int .i64 0, .int .i64 0, .slice none 0 0]) w := by kernel_rfl
/-- What a row that says a cache does. -/
def CacheIs (W : List WV) (R : Nat) (w0 : World) (y : Ending) (w' : World) : Prop := match cacheOf W with
  | .error p => Panics p 10 y ∧ Two R R w0 w'
  | .ok (s, r) => y = .returned (.agg #[.int .i64 s, .int .i64 r, .slice none 0 0]) ∧ Two R R w0 w'

set_option maxRecDepth 100000 in
set_option maxHeartbeats 4000000 in
theorem cache_any {W : List WV} {R N : Nat} {w0 : World} (hf : Fix W R N w0) (h : Left w0 R N 0 W) : Calls Tryd.prog 40 #[.pointer (some ⟨R, 0, none⟩)] w0 (CacheIs W R w0) := by
  have hz := w_zeroSys
  go_enter Tryd.func40, Tryd.ntmps40
  go_upto_region 1 with fail
  refine gen_world (Stg W R N w0 SysT 0 #[.int .i64 0, .int .i64 0, .slice none 0 0]) ⟨Two.of_below (bw_alloc (Below.refl _ _) _), h.below (bw_alloc (Below.refl _ _) _) hf.hN, heap_alloc_new w0 _⟩ ?_
  intro u0 h0
  have H0 := Lib.hid h0
  clear h0 h
  by_cases e0 : wordAt W 0 = some bCache
  rotate_left
  · have HB : Hid (cacheOf W = .error (placeAt W 0)) := cache_first e0
    have M : Hid (∀ b v, Below u0.heap.size u0 v → v.cell? ⟨b, 0, none⟩ = some (.string bCache) → Calls Tryd.prog 58 #[.pointer (some ⟨R, 0, none⟩), .func (.func 79) #[] #[.pointer (some ⟨b, 0, none⟩)]] v (StepIs W R N w0 SysT 0 none)) := fun b v hb hc => by have := step_text hf H0.out (Nat.zero_le _) hb hc; rwa [if_neg e0] at this
    clear e0
    go_wp2_with (first
      | (go_at_call 59; (with_reducible refine (text_any _ _).mono ?_); rintro e wt ⟨b, rfl, hc, bt⟩; have HC := Lib.hid hc; have BT := Lib.hid bt; clear hc bt)
      | (go_at_call 58; (with_reducible refine (M.out _ _ BT.out HC.out).mono ?_); rintro y ux ⟨rfl, tw⟩; have TW := Lib.hid tw; clear tw))
    all_goals
      refine ⟨rfl, ?_⟩
      unfold CacheIs
      rw [HB.out]
      exact ⟨rfl, TW.out⟩
  have M : Hid (∀ b v, Below u0.heap.size u0 v → v.cell? ⟨b, 0, none⟩ = some (.string bCache) → Calls Tryd.prog 58 #[.pointer (some ⟨R, 0, none⟩), .func (.func 79) #[] #[.pointer (some ⟨b, 0, none⟩)]] v (StepIs W R N w0 SysT 0 (some (#[.int .i64 0, .int .i64 0, .slice none 0 0])))) := fun b v hb hc => by have := step_text hf H0.out (Nat.zero_le _) hb hc; rwa [if_pos e0] at this
  go_upto_region 2 with (first
    | (go_at_call 59; (with_reducible refine (text_any _ _).mono ?_); rintro e wt ⟨b, rfl, hc, bt⟩; have HC := Lib.hid hc; have BT := Lib.hid bt; clear hc bt)
    | (go_at_call 58; (with_reducible refine (M.out _ _ BT.out HC.out).mono ?_); rintro y u1 ⟨rfl, st⟩; have H1 := Lib.hid st; clear st))
  clear M H0
  clear HC BT
  obtain e1 | ⟨n1, e1⟩ : setsOf W = none ∨ ∃ n, setsOf W = some n := by cases h : setsOf W <;> simp
  · have HB : Hid (cacheOf W = .error (placeAt W 1)) := cache_sets e0 e1
    have M : Hid (∀ v z, Below u1.heap.size u1 z → TakesAt 80 v z ⟨w0.heap.size, 0, none⟩ 256 → Calls Tryd.prog 58 #[.pointer (some ⟨R, 0, none⟩), v] z (StepIs W R N w0 SysT 1 none)) := fun v z hb ht => by have := step_numI hf H1.out (word_lt e0) hb ht (by unfold I64; omega) (u := _) rfl; rw [show ((wordAt W 1).bind fun s => numOf s 256) = _ from e1] at this; exact this
    clear e1
    go_wp2_with (first
      | (go_at_call 60; (with_reducible refine (numI_any _ _ _).mono ?_); rintro e wn ⟨v, rfl, hv, bn⟩; have HV := Lib.hid hv; have BN := Lib.hid bn; have hfun : ∃ f a b, v = .func f a b := takes_func hv; clear hv bn)
      | (go_at_call 58; (with_reducible refine (M.out _ _ BN.out HV.out).mono ?_); rintro y ux ⟨rfl, tw⟩; have TW := Lib.hid tw; clear tw))
    all_goals
      refine ⟨rfl, ?_⟩
      unfold CacheIs
      rw [HB.out]
      exact ⟨rfl, TW.out⟩
  have M : Hid (∀ v z, Below u1.heap.size u1 z → TakesAt 80 v z ⟨w0.heap.size, 0, none⟩ 256 → Calls Tryd.prog 58 #[.pointer (some ⟨R, 0, none⟩), v] z (StepIs W R N w0 SysT 1 (some ((#[.int .i64 0, .int .i64 0, .slice none 0 0] : Array Value).setIfInBounds 0 (.int .i64 n1))))) := fun v z hb ht => by have := step_numI hf H1.out (word_lt e0) hb ht (by unfold I64; omega) (u := _) rfl; rw [show ((wordAt W 1).bind fun s => numOf s 256) = _ from e1] at this; exact this
  go_upto_region 3 with (first
    | (go_at_call 60; (with_reducible refine (numI_any _ _ _).mono ?_); rintro e wn ⟨v, rfl, hv, bn⟩; have HV := Lib.hid hv; have BN := Lib.hid bn; have hfun : ∃ f a b, v = .func f a b := takes_func hv; clear hv bn)
    | (go_at_call 58; (with_reducible refine (M.out _ _ BN.out HV.out).mono ?_); rintro y u2 ⟨rfl, st⟩; have H2 := Lib.hid st; clear st))
  clear M H1
  clear HV BN hfun
  obtain e2 | ⟨n2, e2⟩ : relOf W = none ∨ ∃ n, relOf W = some n := by cases h : relOf W <;> simp
  · have HB : Hid (cacheOf W = .error (placeAt W 2)) := cache_rel e0 e1 e2
    have M : Hid (∀ v z, Below u2.heap.size u2 z → TakesAt 82 v z ⟨w0.heap.size, 1, none⟩ 1000 → Calls Tryd.prog 58 #[.pointer (some ⟨R, 0, none⟩), v] z (StepIs W R N w0 SysT 2 none)) := fun v z hb ht => by have := step_numQ hf H2.out (bind_lt e1) hb ht (by unfold I64; omega) (u := _) rfl; rw [show ((wordAt W 2).bind fun s => numOf s 1000) = _ from e2] at this; exact this
    clear e2
    go_wp2_with (first
      | (go_at_call 61; (with_reducible refine (numQ_any _ _ _).mono ?_); rintro e wn ⟨v, rfl, hv, bn⟩; have HV := Lib.hid hv; have BN := Lib.hid bn; have hfun : ∃ f a b, v = .func f a b := takes_func hv; clear hv bn)
      | (go_at_call 58; (with_reducible refine (M.out _ _ BN.out HV.out).mono ?_); rintro y ux ⟨rfl, tw⟩; have TW := Lib.hid tw; clear tw))
    all_goals
      refine ⟨rfl, ?_⟩
      unfold CacheIs
      rw [HB.out]
      exact ⟨rfl, TW.out⟩
  have M : Hid (∀ v z, Below u2.heap.size u2 z → TakesAt 82 v z ⟨w0.heap.size, 1, none⟩ 1000 → Calls Tryd.prog 58 #[.pointer (some ⟨R, 0, none⟩), v] z (StepIs W R N w0 SysT 2 (some (((#[.int .i64 0, .int .i64 0, .slice none 0 0] : Array Value).setIfInBounds 0 (.int .i64 n1)).setIfInBounds 1 (.int .i64 n2))))) := fun v z hb ht => by have := step_numQ hf H2.out (bind_lt e1) hb ht (by unfold I64; omega) (u := _) rfl; rw [show ((wordAt W 2).bind fun s => numOf s 1000) = _ from e2] at this; exact this
  go_upto_region 4 with (first
    | (go_at_call 61; (with_reducible refine (numQ_any _ _ _).mono ?_); rintro e wn ⟨v, rfl, hv, bn⟩; have HV := Lib.hid hv; have BN := Lib.hid bn; have hfun : ∃ f a b, v = .func f a b := takes_func hv; clear hv bn)
    | (go_at_call 58; (with_reducible refine (M.out _ _ BN.out HV.out).mono ?_); rintro y u3 ⟨rfl, st⟩; have H3 := Lib.hid st; clear st))
  clear M H2
  clear HV BN hfun
  have hl3 : 3 ≤ W.length := bind_lt e2
  by_cases ho : 3 < W.length
  · have HB : Hid (cacheOf W = .error (placeAt W 3)) := cache_over e0 e1 e2 ho
    have hx : W[3]? = some W[3] := by simp [ho]
    have hl := H3.out.left
    rw [drop_some hx] at hl
    have M := Lib.hid (over_word hl)
    have TW := Lib.hid H3.out.two
    rw [← placeAt_some hx] at M
    clear hl hx
    go_wp2_with (go_at_call 62; (with_reducible refine M.out.mono ?_); rintro y ux ⟨rfl, rfl⟩)
    all_goals
      refine ⟨rfl, ?_⟩
      unfold CacheIs
      rw [HB.out]
      exact ⟨rfl, TW.out⟩
  · have HB : Hid (cacheOf W = .ok (n1, n2)) := cache_ok e0 e1 e2 ho
    have hl := H3.out.left
    rw [List.drop_of_length_le (by omega)] at hl
    have M := Lib.hid (over_nil hl)
    go_upto_region 5 with (go_at_call 62; (with_reducible refine M.out.mono ?_); rintro y ux ⟨rfl, rfl⟩)
    have hb : Box ux w0.heap.size SysT #[.int .i64 n1, .int .i64 n2, .slice none 0 0] := H3.out.box
    have HBX := Lib.hid hb
    have r0 : ux.cell? ⟨w0.heap.size, 0, none⟩ = some (.int .i64 n1) := blk_cell hb 0
    have r1 : ux.cell? ⟨w0.heap.size, 1, none⟩ = some (.int .i64 n2) := blk_cell hb 1
    have r2 : ux.cell? ⟨w0.heap.size, 2, none⟩ = some (.slice none 0 0) := blk_cell hb 2
    have f0 := blk_free hb 0
    have f1 := blk_free hb 1
    have f2 := blk_free hb 2
    have hr := lt_of_block hb
    have TW := Lib.hid H3.out.two
    clear hb hl M H3
    go_wp2_with fail
    refine bodyPost_ret (v := .agg #[.int .i64 n1, .int .i64 n2, .slice none 0 0]) (by simp [results, Tryd.results40, go_sem, r0, r1, r2, hr]) rfl ?_
    unfold CacheIs
    rw [HB.out]
    exact ⟨rfl, ((TW.out.setNew (Nat.le_refl _) _).setNew (Nat.le_refl _) _).setNew (Nat.le_refl _) _⟩
end Go.Proofs.YtlpffgmfgkleiaaDoor

/-
  The walk over a row that says a task.
-/
namespace Go.Proofs.YtlpffgmfgkleiaaDoor
open Go.RowKit Go.Maps

theorem y_zeroTask (w : World) : (zeroValue TT).run Tryd.prog w = .ok (.agg #[.int .i64 0, .int .i64 0, .int .i64 0, .int .i64 0, .int .i64 0, .slice none 0 0, .slice none 0 0]) w := by kernel_rfl
/-- What a row that says a task does. -/
def TaskIs (W : List WV) (R : Nat) (w0 : World) (y : Ending) (w' : World) : Prop := match lineOf W with
  | .error p => Panics p 10 y ∧ Two R R w0 w'
  | .ok t => ∃ x : TV, y = .returned x.val ∧ x.tk = t ∧ x.ok w' ∧ (IsI w' x.a1 x.ch ∧ FreshI w0.heap.size x.a1 x.ch) ∧ (IsI w' x.a2 x.us ∧ FreshI w0.heap.size x.a2 x.us) ∧ Two R R w0 w' ∧ ∃ v, Box w' R RowT #[v, .int .i64 (endAt W W.length)]
theorem numK_lt {W : List WV} {k : Nat} {n : Nat} (h : numK W k = some n) : 2 + k < W.length := numAt_lt h
theorem lt4 {W : List WV} {k : Nat} (h : k < 4) (f : ∀ j, j < 4 → j < k → ∃ n, numK W j = some n) : ∀ j, j < k → ∃ n, numK W j = some n := fun j hj => f j (by omega) hj

set_option maxRecDepth 100000 in
set_option maxHeartbeats 4000000 in
theorem task_row {W : List WV} {R N : Nat} {w0 : World} (hf : Fix W R N w0) (h : Left w0 R N 0 W) : Calls Tryd.prog 41 #[.pointer (some ⟨R, 0, none⟩)] w0 (TaskIs W R w0) := by
  have hz := y_zeroTask
  go_enter Tryd.func41, Tryd.ntmps41
  go_upto_region 1 with fail
  refine gen_world (Stg W R N w0 TT 0 #[.int .i64 0, .int .i64 0, .int .i64 0, .int .i64 0, .int .i64 0, .slice none 0 0, .slice none 0 0]) ⟨Two.of_below (bw_alloc (Below.refl _ _) _), h.below (bw_alloc (Below.refl _ _) _) hf.hN, heap_alloc_new w0 _⟩ ?_
  intro u0 h0
  have H0 := Lib.hid h0
  clear h0 h
  by_cases e0 : wordAt W 0 = some bTask
  rotate_left
  · have HB : Hid (lineOf W = .error (placeAt W 0)) := line_first e0
    have M : Hid (∀ b v, Below u0.heap.size u0 v → v.cell? ⟨b, 0, none⟩ = some (.string bTask) → Calls Tryd.prog 58 #[.pointer (some ⟨R, 0, none⟩), .func (.func 79) #[] #[.pointer (some ⟨b, 0, none⟩)]] v (StepIs W R N w0 TT 0 none)) := fun b v hb hc => by have := step_text hf H0.out (Nat.zero_le _) hb hc; rwa [if_neg e0] at this
    clear e0
    go_wp2_with (first
      | (go_at_call 59; (with_reducible refine (text_any _ _).mono ?_); rintro e wt ⟨b, rfl, hc, bt⟩; have HC := Lib.hid hc; have BT := Lib.hid bt; clear hc bt)
      | (go_at_call 58; (with_reducible refine (M.out _ _ BT.out HC.out).mono ?_); rintro y ux ⟨rfl, tw⟩; have TW := Lib.hid tw; clear tw))
    all_goals
      refine ⟨rfl, ?_⟩
      unfold TaskIs
      rw [HB.out]
      exact ⟨rfl, TW.out⟩
  have M : Hid (∀ b v, Below u0.heap.size u0 v → v.cell? ⟨b, 0, none⟩ = some (.string bTask) → Calls Tryd.prog 58 #[.pointer (some ⟨R, 0, none⟩), .func (.func 79) #[] #[.pointer (some ⟨b, 0, none⟩)]] v (StepIs W R N w0 TT 0 (some (#[.int .i64 0, .int .i64 0, .int .i64 0, .int .i64 0, .int .i64 0, .slice none 0 0, .slice none 0 0])))) := fun b v hb hc => by have := step_text hf H0.out (Nat.zero_le _) hb hc; rwa [if_pos e0] at this
  go_upto_region 2 with (first
    | (go_at_call 59; (with_reducible refine (text_any _ _).mono ?_); rintro e wt ⟨b, rfl, hc, bt⟩; have HC := Lib.hid hc; have BT := Lib.hid bt; clear hc bt)
    | (go_at_call 58; (with_reducible refine (M.out _ _ BT.out HC.out).mono ?_); rintro y u1 ⟨rfl, st⟩; have H1 := Lib.hid st; clear st))
  clear M H0
  clear HC BT
  obtain e1 | ⟨n1, e1⟩ : idOf W = none ∨ ∃ n, idOf W = some n := by cases h : idOf W <;> simp
  · have HB : Hid (lineOf W = .error (placeAt W 1)) := line_id e0 e1
    have M : Hid (∀ v z, Below u1.heap.size u1 z → TakesAt 80 v z ⟨w0.heap.size, 0, none⟩ 99 → Calls Tryd.prog 58 #[.pointer (some ⟨R, 0, none⟩), v] z (StepIs W R N w0 TT 1 none)) := fun v z hb ht => by have := step_numI hf H1.out (word_lt e0) hb ht (by unfold I64; omega) (u := _) rfl; rw [show ((wordAt W 1).bind fun s => numOf s 99) = _ from e1] at this; exact this
    clear e1
    go_wp2_with (first
      | (go_at_call 60; (with_reducible refine (numI_any _ _ _).mono ?_); rintro e wn ⟨v, rfl, hv, bn⟩; have HV := Lib.hid hv; have BN := Lib.hid bn; have hfun : ∃ f a b, v = .func f a b := takes_func hv; clear hv bn)
      | (go_at_call 58; (with_reducible refine (M.out _ _ BN.out HV.out).mono ?_); rintro y ux ⟨rfl, tw⟩; have TW := Lib.hid tw; clear tw))
    all_goals
      refine ⟨rfl, ?_⟩
      unfold TaskIs
      rw [HB.out]
      exact ⟨rfl, TW.out⟩
  have M : Hid (∀ v z, Below u1.heap.size u1 z → TakesAt 80 v z ⟨w0.heap.size, 0, none⟩ 99 → Calls Tryd.prog 58 #[.pointer (some ⟨R, 0, none⟩), v] z (StepIs W R N w0 TT 1 (some (#[.int .i64 n1, .int .i64 0, .int .i64 0, .int .i64 0, .int .i64 0, .slice none 0 0, .slice none 0 0])))) := fun v z hb ht => by have := step_numI hf H1.out (word_lt e0) hb ht (by unfold I64; omega) (u := _) rfl; rw [show ((wordAt W 1).bind fun s => numOf s 99) = _ from e1] at this; exact this
  go_upto_region 3 with (first
    | (go_at_call 60; (with_reducible refine (numI_any _ _ _).mono ?_); rintro e wn ⟨v, rfl, hv, bn⟩; have HV := Lib.hid hv; have BN := Lib.hid bn; have hfun : ∃ f a b, v = .func f a b := takes_func hv; clear hv bn)
    | (go_at_call 58; (with_reducible refine (M.out _ _ BN.out HV.out).mono ?_); rintro y u2 ⟨rfl, st⟩; have H2 := Lib.hid st; clear st))
  clear M H1
  clear HV BN hfun
  obtain e2 | ⟨n2, e2⟩ : numK W 0 = none ∨ ∃ n, numK W 0 = some n := by cases h : numK W 0 <;> simp
  · have HB : Hid (lineOf W = .error (placeAt W 2)) := line_bad (k := 0) e0 e1 (by omega) (fun j hj => absurd hj (Nat.not_lt_zero _)) e2
    have M : Hid (∀ v nb sb z, Below u2.heap.size u2 z → z.cell? ⟨nb, 0, none⟩ = some (.string bC) → z.cell? ⟨sb, 0, none⟩ = some v → TakesAt 82 v z ⟨w0.heap.size, 1, none⟩ 1073741824 → Calls Tryd.prog 58 #[.pointer (some ⟨R, 0, none⟩), .func (.func 83) #[] #[.pointer (some ⟨nb, 0, none⟩), .pointer (some ⟨sb, 0, none⟩)]] z (StepIs W R N w0 TT 2 none)) := fun v nb sb z hb hn hs ht => by have := step_named_numQ hf H2.out (bind_lt e1) hb hn hs ht (by unfold I64; omega) (u := _) rfl; rw [show numAt W 2 bC 1073741824 = _ from e2] at this; exact this
    clear e2
    go_wp2_with (first
      | (go_at_call 61; (with_reducible refine (numQ_any _ _ _).mono ?_); rintro e wn ⟨v, rfl, hv, bn⟩; have HV := Lib.hid hv; have BN := Lib.hid bn; have hfun : ∃ f a b, v = .func f a b := takes_func hv; clear hv bn)
      | (go_at_call 63; (with_reducible refine (named_any _ _ _ hfun).mono ?_); rintro e wd ⟨nb, sb, rfl, hn, hs, bd⟩; have HN := Lib.hid hn; have HS := Lib.hid hs; have HV2 := Lib.hid (HV.out.below bd); have BB := Lib.hid (below_up BN.out bd); clear hn hs bd)
      | (go_at_call 58; (with_reducible refine (M.out _ _ _ _ BB.out HN.out HS.out HV2.out).mono ?_); rintro y ux ⟨rfl, tw⟩; have TW := Lib.hid tw; clear tw))
    all_goals
      refine ⟨rfl, ?_⟩
      unfold TaskIs
      rw [HB.out]
      exact ⟨rfl, TW.out⟩
  have M : Hid (∀ v nb sb z, Below u2.heap.size u2 z → z.cell? ⟨nb, 0, none⟩ = some (.string bC) → z.cell? ⟨sb, 0, none⟩ = some v → TakesAt 82 v z ⟨w0.heap.size, 1, none⟩ 1073741824 → Calls Tryd.prog 58 #[.pointer (some ⟨R, 0, none⟩), .func (.func 83) #[] #[.pointer (some ⟨nb, 0, none⟩), .pointer (some ⟨sb, 0, none⟩)]] z (StepIs W R N w0 TT 2 (some (#[.int .i64 n1, .int .i64 n2, .int .i64 0, .int .i64 0, .int .i64 0, .slice none 0 0, .slice none 0 0])))) := fun v nb sb z hb hn hs ht => by have := step_named_numQ hf H2.out (bind_lt e1) hb hn hs ht (by unfold I64; omega) (u := _) rfl; rw [show numAt W 2 bC 1073741824 = _ from e2] at this; exact this
  go_upto_region 4 with (first
    | (go_at_call 61; (with_reducible refine (numQ_any _ _ _).mono ?_); rintro e wn ⟨v, rfl, hv, bn⟩; have HV := Lib.hid hv; have BN := Lib.hid bn; have hfun : ∃ f a b, v = .func f a b := takes_func hv; clear hv bn)
    | (go_at_call 63; (with_reducible refine (named_any _ _ _ hfun).mono ?_); rintro e wd ⟨nb, sb, rfl, hn, hs, bd⟩; have HN := Lib.hid hn; have HS := Lib.hid hs; have HV2 := Lib.hid (HV.out.below bd); have BB := Lib.hid (below_up BN.out bd); clear hn hs bd)
    | (go_at_call 58; (with_reducible refine (M.out _ _ _ _ BB.out HN.out HS.out HV2.out).mono ?_); rintro y u3 ⟨rfl, st⟩; have H3 := Lib.hid st; clear st))
  clear M H2
  clear HV BN hfun HN HS HV2 BB
  obtain e3 | ⟨n3, e3⟩ : numK W 1 = none ∨ ∃ n, numK W 1 = some n := by cases h : numK W 1 <;> simp
  · have HB : Hid (lineOf W = .error (placeAt W 3)) := line_bad (k := 1) e0 e1 (by omega) (fun j hj => by match j, hj with | 0, _ => exact ⟨_, e2⟩) e3
    have M : Hid (∀ v nb sb z, Below u3.heap.size u3 z → z.cell? ⟨nb, 0, none⟩ = some (.string bD) → z.cell? ⟨sb, 0, none⟩ = some v → TakesAt 82 v z ⟨w0.heap.size, 2, none⟩ 1073741824 → Calls Tryd.prog 58 #[.pointer (some ⟨R, 0, none⟩), .func (.func 83) #[] #[.pointer (some ⟨nb, 0, none⟩), .pointer (some ⟨sb, 0, none⟩)]] z (StepIs W R N w0 TT 3 none)) := fun v nb sb z hb hn hs ht => by have := step_named_numQ hf H3.out (numK_lt e2) hb hn hs ht (by unfold I64; omega) (u := _) rfl; rw [show numAt W 3 bD 1073741824 = _ from e3] at this; exact this
    clear e3
    go_wp2_with (first
      | (go_at_call 61; (with_reducible refine (numQ_any _ _ _).mono ?_); rintro e wn ⟨v, rfl, hv, bn⟩; have HV := Lib.hid hv; have BN := Lib.hid bn; have hfun : ∃ f a b, v = .func f a b := takes_func hv; clear hv bn)
      | (go_at_call 63; (with_reducible refine (named_any _ _ _ hfun).mono ?_); rintro e wd ⟨nb, sb, rfl, hn, hs, bd⟩; have HN := Lib.hid hn; have HS := Lib.hid hs; have HV2 := Lib.hid (HV.out.below bd); have BB := Lib.hid (below_up BN.out bd); clear hn hs bd)
      | (go_at_call 58; (with_reducible refine (M.out _ _ _ _ BB.out HN.out HS.out HV2.out).mono ?_); rintro y ux ⟨rfl, tw⟩; have TW := Lib.hid tw; clear tw))
    all_goals
      refine ⟨rfl, ?_⟩
      unfold TaskIs
      rw [HB.out]
      exact ⟨rfl, TW.out⟩
  have M : Hid (∀ v nb sb z, Below u3.heap.size u3 z → z.cell? ⟨nb, 0, none⟩ = some (.string bD) → z.cell? ⟨sb, 0, none⟩ = some v → TakesAt 82 v z ⟨w0.heap.size, 2, none⟩ 1073741824 → Calls Tryd.prog 58 #[.pointer (some ⟨R, 0, none⟩), .func (.func 83) #[] #[.pointer (some ⟨nb, 0, none⟩), .pointer (some ⟨sb, 0, none⟩)]] z (StepIs W R N w0 TT 3 (some (#[.int .i64 n1, .int .i64 n2, .int .i64 n3, .int .i64 0, .int .i64 0, .slice none 0 0, .slice none 0 0])))) := fun v nb sb z hb hn hs ht => by have := step_named_numQ hf H3.out (numK_lt e2) hb hn hs ht (by unfold I64; omega) (u := _) rfl; rw [show numAt W 3 bD 1073741824 = _ from e3] at this; exact this
  go_upto_region 5 with (first
    | (go_at_call 61; (with_reducible refine (numQ_any _ _ _).mono ?_); rintro e wn ⟨v, rfl, hv, bn⟩; have HV := Lib.hid hv; have BN := Lib.hid bn; have hfun : ∃ f a b, v = .func f a b := takes_func hv; clear hv bn)
    | (go_at_call 63; (with_reducible refine (named_any _ _ _ hfun).mono ?_); rintro e wd ⟨nb, sb, rfl, hn, hs, bd⟩; have HN := Lib.hid hn; have HS := Lib.hid hs; have HV2 := Lib.hid (HV.out.below bd); have BB := Lib.hid (below_up BN.out bd); clear hn hs bd)
    | (go_at_call 58; (with_reducible refine (M.out _ _ _ _ BB.out HN.out HS.out HV2.out).mono ?_); rintro y u4 ⟨rfl, st⟩; have H4 := Lib.hid st; clear st))
  clear M H3
  clear HV BN hfun HN HS HV2 BB
  obtain e4 | ⟨n4, e4⟩ : numK W 2 = none ∨ ∃ n, numK W 2 = some n := by cases h : numK W 2 <;> simp
  · have HB : Hid (lineOf W = .error (placeAt W 4)) := line_bad (k := 2) e0 e1 (by omega) (fun j hj => by match j, hj with | 0, _ => exact ⟨_, e2⟩ | 1, _ => exact ⟨_, e3⟩) e4
    have M : Hid (∀ v nb sb z, Below u4.heap.size u4 z → z.cell? ⟨nb, 0, none⟩ = some (.string bT) → z.cell? ⟨sb, 0, none⟩ = some v → TakesAt 82 v z ⟨w0.heap.size, 3, none⟩ 1073741824 → Calls Tryd.prog 58 #[.pointer (some ⟨R, 0, none⟩), .func (.func 83) #[] #[.pointer (some ⟨nb, 0, none⟩), .pointer (some ⟨sb, 0, none⟩)]] z (StepIs W R N w0 TT 4 none)) := fun v nb sb z hb hn hs ht => by have := step_named_numQ hf H4.out (numK_lt e3) hb hn hs ht (by unfold I64; omega) (u := _) rfl; rw [show numAt W 4 bT 1073741824 = _ from e4] at this; exact this
    clear e4
    go_wp2_with (first
      | (go_at_call 61; (with_reducible refine (numQ_any _ _ _).mono ?_); rintro e wn ⟨v, rfl, hv, bn⟩; have HV := Lib.hid hv; have BN := Lib.hid bn; have hfun : ∃ f a b, v = .func f a b := takes_func hv; clear hv bn)
      | (go_at_call 63; (with_reducible refine (named_any _ _ _ hfun).mono ?_); rintro e wd ⟨nb, sb, rfl, hn, hs, bd⟩; have HN := Lib.hid hn; have HS := Lib.hid hs; have HV2 := Lib.hid (HV.out.below bd); have BB := Lib.hid (below_up BN.out bd); clear hn hs bd)
      | (go_at_call 58; (with_reducible refine (M.out _ _ _ _ BB.out HN.out HS.out HV2.out).mono ?_); rintro y ux ⟨rfl, tw⟩; have TW := Lib.hid tw; clear tw))
    all_goals
      refine ⟨rfl, ?_⟩
      unfold TaskIs
      rw [HB.out]
      exact ⟨rfl, TW.out⟩
  have M : Hid (∀ v nb sb z, Below u4.heap.size u4 z → z.cell? ⟨nb, 0, none⟩ = some (.string bT) → z.cell? ⟨sb, 0, none⟩ = some v → TakesAt 82 v z ⟨w0.heap.size, 3, none⟩ 1073741824 → Calls Tryd.prog 58 #[.pointer (some ⟨R, 0, none⟩), .func (.func 83) #[] #[.pointer (some ⟨nb, 0, none⟩), .pointer (some ⟨sb, 0, none⟩)]] z (StepIs W R N w0 TT 4 (some (#[.int .i64 n1, .int .i64 n2, .int .i64 n3, .int .i64 n4, .int .i64 0, .slice none 0 0, .slice none 0 0])))) := fun v nb sb z hb hn hs ht => by have := step_named_numQ hf H4.out (numK_lt e3) hb hn hs ht (by unfold I64; omega) (u := _) rfl; rw [show numAt W 4 bT 1073741824 = _ from e4] at this; exact this
  go_upto_region 6 with (first
    | (go_at_call 61; (with_reducible refine (numQ_any _ _ _).mono ?_); rintro e wn ⟨v, rfl, hv, bn⟩; have HV := Lib.hid hv; have BN := Lib.hid bn; have hfun : ∃ f a b, v = .func f a b := takes_func hv; clear hv bn)
    | (go_at_call 63; (with_reducible refine (named_any _ _ _ hfun).mono ?_); rintro e wd ⟨nb, sb, rfl, hn, hs, bd⟩; have HN := Lib.hid hn; have HS := Lib.hid hs; have HV2 := Lib.hid (HV.out.below bd); have BB := Lib.hid (below_up BN.out bd); clear hn hs bd)
    | (go_at_call 58; (with_reducible refine (M.out _ _ _ _ BB.out HN.out HS.out HV2.out).mono ?_); rintro y u5 ⟨rfl, st⟩; have H5 := Lib.hid st; clear st))
  clear M H4
  clear HV BN hfun HN HS HV2 BB
  obtain e5 | ⟨n5, e5⟩ : numK W 3 = none ∨ ∃ n, numK W 3 = some n := by cases h : numK W 3 <;> simp
  · have HB : Hid (lineOf W = .error (placeAt W 5)) := line_bad (k := 3) e0 e1 (by omega) (fun j hj => by match j, hj with | 0, _ => exact ⟨_, e2⟩ | 1, _ => exact ⟨_, e3⟩ | 2, _ => exact ⟨_, e4⟩) e5
    have M : Hid (∀ v nb sb z, Below u5.heap.size u5 z → z.cell? ⟨nb, 0, none⟩ = some (.string bP) → z.cell? ⟨sb, 0, none⟩ = some v → TakesAt 80 v z ⟨w0.heap.size, 4, none⟩ 99 → Calls Tryd.prog 58 #[.pointer (some ⟨R, 0, none⟩), .func (.func 83) #[] #[.pointer (some ⟨nb, 0, none⟩), .pointer (some ⟨sb, 0, none⟩)]] z (StepIs W R N w0 TT 5 none)) := fun v nb sb z hb hn hs ht => by have := step_named_numI hf H5.out (numK_lt e4) hb hn hs ht (by unfold I64; omega) (u := _) rfl; rw [show numAt W 5 bP 99 = _ from e5] at this; exact this
    clear e5
    go_wp2_with (first
      | (go_at_call 60; (with_reducible refine (numI_any _ _ _).mono ?_); rintro e wn ⟨v, rfl, hv, bn⟩; have HV := Lib.hid hv; have BN := Lib.hid bn; have hfun : ∃ f a b, v = .func f a b := takes_func hv; clear hv bn)
      | (go_at_call 63; (with_reducible refine (named_any _ _ _ hfun).mono ?_); rintro e wd ⟨nb, sb, rfl, hn, hs, bd⟩; have HN := Lib.hid hn; have HS := Lib.hid hs; have HV2 := Lib.hid (HV.out.below bd); have BB := Lib.hid (below_up BN.out bd); clear hn hs bd)
      | (go_at_call 58; (with_reducible refine (M.out _ _ _ _ BB.out HN.out HS.out HV2.out).mono ?_); rintro y ux ⟨rfl, tw⟩; have TW := Lib.hid tw; clear tw))
    all_goals
      refine ⟨rfl, ?_⟩
      unfold TaskIs
      rw [HB.out]
      exact ⟨rfl, TW.out⟩
  have M : Hid (∀ v nb sb z, Below u5.heap.size u5 z → z.cell? ⟨nb, 0, none⟩ = some (.string bP) → z.cell? ⟨sb, 0, none⟩ = some v → TakesAt 80 v z ⟨w0.heap.size, 4, none⟩ 99 → Calls Tryd.prog 58 #[.pointer (some ⟨R, 0, none⟩), .func (.func 83) #[] #[.pointer (some ⟨nb, 0, none⟩), .pointer (some ⟨sb, 0, none⟩)]] z (StepIs W R N w0 TT 5 (some (#[.int .i64 n1, .int .i64 n2, .int .i64 n3, .int .i64 n4, .int .i64 n5, .slice none 0 0, .slice none 0 0])))) := fun v nb sb z hb hn hs ht => by have := step_named_numI hf H5.out (numK_lt e4) hb hn hs ht (by unfold I64; omega) (u := _) rfl; rw [show numAt W 5 bP 99 = _ from e5] at this; exact this
  go_upto_region 7 with (first
    | (go_at_call 60; (with_reducible refine (numI_any _ _ _).mono ?_); rintro e wn ⟨v, rfl, hv, bn⟩; have HV := Lib.hid hv; have BN := Lib.hid bn; have hfun : ∃ f a b, v = .func f a b := takes_func hv; clear hv bn)
    | (go_at_call 63; (with_reducible refine (named_any _ _ _ hfun).mono ?_); rintro e wd ⟨nb, sb, rfl, hn, hs, bd⟩; have HN := Lib.hid hn; have HS := Lib.hid hs; have HV2 := Lib.hid (HV.out.below bd); have BB := Lib.hid (below_up BN.out bd); clear hn hs bd)
    | (go_at_call 58; (with_reducible refine (M.out _ _ _ _ BB.out HN.out HS.out HV2.out).mono ?_); rintro y u6 ⟨rfl, st⟩; have H6 := Lib.hid st; clear st))
  clear M H5
  clear HV BN hfun HN HS HV2 BB
  have hl6 : 6 ≤ W.length := numK_lt e5
  obtain ⟨o6, e6⟩ : ∃ o, chAt W = o := ⟨_, rfl⟩
  obtain ⟨j6, hj6⟩ : ∃ j, plus1 W = j := ⟨_, rfl⟩
  have hj6' : (if o6.isSome = true then 6 + 1 else 6) = j6 := by rw [← e6]; exact hj6
  have M6 : Hid (∀ v nb sb z, Below u6.heap.size u6 z → z.cell? ⟨nb, 0, none⟩ = some (.string bChunks) → z.cell? ⟨sb, 0, none⟩ = some v → TakesAt 85 v z ⟨w0.heap.size, 5, none⟩ 1073741824 → Calls Tryd.prog 64 #[.pointer (some ⟨R, 0, none⟩), .func (.func 83) #[] #[.pointer (some ⟨nb, 0, none⟩), .pointer (some ⟨sb, 0, none⟩)]] z (fun y w2 => y = .returned (.bool o6.isSome) ∧ Two R w0.heap.size u6 w2 ∧ Two R R w0 w2 ∧ Left w2 R N (endAt W j6) (W.drop j6) ∧ LaidL w2 w0.heap.size w0.heap.size TT #[.int .i64 n1, .int .i64 n2, .int .i64 n3, .int .i64 n4, .int .i64 n5, .slice none 0 0, .slice none 0 0] 5 (o6.getD []))) :=
    fun v nb sb z hb hn hs ht => step_numsQ hf H6.out hb hn hs ht (by unfold I64; omega) rfl rfl (by decide) o6 e6 j6 hj6'
  go_upto_region 8 with (first
    | (go_at_call 65; (with_reducible refine (numsQ_any _ _ _).mono ?_); rintro e wn ⟨v, rfl, hv, bn⟩; have HV := Lib.hid hv; have BN := Lib.hid bn; have hfun : ∃ f a b, v = .func f a b := takes_func hv; clear hv bn)
    | (go_at_call 63; (with_reducible refine (named_any _ _ _ hfun).mono ?_); rintro e wd ⟨nb, sb, rfl, hn, hs, bd⟩; have HN := Lib.hid hn; have HS := Lib.hid hs; have HV2 := Lib.hid (HV.out.below bd); have BB := Lib.hid (below_up BN.out bd); clear hn hs bd)
    | (go_at_call 64; (with_reducible refine (M6.out _ _ _ _ BB.out HN.out HS.out HV2.out).mono ?_); rintro y u7 ⟨rfl, -, t7, l7, d7⟩; have T7 := Lib.hid t7; have L7 := Lib.hid l7; have D7 := Lib.hid d7; clear t7 l7 d7))
  clear M6 H6 HV BN hfun HN HS HV2 BB
  obtain ⟨ch, hch⟩ : ∃ l, o6.getD [] = l := ⟨_, rfl⟩
  rw [hch] at D7
  obtain ⟨a1, c1, bx7, ⟨i7, n7⟩, v7, l7, m7⟩ := D7.out
  have H7 : Hid (Stg W R N w0 TT j6 (#[.int .i64 n1, .int .i64 n2, .int .i64 n3, .int .i64 n4, .int .i64 n5, .slice a1 ch.length c1, .slice none 0 0]) u7) := ⟨T7.out, L7.out, bx7⟩
  have I7 := Lib.hid i7
  have V7 := Lib.hid v7
  clear T7 L7 D7 bx7 i7 v7
  obtain ⟨o7, e7⟩ : ∃ o, usAt W = o := ⟨_, rfl⟩
  obtain ⟨j7, hj7⟩ : ∃ j, plus2 W = j := ⟨_, rfl⟩
  have hj7' : (if o7.isSome = true then j6 + 1 else j6) = j7 := by rw [← e7, ← hj6]; exact hj7
  have e7' : numsAt W j6 bUse 255 = o7 := by rw [← hj6]; exact e7
  have M7 : Hid (∀ v nb sb z, Below u7.heap.size u7 z → z.cell? ⟨nb, 0, none⟩ = some (.string bUse) → z.cell? ⟨sb, 0, none⟩ = some v → TakesAt 88 v z ⟨w0.heap.size, 6, none⟩ 255 → Calls Tryd.prog 64 #[.pointer (some ⟨R, 0, none⟩), .func (.func 83) #[] #[.pointer (some ⟨nb, 0, none⟩), .pointer (some ⟨sb, 0, none⟩)]] z (fun y w2 => y = .returned (.bool o7.isSome) ∧ Two R w0.heap.size u7 w2 ∧ Two R R w0 w2 ∧ Left w2 R N (endAt W j7) (W.drop j7) ∧ LaidL w2 w0.heap.size w0.heap.size TT (#[.int .i64 n1, .int .i64 n2, .int .i64 n3, .int .i64 n4, .int .i64 n5, .slice a1 ch.length c1, .slice none 0 0]) 6 (o7.getD []))) :=
    fun v nb sb z hb hn hs ht => step_numsI hf H7.out hb hn hs ht (by unfold I64; omega) rfl rfl (by decide) o7 e7' j7 hj7'
  go_upto_region 9 with (first
    | (go_at_call 66; (with_reducible refine (numsI_any _ _ _).mono ?_); rintro e wn ⟨v, rfl, hv, bn⟩; have HV := Lib.hid hv; have BN := Lib.hid bn; have hfun : ∃ f a b, v = .func f a b := takes_func hv; clear hv bn)
    | (go_at_call 63; (with_reducible refine (named_any _ _ _ hfun).mono ?_); rintro e wd ⟨nb, sb, rfl, hn, hs, bd⟩; have HN := Lib.hid hn; have HS := Lib.hid hs; have HV2 := Lib.hid (HV.out.below bd); have BB := Lib.hid (below_up BN.out bd); clear hn hs bd)
    | (go_at_call 64; (with_reducible refine (M7.out _ _ _ _ BB.out HN.out HS.out HV2.out).mono ?_); rintro y u8 ⟨rfl, tw, t8, l8, d8⟩; have TW := Lib.hid tw; have T8 := Lib.hid t8; have L8 := Lib.hid l8; have D8 := Lib.hid d8; clear tw t8 l8 d8))
  clear M7 HV BN hfun HN HS HV2 BB
  obtain ⟨us, hus⟩ : ∃ l, o7.getD [] = l := ⟨_, rfl⟩
  rw [hus] at D8
  obtain ⟨a2, c2, bx8, ⟨i8, n8⟩, v8, l8, m8⟩ := D8.out
  obtain ⟨cR, hcR⟩ := H7.out.left.box
  obtain ⟨k1, k2⟩ := ints_two TW.out hcR H7.out.box (by decide) (by decide) I7.out V7.out
  have hb : Box u8 w0.heap.size TT #[.int .i64 n1, .int .i64 n2, .int .i64 n3, .int .i64 n4, .int .i64 n5, .slice a1 ch.length c1, .slice a2 us.length c2] := bx8
  have hle : j7 ≤ W.length := by rw [← hj7]; exact plus2_le hl6
  by_cases ho : j7 < W.length
  · have HB : Hid (lineOf W = .error (placeAt W j7)) := by show _ = _; rw [← hj7]; exact line_over e0 e1 e2 e3 e4 e5 (by rw [hj7]; exact ho)
    have hx : W[j7]? = some W[j7] := by simp [ho]
    have hl := L8.out
    rw [drop_some hx] at hl
    have M := Lib.hid (over_word hl)
    rw [← placeAt_some hx] at M
    clear hl hx
    go_wp2_with (go_at_call 62; (with_reducible refine M.out.mono ?_); rintro y ux ⟨rfl, rfl⟩)
    all_goals
      refine ⟨rfl, ?_⟩
      unfold TaskIs
      rw [HB.out]
      exact ⟨rfl, T8.out⟩
  · have HB : Hid (lineOf W = .ok ⟨n1, n2, n3, n4, n5, ch, us⟩) := by show _ = _; rw [line_ok e0 e1 e2 e3 e4 e5 (by rw [hj7]; exact ho), e6, e7, hch, hus]
    have hl := L8.out
    have hjl : j7 = W.length := by omega
    rw [List.drop_of_length_le (by omega), hjl] at hl
    have M := Lib.hid (over_nil hl)
    obtain ⟨aR, cR2, bR, -⟩ := hl
    have BR := Lib.hid bR
    have I8 := Lib.hid i8
    have V8 := Lib.hid v8
    have K1 := Lib.hid k1
    have K2 := Lib.hid k2
    have HBX := Lib.hid hb
    clear i8 v8 k1 k2 bR hcR H7 I7 V7 TW L8 D8 bx8 hle hjl ho hj7 hj7' hj6 hj6' e7' e0 e1 e2 e3 e4 e5 e6 e7 hch hus
    go_upto_region 10 with (go_at_call 62; (with_reducible refine M.out.mono ?_); rintro y ux ⟨rfl, rfl⟩)
    have r0 : ux.cell? ⟨w0.heap.size, 0, none⟩ = some (.int .i64 n1) := blk_cell hb 0
    have r1 : ux.cell? ⟨w0.heap.size, 1, none⟩ = some (.int .i64 n2) := blk_cell hb 1
    have r2 : ux.cell? ⟨w0.heap.size, 2, none⟩ = some (.int .i64 n3) := blk_cell hb 2
    have r3 : ux.cell? ⟨w0.heap.size, 3, none⟩ = some (.int .i64 n4) := blk_cell hb 3
    have r4 : ux.cell? ⟨w0.heap.size, 4, none⟩ = some (.int .i64 n5) := blk_cell hb 4
    have r5 : ux.cell? ⟨w0.heap.size, 5, none⟩ = some (.slice a1 ch.length c1) := blk_cell hb 5
    have r6 : ux.cell? ⟨w0.heap.size, 6, none⟩ = some (.slice a2 us.length c2) := blk_cell hb 6
    have f0 := blk_free hb 0
    have f1 := blk_free hb 1
    have f2 := blk_free hb 2
    have f3 := blk_free hb 3
    have f4 := blk_free hb 4
    have f5 := blk_free hb 5
    have f6 := blk_free hb 6
    have hr := lt_of_block hb
    have HF : Hid (∀ y0 y1 y2 y3 y4 y5 y6 : Value, TaskIs W R w0 (.returned (TV.mk n1 n2 n3 n4 n5 a1 ch c1 a2 us c2).val) (((((((ux.setCell ⟨w0.heap.size, 0, none⟩ y0).setCell ⟨w0.heap.size, 1, none⟩ y1).setCell ⟨w0.heap.size, 2, none⟩ y2).setCell ⟨w0.heap.size, 3, none⟩ y3).setCell ⟨w0.heap.size, 4, none⟩ y4).setCell ⟨w0.heap.size, 5, none⟩ y5).setCell ⟨w0.heap.size, 6, none⟩ y6)) := by
      intro y0 y1 y2 y3 y4 y5 y6
      have q : Two w0.heap.size w0.heap.size ux (((((((ux.setCell ⟨w0.heap.size, 0, none⟩ y0).setCell ⟨w0.heap.size, 1, none⟩ y1).setCell ⟨w0.heap.size, 2, none⟩ y2).setCell ⟨w0.heap.size, 3, none⟩ y3).setCell ⟨w0.heap.size, 4, none⟩ y4).setCell ⟨w0.heap.size, 5, none⟩ y5).setCell ⟨w0.heap.size, 6, none⟩ y6) := ((((((((Two.refl _ _ _).setT _).setT _).setT _).setT _).setT _).setT _).setT _)
      have q1 := ints_two q HBX.out HBX.out (by decide) (by decide) K1.out K2.out
      have q2 := ints_two q HBX.out HBX.out (by decide) (by decide) I8.out V8.out
      unfold TaskIs
      rw [HB.out]
      exact ⟨_, rfl, rfl, ⟨q1.2, q2.2, l7, m7, l8, m8⟩, ⟨q1.1, n7⟩, ⟨q2.1, n8⟩, ((((((((T8.out.setNew (Nat.le_refl _) _).setNew (Nat.le_refl _) _).setNew (Nat.le_refl _) _).setNew (Nat.le_refl _) _).setNew (Nat.le_refl _) _).setNew (Nat.le_refl _) _).setNew (Nat.le_refl _) _)), _, q.box BR.out hf.ne hf.ne⟩
    clear hb M HBX K1 K2 I8 V8 HB BR T8
    go_wp2_with fail
    exact bodyPost_ret (v := .agg #[.int .i64 n1, .int .i64 n2, .int .i64 n3, .int .i64 n4, .int .i64 n5, .slice a1 ch.length c1, .slice a2 us.length c2]) (by simp [results, Tryd.results41, go_sem, r0, r1, r2, r3, r4, r5, r6, hr]) rfl (HF.out _ _ _ _ _ _ _)
end Go.Proofs.YtlpffgmfgkleiaaDoor

/-
  Words of texts that are put together, in plain words.
-/
namespace Go.Proofs.YtlpffgmfgkleiaaDoor
open Go.RowKit Go.Maps

theorem byteAt_left (a c : ByteArray) {i : Nat} (h : i < a.size) : byteAt (a ++ c) i = byteAt a i := by
  have h2 : i < (a ++ c).size := by rw [ByteArray.size_append]; omega
  rw [(byteAt_in _ h2).2, (byteAt_in a h).2, ByteArray.getElem_append_left h]
theorem byteAt_right (a c : ByteArray) (i : Nat) : byteAt (a ++ c) (a.size + i) = byteAt c i := by
  rcases Nat.lt_or_ge i c.size with h | h
  · have h2 : a.size + i < (a ++ c).size := by rw [ByteArray.size_append]; omega
    rw [(byteAt_in _ h2).2, (byteAt_in c h).2, ByteArray.getElem_append_right (by omega)]
    simp only [Nat.add_sub_cancel_left]
  · rw [byteAt_end c h, byteAt_end (a ++ c) (by rw [ByteArray.size_append]; omega)]
theorem ba_nil {x : ByteArray} (h : x.size = 0) : x = ByteArray.empty := by
  apply ByteArray.ext
  have : x.data.size = 0 := h
  rw [Array.size_eq_zero_iff.1 this]; rfl
theorem ba_add_nil (x : ByteArray) : x ++ ByteArray.empty = x := by
  apply ByteArray.ext
  rw [ByteArray.data_append]
  show x.data ++ #[] = x.data
  simp
theorem ba_nil_add (x : ByteArray) : ByteArray.empty ++ x = x := by
  apply ByteArray.ext
  rw [ByteArray.data_append]
  show #[] ++ x.data = x.data
  simp
theorem ex_left (a c : ByteArray) {f k : Nat} (h : k ≤ a.size) : (a ++ c).extract f k = a.extract f k := by
  rw [ByteArray.extract_append, show k - a.size = 0 by omega, ba_nil (x := c.extract (f - a.size) 0) (by rw [ByteArray.size_extract]; omega), ba_add_nil]
theorem ex_right (a c : ByteArray) (f k : Nat) : (a ++ c).extract (a.size + f) (a.size + k) = c.extract f k := by
  rw [ByteArray.extract_append, ba_nil (x := a.extract (a.size + f) (a.size + k)) (by rw [ByteArray.size_extract]; omega), ba_nil_add, Nat.add_sub_cancel_left, Nat.add_sub_cancel_left]

/-- What the answer knows at a place depends on the bytes ahead alone. -/
theorem wrun_same (s t : ByteArray) : ∀ i, (∀ j, j < i → byteAt s j = byteAt t j) → (∀ f k, k < i → s.extract f k = t.extract f k) → wrun s i = wrun t i
  | 0, _, _ => rfl
  | i + 1, h, e => by
    rw [wrun, wrun, wrun_same s t i (fun j hj => h j (by omega)) (fun f k hk => e f k (by omega))]
    unfold wstep
    rw [h i (by omega), e _ i (by omega)]
/-- How many lines' ends stand ahead of a place. -/
def ends (s : ByteArray) : Nat → Nat
  | 0 => 0
  | i + 1 => ends s i + if byteAt s i = 10 then 1 else 0
theorem wrun_ln (s : ByteArray) : ∀ i, (wrun s i).ln = 1 + (ends s i : Nat)
  | 0 => rfl
  | i + 1 => by
    rw [wrun, ends]
    have ih := wrun_ln s i
    generalize wrun s i = q at ih ⊢
    unfold wstep
    simp only []
    split
    · simp only []
      split <;> omega
    · rename_i h
      have : ¬ byteAt s i = 10 := fun q => h (.inl q)
      rw [if_neg this]
      simp only []; omega
/-- Behind a line's end nothing is under way. -/
theorem wrun_nl (s : ByteArray) {i : Nat} (h : byteAt s i = 10) : (wrun s (i + 1)).fr = -1 ∧ (wrun s (i + 1)).off = false := by
  rw [wrun]; unfold wstep
  simp only []
  rw [if_pos (.inl h)]
  simp only []
  exact ⟨trivial, by rw [if_pos h]⟩
def shiftW (p : Nat) (k : Int) (x : WV) : WV := ⟨x.at_ + p, x.ln + k, x.tx⟩
/-- What the answer knows behind a first text that ends a line. -/
theorem wrun_on (s b : ByteArray) (p : Nat) (q : LS) (hq : wrun s p = q) (hf : q.fr = -1) (ho : q.off = false) (hb : ∀ j, byteAt s (p + j) = byteAt b j) (he : ∀ f k, s.extract (p + f) (p + k) = b.extract f k) : ∀ j, j ≤ b.size + 1 →
    wrun s (p + j) = ⟨q.out ++ (wrun b j).out.map (shiftW p (q.ln - 1)), q.ln - 1 + (wrun b j).ln, if (wrun b j).fr < 0 then -1 else (wrun b j).fr + p, (wrun b j).off⟩
  | 0, _ => by
    rw [Nat.add_zero, hq]
    obtain ⟨o, l, f, n⟩ := q
    simp only [] at hf ho
    subst hf ho
    simp [wrun]
  | j + 1, hj => by
    rw [← Nat.add_assoc, wrun, wrun_on s b p q hq hf ho hb he j (by omega), wrun]
    have iv := wrun_inv b j (by omega)
    generalize wrun b j = r at iv ⊢
    obtain ⟨o, l, f, n⟩ := r
    simp only [] at iv
    unfold wstep
    rw [hb j]
    simp only []
    by_cases h1 : byteAt b j = 10 ∨ (n || decide (byteAt b j = 35)) = true ∨ byteAt b j = 32 ∨ byteAt b j = 9
    · rw [if_pos h1, if_pos h1]
      simp only [LS.mk.injEq]
      refine ⟨?_, ?_, by rw [if_pos (by omega)], trivial⟩
      · by_cases hneg : f < 0
        · rw [if_pos hneg, if_pos hneg, if_pos (by omega)]
        · rw [if_neg hneg, if_neg hneg, if_neg (by omega), List.map_append, List.append_assoc]
          have e1 : (f + (p : Int)).toNat = p + f.toNat := by omega
          rw [e1, he]
          simp only [List.map_cons, List.map_nil, shiftW]
          congr 2
          congr 2
          omega
      · split <;> omega
    · rw [if_neg h1, if_neg h1]
      simp only [LS.mk.injEq, true_and, and_true]
      by_cases hneg : f < 0
      · rw [if_pos hneg, if_pos hneg, if_pos (by omega), if_neg (by omega)]
        omega
      · rw [if_neg hneg, if_neg hneg, if_neg (by omega), if_neg (by omega)]
def nl : ByteArray := ⟨#[10]⟩
/-- The words of two texts with a line's end between them. -/
theorem words_parts (a b : ByteArray) : wordsOf (a ++ nl ++ b) = wordsOf a ++ (wordsOf b).map (shiftW (a.size + 1) (ends a a.size + 1 : Nat)) := by
  have hn : nl.size = 1 := rfl
  have h1 : wrun (a ++ nl ++ b) (a.size + 1) = wrun a (a.size + 1) := by
    have hs : byteAt (a ++ nl ++ b) a.size = 10 := by
      rw [byteAt_left _ _ (by rw [ByteArray.size_append]; omega)]
      have := byteAt_right a nl 0
      rw [Nat.add_zero] at this
      rw [this]; rfl
    refine wrun_same _ _ _ (fun j hj => ?_) (fun f k hk => ?_)
    · rcases Nat.lt_or_ge j a.size with q | q
      · rw [byteAt_left _ _ (by rw [ByteArray.size_append]; omega), byteAt_left _ _ q]
      · rw [show j = a.size by omega, hs, byteAt_end a (Nat.le_refl _)]
    · rw [ex_left _ _ (by rw [ByteArray.size_append]; omega), ex_left _ _ (by omega)]
  have hz := wrun_nl a (byteAt_end a (Nat.le_refl _))
  have hp : (a ++ nl).size = a.size + 1 := by rw [ByteArray.size_append, hn]
  have hl := wrun_ln a (a.size + 1)
  rw [ends, byteAt_end a (Nat.le_refl _), if_pos rfl] at hl
  have := wrun_on (a ++ nl ++ b) b (a.size + 1) _ h1 hz.1 hz.2 (fun j => by rw [← hp]; exact byteAt_right _ _ j) (fun f k => by rw [← hp]; exact ex_right _ _ f k) (b.size + 1) (by omega)
  unfold wordsOf
  rw [ByteArray.size_append, hp, show a.size + 1 + b.size + 1 = a.size + 1 + (b.size + 1) by omega, this, hl]
  simp only []
  congr 3
  omega
end Go.Proofs.YtlpffgmfgkleiaaDoor

/-
  Words of texts with a note, in plain words.
-/
namespace Go.Proofs.YtlpffgmfgkleiaaDoor
open Go.RowKit Go.Maps

/-- Behind a note's mark nothing counts up to the line's end. -/
theorem wrun_off (s : ByteArray) (p : Nat) (hf : (wrun s p).fr = -1) (ho : (wrun s p).off = true) : ∀ n, (∀ j, j < n → byteAt s (p + j) ≠ 10) → wrun s (p + n) = wrun s p
  | 0, _ => rfl
  | n + 1, h => by
    rw [← Nat.add_assoc, wrun, wrun_off s p hf ho n (fun j hj => h j (by omega))]
    have h10 := h n (by omega)
    generalize wrun s p = q at hf ho ⊢
    obtain ⟨o, l, f, b⟩ := q
    simp only [] at hf ho
    subst hf ho
    unfold wstep
    simp only [Bool.true_or]
    rw [if_pos (.inr (.inl trivial)), if_pos (by omega), if_neg h10, if_neg h10]
/-- The mark of a note. -/
theorem wrun_mark (s : ByteArray) {p : Nat} (h : byteAt s p = 35) : (wrun s (p + 1)).fr = -1 ∧ (wrun s (p + 1)).off = true := by
  rw [wrun]; unfold wstep
  simp only []
  have e : ((wrun s p).off || decide (byteAt s p = 35)) = true := by rw [h]; simp
  rw [if_pos (.inr (.inl e)), e]
  simp only []
  exact ⟨trivial, by rw [if_neg (by omega)]⟩
/-- At the text's end, where no word is under way, nothing is added. -/
theorem words_end (s : ByteArray) (h : (wrun s s.size).fr = -1) : wordsOf s = (wrun s s.size).out := by
  unfold wordsOf
  rw [wrun]; unfold wstep
  simp only []
  rw [if_pos (.inl (byteAt_end s (Nat.le_refl _))), h]
  simp
def mark : ByteArray := ⟨#[35]⟩
def gap : ByteArray := ⟨#[32, 9]⟩
/-- A note behind a text changes no word of it. -/
theorem words_note (x y : ByteArray) (hy : ∀ j, j < y.size → byteAt y j ≠ 10) : wordsOf (x ++ mark ++ y) = (wrun (x ++ mark) (x.size + 1)).out := by
  have hm : mark.size = 1 := rfl
  have hp : (x ++ mark).size = x.size + 1 := by rw [ByteArray.size_append, hm]
  have hz : (x ++ mark ++ y).size = x.size + 1 + y.size := by rw [ByteArray.size_append, hp]
  have h1 : wrun (x ++ mark ++ y) (x.size + 1) = wrun (x ++ mark) (x.size + 1) := by
    refine wrun_same _ _ _ (fun j hj => ?_) (fun f k hk => ?_)
    · rw [byteAt_left _ _ (by omega)]
    · rw [ex_left _ _ (by omega)]
  have hs : byteAt (x ++ mark) x.size = 35 := by
    have := byteAt_right x mark 0
    rw [Nat.add_zero] at this
    rw [this]; rfl
  obtain ⟨f1, f2⟩ := wrun_mark (x ++ mark) hs
  rw [← h1] at f1 f2 ⊢
  have := wrun_off (x ++ mark ++ y) (x.size + 1) f1 f2 y.size (fun j hj => by
    have e := byteAt_right (x ++ mark) y j
    rw [hp] at e
    rw [e]; exact hy j hj)
  rw [words_end, hz, this]
  rw [hz, this]; exact f1
theorem words_note_same (x y : ByteArray) (hy : ∀ j, j < y.size → byteAt y j ≠ 10) : wordsOf (x ++ mark ++ y) = wordsOf (x ++ mark) := by
  rw [words_note x y hy, ← words_note x ByteArray.empty (fun j hj => absurd hj (Nat.not_lt_zero _)), ba_add_nil]
/-- Blanks and a note behind a text change no word of it. -/
theorem words_gap (x y : ByteArray) (hy : ∀ j, j < y.size → byteAt y j ≠ 10) : wordsOf (x ++ gap ++ mark ++ y) = wordsOf x := by
  rw [words_note (x ++ gap) y hy]
  have hg : gap.size = 2 := rfl
  have hm : mark.size = 1 := rfl
  have h0 : wrun (x ++ gap ++ mark) x.size = wrun x x.size := by
    refine wrun_same _ _ _ (fun j hj => ?_) (fun f k hk => ?_)
    · rw [byteAt_left _ _ (by rw [ByteArray.size_append]; omega), byteAt_left _ _ (by omega)]
    · rw [ex_left _ _ (by rw [ByteArray.size_append]; omega), ex_left _ _ (by omega)]
  have hs : (x ++ gap).size = x.size + 2 := by rw [ByteArray.size_append, hg]
  have hex : ∀ f, (x ++ gap ++ mark).extract f x.size = x.extract f x.size := fun f => by
    rw [ex_left _ _ (by omega), ex_left _ _ (by omega)]
  have b0 : byteAt (x ++ gap ++ mark) x.size = 32 := by
    rw [byteAt_left _ _ (by omega)]
    have := byteAt_right x gap 0
    rw [Nat.add_zero] at this
    rw [this]; rfl
  have b1 : byteAt (x ++ gap ++ mark) (x.size + 1) = 9 := by
    rw [byteAt_left _ _ (by omega), byteAt_right x gap 1]; rfl
  have b2 : byteAt (x ++ gap ++ mark) (x.size + 1 + 1) = 35 := by
    have := byteAt_right (x ++ gap) mark 0
    rw [hs, Nat.add_zero] at this
    rw [this]; rfl
  have be := byteAt_end x (Nat.le_refl x.size)
  rw [hs]
  unfold wordsOf
  rw [show x.size + 2 + 1 = x.size + 1 + 1 + 1 by omega]
  simp only [wrun]
  rw [h0]
  generalize wrun x x.size = q
  obtain ⟨o, l, f, b⟩ := q
  unfold wstep
  rw [b0, b1, b2, be, hex]
  simp
/-- A text without a line's end. -/
theorem ends_none (s : ByteArray) : ∀ i, (∀ j, j < i → byteAt s j ≠ 10) → ends s i = 0
  | 0, _ => rfl
  | i + 1, h => by rw [ends, ends_none s i (fun j hj => h j (by omega)), if_neg (h i (by omega))]
end Go.Proofs.YtlpffgmfgkleiaaDoor

/-
  Where the words of a text stand, in plain words.
-/
namespace Go.Proofs.YtlpffgmfgkleiaaDoor
open Go.RowKit Go.Maps

/-- A byte that no word has. -/
def Sep (c : Nat) : Prop := c = 10 ∨ c = 35 ∨ c = 32 ∨ c = 9
/-- A word that stands in a text, up to a place. -/
structure Stands (s : ByteArray) (i : Nat) (x : WV) : Prop where
  lo : 0 ≤ x.at_
  hi : x.at_.toNat + x.tx.size ≤ i
  is : x.tx = s.extract x.at_.toNat (x.at_.toNat + x.tx.size)
  some : 0 < x.tx.size
  ln : x.ln = 1 + (ends s x.at_.toNat : Nat)
  no : ∀ k, x.at_.toNat ≤ k → k < x.at_.toNat + x.tx.size → ¬ Sep (byteAt s k)
def WV.till (x : WV) : Nat := x.at_.toNat + x.tx.size
/-- Blanks and tabs alone. -/
def Blank (s : ByteArray) (f k : Nat) : Prop := ∀ j, f ≤ j → j < k → byteAt s j = 32 ∨ byteAt s j = 9
/-- What stands between a word and the next one. -/
structure Next (s : ByteArray) (x : WV) (p : Nat) (ln : Int) : Prop where
  le : x.till ≤ p
  lnle : x.ln ≤ ln
  same : x.ln = ln → x.till < p ∧ Blank s x.till p
theorem ends_mono (s : ByteArray) {i j : Nat} (h : i ≤ j) : ends s i ≤ ends s j := by
  induction j with
  | zero => have : i = 0 := by omega
            subst this; exact Nat.le_refl _
  | succ j ih =>
    rcases Nat.lt_or_ge j i with q | q
    · have : i = j + 1 := by omega
      subst this; exact Nat.le_refl _
    · rw [ends]; have := ih q; omega
theorem ends_same (s : ByteArray) (i : Nat) : ∀ k, (∀ j, i ≤ j → j < i + k → byteAt s j ≠ 10) → ends s (i + k) = ends s i
  | 0, _ => rfl
  | k + 1, h => by
    rw [← Nat.add_assoc, ends, ends_same s i k (fun j h1 h2 => h j h1 (by omega)), if_neg (h (i + k) (by omega) (by omega)), Nat.add_zero]
/-- What holds of the words at each place of the text. -/
structure l_Found (s : ByteArray) (i : Nat) (q : LS) : Prop where
  all : ∀ x ∈ q.out, Stands s i x
  row : ∀ (k : Nat) (x y : WV), q.out[k]? = some x → q.out[k + 1]? = some y → Next s x y.at_.toNat y.ln
  off : q.off = true → q.fr < 0
  run : 0 ≤ q.fr → q.fr < i ∧ (∀ j, q.fr.toNat ≤ j → j < i → ¬ Sep (byteAt s j)) ∧ ∀ x, q.out.getLast? = some x → Next s x q.fr.toNat q.ln
  rest : q.fr < 0 → ∀ x, q.out.getLast? = some x → x.till < i ∧ x.ln ≤ q.ln ∧ (x.ln = q.ln → q.off = false → Blank s x.till i)
theorem Stands.up {s : ByteArray} {i j : Nat} {x : WV} (h : Stands s i x) (hj : i ≤ j) : Stands s j x := ⟨h.lo, by have := h.hi; omega, h.is, h.some, h.ln, h.no⟩
theorem row_add {s : ByteArray} {l : List WV} {z : WV} (h : ∀ (k : Nat) (x y : WV), l[k]? = some x → l[k + 1]? = some y → Next s x y.at_.toNat y.ln) (hz : ∀ x, l.getLast? = some x → Next s x z.at_.toNat z.ln) :
    ∀ (k : Nat) (x y : WV), (l ++ [z])[k]? = some x → (l ++ [z])[k + 1]? = some y → Next s x y.at_.toNat y.ln := by
  intro k x y hx hy
  rcases Nat.lt_or_ge (k + 1) l.length with q | q
  · rw [List.getElem?_append_left (by omega)] at hx
    rw [List.getElem?_append_left q] at hy
    exact h k x y hx hy
  · have h2 : k + 1 = l.length := by
      have := (List.getElem?_eq_some_iff.1 hy).1
      simp at this; omega
    rw [List.getElem?_append_left (by omega)] at hx
    rw [h2, List.getElem?_append_right (Nat.le_refl _)] at hy
    simp at hy; subst hy
    refine hz x ?_
    rw [List.getLast?_eq_getElem?, show l.length - 1 = k by omega]; exact hx
theorem found (s : ByteArray) : ∀ i, i ≤ s.size + 1 → l_Found s i (wrun s i)
  | 0, _ => ⟨fun x h => by simp [wrun] at h, fun k x y h => by simp [wrun] at h, fun h => by simp [wrun] at h, fun h => by simp [wrun] at h, fun _ x h => by simp [wrun] at h⟩
  | i + 1, h => by
    have ih := found s i (by omega)
    have il := wrun_ln s i
    rw [wrun]
    generalize wrun s i = q at ih il ⊢
    obtain ⟨o, l, f, b⟩ := q
    obtain ⟨hall, hrow, hoff, hrun, hrest⟩ := ih
    simp only [] at hall hrow hoff hrun hrest il
    unfold wstep
    simp only []
    by_cases hc : byteAt s i = 10 ∨ (b || decide (byteAt s i = 35)) = true ∨ byteAt s i = 32 ∨ byteAt s i = 9
    · rw [if_pos hc]
      by_cases hf : f < 0
      · rw [if_pos hf]
        refine ⟨fun x hx => (hall x hx).up (by omega), hrow, fun _ => by simp only []; omega, fun z => by simp only [] at z; omega, fun _ x hx => ?_⟩
        obtain ⟨r1, r2, r3⟩ := hrest hf x hx
        simp only []
        by_cases h10 : byteAt s i = 10
        · rw [if_pos h10]
          exact ⟨by omega, by omega, fun z => by omega⟩
        · rw [if_neg h10, if_neg h10]
          refine ⟨by omega, r2, fun z zo => ?_⟩
          simp only [Bool.or_eq_false_iff, decide_eq_false_iff_not] at zo
          intro j hj1 hj2
          rcases Nat.lt_or_ge j i with q | q
          · exact r3 z zo.1 j hj1 q
          · have : j = i := by omega
            subst this
            rcases hc with g | g | g | g
            · exact absurd g h10
            · simp [zo] at g
            · exact .inl g
            · exact .inr g
      · rw [if_neg hf]
        obtain ⟨g1, g2, g3⟩ := hrun (by omega)
        obtain ⟨p, rfl⟩ : ∃ p : Nat, f = p := ⟨f.toNat, by omega⟩
        have hbf : b = false := by
          cases b with
          | false => rfl
          | true => have := hoff rfl; omega
        simp only [Int.toNat_natCast] at g2 g3 ⊢
        have hip : i ≤ s.size := by omega
        have hsz : (s.extract p i).size = i - p := by rw [ByteArray.size_extract]; omega
        have hend : ends s i = ends s p := by
          have := ends_same s p (i - p) (fun j h1 h2 q => g2 j h1 (by omega) (.inl q))
          rwa [show p + (i - p) = i by omega] at this
        have hnew : Stands s (i + 1) ⟨p, l, s.extract p i⟩ := by
          refine ⟨by simp, ?_, ?_, ?_, ?_, ?_⟩
          · simp only [Int.toNat_natCast, hsz]; omega
          · simp only [Int.toNat_natCast, hsz]; rw [show p + (i - p) = i by omega]
          · simp only [hsz]; omega
          · simp only [Int.toNat_natCast]; rw [il, hend]
          · simp only [Int.toNat_natCast, hsz]; exact fun k h1 h2 => g2 k h1 (by omega)
        have htill : WV.till ⟨p, l, s.extract p i⟩ = i := by
          unfold WV.till; simp only [Int.toNat_natCast, hsz]; omega
        refine ⟨fun x hx => ?_, row_add hrow (fun x hx => by simpa using g3 x hx), fun _ => by simp only []; omega, fun z => by simp only [] at z; omega, fun _ x hx => ?_⟩
        · rcases List.mem_append.1 hx with q | q
          · exact (hall x q).up (by omega)
          · simp at q; subst q; exact hnew
        · simp only [List.getLast?_append, List.getLast?_singleton, Option.some_or, Option.some.injEq] at hx
          subst hx
          simp only []
          rw [htill]
          by_cases h10 : byteAt s i = 10
          · rw [if_pos h10]
            exact ⟨by omega, by omega, fun z => by omega⟩
          · rw [if_neg h10, if_neg h10]
            refine ⟨by omega, Int.le_refl _, fun z zo => ?_⟩
            simp only [Bool.or_eq_false_iff, decide_eq_false_iff_not] at zo
            intro j hj1 hj2
            have : j = i := by omega
            subst this
            rcases hc with g | g | g | g
            · exact absurd g h10
            · simp [zo] at g
            · exact .inl g
            · exact .inr g
    · rw [if_neg hc]
      simp only [not_or, Bool.or_eq_true, decide_eq_true_eq] at hc
      obtain ⟨n1, ⟨n2, n3⟩, n4, n5⟩ := hc
      have hbf : b = false := by simpa using n2
      have hns : ¬ Sep (byteAt s i) := by
        rintro (g | g | g | g)
        · exact n1 g
        · exact n3 g
        · exact n4 g
        · exact n5 g
      by_cases hf : f < 0
      · rw [if_pos hf]
        refine ⟨fun x hx => (hall x hx).up (by omega), hrow, (fun z => by simp only [] at z; rw [hbf] at z; cases z), fun _ => ?_, fun z => by simp only [] at z; omega⟩
        simp only [Int.toNat_natCast]
        refine ⟨by omega, fun j h1 h2 => ?_, fun x hx => ?_⟩
        · have : j = i := by omega
          subst this; exact hns
        · obtain ⟨r1, r2, r3⟩ := hrest hf x hx
          exact ⟨by omega, r2, fun z => ⟨r1, r3 z hbf⟩⟩
      · rw [if_neg hf]
        obtain ⟨g1, g2, g3⟩ := hrun (by omega)
        refine ⟨fun x hx => (hall x hx).up (by omega), hrow, (fun z => by simp only [] at z; rw [hbf] at z; cases z), fun _ => ?_, fun z => by simp only [] at z; omega⟩
        simp only []
        refine ⟨by omega, fun j h1 h2 => ?_, g3⟩
        rcases Nat.lt_or_ge j i with q | q
        · exact g2 j h1 q
        · have : j = i := by omega
          subst this; exact hns
theorem Stands.in_ {s : ByteArray} {i : Nat} {x : WV} (h : Stands s i x) : x.till ≤ s.size := by
  have h1 := h.is
  have h2 := h.some
  have h3 : x.tx.size = min (x.at_.toNat + x.tx.size) s.size - x.at_.toNat := by
    have := congrArg ByteArray.size h1
    rwa [ByteArray.size_extract] at this
  unfold WV.till; omega
/-- Where the words of a text stand. -/
theorem words_found (s : ByteArray) : (∀ x ∈ wordsOf s, Stands s (s.size + 1) x) ∧ ∀ (k : Nat) (x y : WV), (wordsOf s)[k]? = some x → (wordsOf s)[k + 1]? = some y → Next s x y.at_.toNat y.ln :=
  ⟨(found s (s.size + 1) (Nat.le_refl _)).all, (found s (s.size + 1) (Nat.le_refl _)).row⟩
end Go.Proofs.YtlpffgmfgkleiaaDoor

/-
  The walk over what tells a text's words one by one.
-/
namespace Go.Proofs.YtlpffgmfgkleiaaDoor
open Go.RowKit Go.Maps Go.Shelf
attribute [local go_sem] Oper.semAt_some

theorem parts_any (r : Int) (B : Bool) (hB : decide (r = 32 ∨ r = 9 ∨ r = 10) = B) (w : World) : Calls Tryd.prog 77 #[.int .i32 r] w fun e w' => e = .returned (.bool B) ∧ w' = w := by
  have HB := Lib.hid hB
  clear hB
  go_enter Tryd.func77, Tryd.ntmps77
  by_cases h32 : r = 32
  · have HH : Hid (B = true) := by show _ = _; rw [← HB.out]; exact decide_eq_true (.inl h32)
    have d1 : (r == 32) = true := beq_iff_eq.2 h32
    clear h32
    go_wp2
    go_ret
    exact ⟨by rw [HH.out]; rfl, rfl⟩
  · have d1 : (r == 32) = false := beq_eq_false_iff_ne.2 h32
    by_cases h9 : r = 9
    · have HH : Hid (B = true) := by show _ = _; rw [← HB.out]; exact decide_eq_true (.inr (.inl h9))
      have d2 : (r == 9) = true := beq_iff_eq.2 h9
      clear h32 h9
      go_wp2
      go_ret
      exact ⟨by rw [HH.out]; rfl, rfl⟩
    · have d2 : (r == 9) = false := beq_eq_false_iff_ne.2 h9
      by_cases h10 : r = 10
      · have HH : Hid (B = true) := by show _ = _; rw [← HB.out]; exact decide_eq_true (.inr (.inr h10))
        have d3 : (r == 10) = true := beq_iff_eq.2 h10
        clear h32 h9 h10
        go_wp2
        go_ret
        exact ⟨by rw [HH.out]; rfl, rfl⟩
      · have HH : Hid (B = false) := by show _ = _; rw [← HB.out]; exact decide_eq_false (by rintro (z | z | z) <;> first | exact h32 z | exact h9 z | exact h10 z)
        have d3 : (r == 10) = false := beq_eq_false_iff_ne.2 h10
        clear h32 h9 h10
        go_wp2
        go_ret
        exact ⟨by rw [HH.out]; rfl, rfl⟩

theorem parts_fn : Fence.wide.fn 77 := trivial
/-- What a round keeps: what is walked over, and the box of the text. -/
def KpW (Bn : Nat) (s : ByteArray) (W W' : World) : Prop := KeepsWalks W W' ∧ (Go.Boxed W Bn 9 (.string s) → Go.Boxed W' Bn 9 (.string s))
theorem kpW_t {Bn : Nat} {s : ByteArray} {A B C : World} (h : KpW Bn s A B) (k : KpW Bn s B C) : KpW Bn s A C := ⟨h.1.trans k.1, fun z => k.2 (h.2 z)⟩
theorem kpW_b {Bn : Nat} {s : ByteArray} {B : Nat} (W : World) (l : Nat) (o o' : Obj) (_ : B ≤ l) (h : W.heap[l]? = some o) (hc : o.isCells = false) (hw : o.isWalk = false) : KpW Bn s W (W.putObj l o') := by
  refine ⟨KeepsWalks.putObj _ h hw, fun z => ?_⟩
  by_cases e : Bn = l
  · subst e
    rw [show W.heap[Bn]? = _ from z] at h
    cases h
    cases hc
  · exact (World.putObj_heap_other e).trans z

set_option maxRecDepth 100000 in
set_option maxHeartbeats 4000000 in
theorem words_in (n : Nat) (hn : 1 ≤ n) (l Bn : Nat) (s : ByteArray) (hs : s.size ≤ 900000) (J Jx : List WV → World → Prop) (W : World) (hJ : AbidesFrom W.heap.size J)
    (hY : ∀ pre x W1, 1 ≤ x.ln → J pre W1 → pre.length < s.size + 1 → YieldAt Fence.wide (n - 1) Tryd.prog l #[x.val] W1 fun e W' =>
      (e = .returned (.bool true) ∧ J (pre ++ [x]) W' ∧ KpW Bn s W1 W') ∨ (e = .returned (.bool false) ∧ Jx (pre ++ [x]) W'))
    (hB : Go.Boxed W Bn 9 (.string s)) (h0 : J [] W) :
    CallsIn Fence.wide n Tryd.prog 76 #[.func (.yield l) #[] #[], .pointer (some ⟨Bn, 0, none⟩)] W fun e W' => (∃ v, e = .returned v) ∧
      ((∃ ys, ys = wordsOf s ∧ J ys W') ∨ (∃ pre, True ∧ Jx pre W')) := by
  have HY := Lib.hid hY
  have HJ := Lib.hid hJ
  have hb := hB.cell
  have HB0 := Lib.hid hB
  have H0 : Hid (J [] W) := h0
  clear hY hJ hB h0
  refine callsIn_of_wp Tryd.func76 rfl trivial ?_ rfl
  simp only [Tryd.ntmps76, List.size_toArray, List.length_cons, List.length_nil, Nat.reduceAdd, Nat.reduceSub, Array.replicate_succ, Array.replicate_zero, List.push_toArray, List.append_toArray, List.nil_append, List.cons_append]
  gi_wp2
  gi_loopw [3, 4, 5] (fun u v x wr => ∃ (p : Nat) (q : LS), p ≤ s.size ∧ u = .int .i64 q.ln ∧ v = .bool q.off ∧ x = .int .i64 q.fr ∧ 1 ≤ q.ln ∧ q.ln ≤ (p : Int) + 1 ∧ -1 ≤ q.fr ∧ q.fr < p ∧ Hid (wrun s p = q) ∧ Hid (J q.out wr) ∧ Hid (Go.Boxed wr Bn 9 (.string s)) ∧ Hid (wr.heap[W.heap.size]? = some (.stringIter s p))) (fun _ _ _ wr => s.size - wr.iterPos W.heap.size)
  case atStart =>
    exact ⟨0, ⟨[], 1, -1, false⟩, by omega, rfl, rfl, rfl, by simp, by simp, by simp, by simp, rfl, HJ.out _ _ _ none H0.out (World.grownBy_alloc W (.stringIter s 0) none) (fun r e => by cases e), HB0.out.alloc _, World.iter_heap W s 0⟩
  case round =>
    obtain ⟨p, q, hp, rfl, rfl, rfl, hl1, hl2, hf1, hf2, HQ, HJ1, HB1, HIT⟩ := hrel
    clear hb
    by_cases hlt : p < s.size
    · obtain ⟨r, wd, hd⟩ : ∃ r wd, Utf8.decode s p = (r, wd) := ⟨_, _, rfl⟩
      have hnx : ∀ ty, (Instr.next (.pointer (some ⟨W.heap.size, 0, none⟩)) true ty).run Tryd.prog wr = _ := fun ty => Lib.run_next_any_at wr W.heap.size s p ty HIT.out hlt
      simp only [hd] at hnx
      have HK := Lib.hid (rune_step s p hlt hd HQ.out)
      have HO := Lib.hid (wrun_rem s p)
      rw [HQ.out] at HO
      have hlen := (wrun_inv s p (by omega)).1
      rw [HQ.out] at hlen
      have HLEN : Hid (q.out.length < s.size + 1) := by show _ < _; omega
      have hw1 := HK.out.1
      have hw2 := HK.out.2.1
      have HJ2 : Hid (J q.out (wr.iterAt W.heap.size s (p + wd))) := HJ.out _ _ _ (some W.heap.size) HJ1.out (grownBy_putObj' wr W.heap.size _) (fun r e => by cases e; exact ⟨Nat.le_refl _, _, HIT.out, rfl⟩)
      have HI2 : Hid ((wr.iterAt W.heap.size s (p + wd)).heap[W.heap.size]? = some (.stringIter s (p + wd))) := Lib.iterAt_heap _ _ _ _ _ HIT.out
      have HB2 : Hid (Go.Boxed (wr.iterAt W.heap.size s (p + wd)) Bn 9 (.string s)) := by
        show _ = _
        rw [Lib.iterAt_other]
        · exact HB1.out
        · intro e
          have := HB1.out
          unfold Go.Boxed at this
          rw [e, HIT.out] at this
          cases this
      have hb := HB2.out.cell
      have hwl : IntKind.i64.wrap (q.ln + 1) = q.ln + 1 := IntWalk.i64_in _ (by omega)
      have hp0 : (0 : Int) ≤ (p : Int) := by omega
      have hp1 : (p : Int) ≤ (s.size : Int) := by omega
      clear hd hlen HJ1 HB1
      obtain ⟨out, ln, fr, off⟩ := q
      simp only [] at hl1 hl2 hf1 hf2 hwl
      by_cases hr10 : r = 10
      · have d1 : ((r : Int) == 35) = false := by rw [beq_eq_false_iff_ne]; omega
        have d2 : ((r : Int) == 10) = true := by rw [beq_iff_eq]; omega
        have d3 : ((r : Int) != 10) = false := by rw [bne, d2]; rfl
        have PT := Lib.hid (fun w => parts_any (r : Int) true (decide_eq_true (.inr (.inr (by omega)))) w)
        have HR := Lib.hid (HK.out.2.2.1 hr10)
        clear hr10
        cases off with
        | true =>
          obtain rfl : fr = -1 := HO.out rfl
          have HS : Hid (wrun s (p + wd) = ⟨out, ln + 1, -1, false⟩) := HR.out
          gi_wp2_with ((with_reducible refine And.intro (a := Fence.wide.fn 77) parts_fn ?_); first | (gi_at_call 77; (with_reducible refine (callsIn_wide.2 (PT.out _)).mono ?_); rintro e w' ⟨rfl, rfl⟩) | skip)
          go_roundw
          case rel => exact ⟨p + wd, ⟨out, ln + 1, -1, false⟩, by omega, rfl, rfl, rfl, by first | omega | (simp only []; omega), by first | omega | (simp only []; omega), by first | omega | (simp only []; omega), by first | omega | (simp only []; omega), HS, HJ2, HB2, HI2⟩
          case measure =>
            simp only [World.iterPos, HI2.out, HIT.out]
            omega
        | false =>
          rcases (show fr = -1 ∨ 0 ≤ fr by omega) with hfr | hfr
          · subst hfr
            have HS : Hid (wrun s (p + wd) = ⟨out, ln + 1, -1, false⟩) := HR.out
            gi_wp2_with ((with_reducible refine And.intro (a := Fence.wide.fn 77) parts_fn ?_); first | (gi_at_call 77; (with_reducible refine (callsIn_wide.2 (PT.out _)).mono ?_); rintro e w' ⟨rfl, rfl⟩) | skip)
            go_roundw
            case rel => exact ⟨p + wd, ⟨out, ln + 1, -1, false⟩, by omega, rfl, rfl, rfl, by first | omega | (simp only []; omega), by first | omega | (simp only []; omega), by first | omega | (simp only []; omega), by first | omega | (simp only []; omega), HS, HJ2, HB2, HI2⟩
            case measure =>
              simp only [World.iterPos, HI2.out, HIT.out]
              omega
          · have hfq : (fr == -1) = false := by rw [beq_eq_false_iff_ne]; omega
            have hfn : (fr != -1) = true := by rw [bne, hfq]; rfl
            have hf8 : fr ≤ (p : Int) := by omega
            have hf7 : ¬ fr < 0 := by omega
            obtain ⟨fn, tmps, assign, body, hy, hR⟩ := HY.out out ⟨fr, ln, s.extract fr.toNat p⟩ _ hl1 HJ2.out HLEN.out
            have hR := Lib.hid hR
            dsimp only [WV.val] at hy
            gi_wp2_with ((with_reducible refine And.intro (a := Fence.wide.fn 77) parts_fn ?_); first | (gi_at_call 77; (with_reducible refine (callsIn_wide.2 (PT.out _)).mono ?_); rintro e w' ⟨rfl, rfl⟩) | skip)
            refine hR.out.mono ?_
            rintro e W3 (⟨rfl, hJ3, hk3⟩ | ⟨rfl, hJx3⟩)
            · have HJ3 : Hid (J (out ++ [⟨fr, ln, s.extract fr.toNat p⟩]) W3) := hJ3
              have HB3 : Hid (Go.Boxed W3 Bn 9 (.string s)) := hk3.2 HB2.out
              have HI3 : Hid (W3.heap[W.heap.size]? = some (.stringIter s (p + wd))) := hk3.1.same _ _ HI2.out rfl
              have HS : Hid (wrun s (p + wd) = ⟨out ++ [⟨fr, ln, s.extract fr.toNat p⟩], ln + 1, -1, false⟩) := (by show _ = _; rw [HR.out]; unfold told; simp only []; rw [if_neg (by omega)])
              clear hJ3 hk3 hy
              gi_wp2
              go_roundw
              case rel => exact ⟨p + wd, ⟨out ++ [⟨fr, ln, s.extract fr.toNat p⟩], ln + 1, -1, false⟩, by omega, rfl, rfl, rfl, by first | omega | (simp only []; omega), by first | omega | (simp only []; omega), by first | omega | (simp only []; omega), by first | omega | (simp only []; omega), HS, HJ3, HB3, HI3⟩
              case measure =>
                simp only [World.iterPos, HI3.out, HIT.out]
                omega
            · have HJx : Hid (Jx (out ++ [⟨fr, ln, s.extract fr.toNat p⟩]) W3) := hJx3
              clear hJx3 hy
              gi_wp2
              refine bodyPost_ret (results_none rfl _ _ _) rfl ?_
              exact ⟨⟨_, rfl⟩, .inr ⟨_, trivial, HJx.out⟩⟩
      · by_cases hr35 : r = 35
        · have d1 : ((r : Int) == 35) = true := by rw [beq_iff_eq]; omega
          have d2 : ((r : Int) == 10) = false := by rw [beq_eq_false_iff_ne]; omega
          have d3 : ((r : Int) != 10) = true := by rw [bne, d2]; rfl
          have HR := Lib.hid (HK.out.2.2.2.1 hr10 (.inr hr35))
          have PT : Hid True := trivial
          clear hr10 hr35
          rcases (show fr = -1 ∨ 0 ≤ fr by omega) with hfr | hfr
          · subst hfr
            have HS : Hid (wrun s (p + wd) = ⟨out, ln, -1, true⟩) := HR.out
            gi_wp2_with ((with_reducible refine And.intro (a := Fence.wide.fn 77) parts_fn ?_); first | (gi_at_call 77; (with_reducible refine (callsIn_wide.2 (PT.out _)).mono ?_); rintro e w' ⟨rfl, rfl⟩) | skip)
            go_roundw
            case rel => exact ⟨p + wd, ⟨out, ln, -1, true⟩, by omega, rfl, rfl, rfl, by first | omega | (simp only []; omega), by first | omega | (simp only []; omega), by first | omega | (simp only []; omega), by first | omega | (simp only []; omega), HS, HJ2, HB2, HI2⟩
            case measure =>
              simp only [World.iterPos, HI2.out, HIT.out]
              omega
          · have hfq : (fr == -1) = false := by rw [beq_eq_false_iff_ne]; omega
            have hfn : (fr != -1) = true := by rw [bne, hfq]; rfl
            have hf8 : fr ≤ (p : Int) := by omega
            have hf7 : ¬ fr < 0 := by omega
            obtain ⟨fn, tmps, assign, body, hy, hR⟩ := HY.out out ⟨fr, ln, s.extract fr.toNat p⟩ _ hl1 HJ2.out HLEN.out
            have hR := Lib.hid hR
            dsimp only [WV.val] at hy
            gi_wp2_with ((with_reducible refine And.intro (a := Fence.wide.fn 77) parts_fn ?_); first | (gi_at_call 77; (with_reducible refine (callsIn_wide.2 (PT.out _)).mono ?_); rintro e w' ⟨rfl, rfl⟩) | skip)
            refine hR.out.mono ?_
            rintro e W3 (⟨rfl, hJ3, hk3⟩ | ⟨rfl, hJx3⟩)
            · have HJ3 : Hid (J (out ++ [⟨fr, ln, s.extract fr.toNat p⟩]) W3) := hJ3
              have HB3 : Hid (Go.Boxed W3 Bn 9 (.string s)) := hk3.2 HB2.out
              have HI3 : Hid (W3.heap[W.heap.size]? = some (.stringIter s (p + wd))) := hk3.1.same _ _ HI2.out rfl
              have HS : Hid (wrun s (p + wd) = ⟨out ++ [⟨fr, ln, s.extract fr.toNat p⟩], ln, -1, true⟩) := (by show _ = _; rw [HR.out]; unfold told; simp only []; rw [if_neg (by omega)])
              clear hJ3 hk3 hy
              gi_wp2
              go_roundw
              case rel => exact ⟨p + wd, ⟨out ++ [⟨fr, ln, s.extract fr.toNat p⟩], ln, -1, true⟩, by omega, rfl, rfl, rfl, by first | omega | (simp only []; omega), by first | omega | (simp only []; omega), by first | omega | (simp only []; omega), by first | omega | (simp only []; omega), HS, HJ3, HB3, HI3⟩
              case measure =>
                simp only [World.iterPos, HI3.out, HIT.out]
                omega
            · have HJx : Hid (Jx (out ++ [⟨fr, ln, s.extract fr.toNat p⟩]) W3) := hJx3
              clear hJx3 hy
              gi_wp2
              refine bodyPost_ret (results_none rfl _ _ _) rfl ?_
              exact ⟨⟨_, rfl⟩, .inr ⟨_, trivial, HJx.out⟩⟩
        · have d1 : ((r : Int) == 35) = false := by rw [beq_eq_false_iff_ne]; omega
          have d2 : ((r : Int) == 10) = false := by rw [beq_eq_false_iff_ne]; omega
          have d3 : ((r : Int) != 10) = true := by rw [bne, d2]; rfl
          cases off with
          | true =>
            obtain rfl : fr = -1 := HO.out rfl
            have HR := Lib.hid (HK.out.2.2.2.1 hr10 (.inl rfl))
            have PT : Hid True := trivial
            clear hr10 hr35
            have HS : Hid (wrun s (p + wd) = ⟨out, ln, -1, true⟩) := HR.out
            gi_wp2_with ((with_reducible refine And.intro (a := Fence.wide.fn 77) parts_fn ?_); first | (gi_at_call 77; (with_reducible refine (callsIn_wide.2 (PT.out _)).mono ?_); rintro e w' ⟨rfl, rfl⟩) | skip)
            go_roundw
            case rel => exact ⟨p + wd, ⟨out, ln, -1, true⟩, by omega, rfl, rfl, rfl, by first | omega | (simp only []; omega), by first | omega | (simp only []; omega), by first | omega | (simp only []; omega), by first | omega | (simp only []; omega), HS, HJ2, HB2, HI2⟩
            case measure =>
              simp only [World.iterPos, HI2.out, HIT.out]
              omega
          | false =>
            by_cases hbl : r = 32 ∨ r = 9
            · have HR := Lib.hid (HK.out.2.2.2.2.1 rfl hbl)
              have PT := Lib.hid (fun w => parts_any (r : Int) true (decide_eq_true (by omega)) w)
              clear hr10 hr35 hbl
              rcases (show fr = -1 ∨ 0 ≤ fr by omega) with hfr | hfr
              · subst hfr
                have HS : Hid (wrun s (p + wd) = ⟨out, ln, -1, false⟩) := HR.out
                gi_wp2_with ((with_reducible refine And.intro (a := Fence.wide.fn 77) parts_fn ?_); first | (gi_at_call 77; (with_reducible refine (callsIn_wide.2 (PT.out _)).mono ?_); rintro e w' ⟨rfl, rfl⟩) | skip)
                go_roundw
                case rel => exact ⟨p + wd, ⟨out, ln, -1, false⟩, by omega, rfl, rfl, rfl, by first | omega | (simp only []; omega), by first | omega | (simp only []; omega), by first | omega | (simp only []; omega), by first | omega | (simp only []; omega), HS, HJ2, HB2, HI2⟩
                case measure =>
                  simp only [World.iterPos, HI2.out, HIT.out]
                  omega
              · have hfq : (fr == -1) = false := by rw [beq_eq_false_iff_ne]; omega
                have hfn : (fr != -1) = true := by rw [bne, hfq]; rfl
                have hf8 : fr ≤ (p : Int) := by omega
                have hf7 : ¬ fr < 0 := by omega
                obtain ⟨fn, tmps, assign, body, hy, hR⟩ := HY.out out ⟨fr, ln, s.extract fr.toNat p⟩ _ hl1 HJ2.out HLEN.out
                have hR := Lib.hid hR
                dsimp only [WV.val] at hy
                gi_wp2_with ((with_reducible refine And.intro (a := Fence.wide.fn 77) parts_fn ?_); first | (gi_at_call 77; (with_reducible refine (callsIn_wide.2 (PT.out _)).mono ?_); rintro e w' ⟨rfl, rfl⟩) | skip)
                refine hR.out.mono ?_
                rintro e W3 (⟨rfl, hJ3, hk3⟩ | ⟨rfl, hJx3⟩)
                · have HJ3 : Hid (J (out ++ [⟨fr, ln, s.extract fr.toNat p⟩]) W3) := hJ3
                  have HB3 : Hid (Go.Boxed W3 Bn 9 (.string s)) := hk3.2 HB2.out
                  have HI3 : Hid (W3.heap[W.heap.size]? = some (.stringIter s (p + wd))) := hk3.1.same _ _ HI2.out rfl
                  have HS : Hid (wrun s (p + wd) = ⟨out ++ [⟨fr, ln, s.extract fr.toNat p⟩], ln, -1, false⟩) := (by show _ = _; rw [HR.out]; unfold told; simp only []; rw [if_neg (by omega)])
                  clear hJ3 hk3 hy
                  gi_wp2
                  go_roundw
                  case rel => exact ⟨p + wd, ⟨out ++ [⟨fr, ln, s.extract fr.toNat p⟩], ln, -1, false⟩, by omega, rfl, rfl, rfl, by first | omega | (simp only []; omega), by first | omega | (simp only []; omega), by first | omega | (simp only []; omega), by first | omega | (simp only []; omega), HS, HJ3, HB3, HI3⟩
                  case measure =>
                    simp only [World.iterPos, HI3.out, HIT.out]
                    omega
                · have HJx : Hid (Jx (out ++ [⟨fr, ln, s.extract fr.toNat p⟩]) W3) := hJx3
                  clear hJx3 hy
                  gi_wp2
                  refine bodyPost_ret (results_none rfl _ _ _) rfl ?_
                  exact ⟨⟨_, rfl⟩, .inr ⟨_, trivial, HJx.out⟩⟩
            · have HR := Lib.hid (HK.out.2.2.2.2.2 rfl hr10 hr35 (fun z => hbl (.inl z)) (fun z => hbl (.inr z)))
              have PT := Lib.hid (fun w => parts_any (r : Int) false (decide_eq_false (by omega)) w)
              clear hr10 hr35 hbl
              rcases (show fr = -1 ∨ 0 ≤ fr by omega) with hfr | hfr
              · subst hfr
                have HS : Hid (wrun s (p + wd) = ⟨out, ln, (p : Int), false⟩) := HR.out
                gi_wp2_with ((with_reducible refine And.intro (a := Fence.wide.fn 77) parts_fn ?_); first | (gi_at_call 77; (with_reducible refine (callsIn_wide.2 (PT.out _)).mono ?_); rintro e w' ⟨rfl, rfl⟩) | skip)
                go_roundw
                case rel => exact ⟨p + wd, ⟨out, ln, (p : Int), false⟩, by omega, rfl, rfl, rfl, by first | omega | (simp only []; omega), by first | omega | (simp only []; omega), by first | omega | (simp only []; omega), by first | omega | (simp only []; omega), HS, HJ2, HB2, HI2⟩
                case measure =>
                  simp only [World.iterPos, HI2.out, HIT.out]
                  omega
              · have hfq : (fr == -1) = false := by rw [beq_eq_false_iff_ne]; omega
                have hfn : (fr != -1) = true := by rw [bne, hfq]; rfl
                have hf8 : fr ≤ (p : Int) := by omega
                have hf7 : ¬ fr < 0 := by omega
                have HS : Hid (wrun s (p + wd) = ⟨out, ln, fr, false⟩) := (by show _ = _; rw [HR.out]; simp only []; rw [if_neg (by omega)])
                gi_wp2_with ((with_reducible refine And.intro (a := Fence.wide.fn 77) parts_fn ?_); first | (gi_at_call 77; (with_reducible refine (callsIn_wide.2 (PT.out _)).mono ?_); rintro e w' ⟨rfl, rfl⟩) | skip)
                go_roundw
                case rel => exact ⟨p + wd, ⟨out, ln, fr, false⟩, by omega, rfl, rfl, rfl, by first | omega | (simp only []; omega), by first | omega | (simp only []; omega), by first | omega | (simp only []; omega), by first | omega | (simp only []; omega), HS, HJ2, HB2, HI2⟩
                case measure =>
                  simp only [World.iterPos, HI2.out, HIT.out]
                  omega
    · obtain rfl : p = s.size := by omega
      have hnx : ∀ ty, (Instr.next (.pointer (some ⟨W.heap.size, 0, none⟩)) true ty).run Tryd.prog wr = _ := fun ty => Lib.run_next_end_at wr W.heap.size s s.size ty HIT.out hlt
      have HE := Lib.hid (rune_end s HQ.out)
      have hlen := (wrun_inv s s.size (by omega)).1
      rw [HQ.out] at hlen
      have HLEN : Hid (q.out.length < s.size + 1) := by show _ < _; omega
      have hb := HB1.out.cell
      clear hlen hlt hp
      obtain ⟨out, ln, fr, off⟩ := q
      simp only [] at hl1 hl2 hf1 hf2
      rcases (show fr = -1 ∨ 0 ≤ fr by omega) with hfr | hfr
      · subst hfr
        have HF : Hid (J (wordsOf s) wr) := by show J (wordsOf s) wr; rw [HE.out]; exact HJ1.out
        gi_wp2
        go_end0
        first | exact ⟨⟨_, rfl⟩, .inl ⟨_, rfl, HF.out⟩⟩ | exact ⟨⟨_, rfl⟩, .inl HF.out⟩
      · have hfq : (fr == -1) = false := by rw [beq_eq_false_iff_ne]; omega
        have hfn : (fr != -1) = true := by rw [bne, hfq]; rfl
        have hf8 : fr ≤ (s.size : Int) := by omega
        have hf7 : ¬ fr < 0 := by omega
        have HF : Hid (wordsOf s = out ++ [⟨fr, ln, s.extract fr.toNat s.size⟩]) := by show _ = _; rw [HE.out]; unfold told; simp only []; rw [if_neg (by omega)]
        obtain ⟨fn, tmps, assign, body, hy, hR⟩ := HY.out out ⟨fr, ln, s.extract fr.toNat s.size⟩ _ hl1 HJ1.out HLEN.out
        have hR := Lib.hid hR
        dsimp only [WV.val] at hy
        gi_wp2
        refine hR.out.mono ?_
        rintro e W3 (⟨rfl, hJ3, hk3⟩ | ⟨rfl, hJx3⟩)
        · have HG : Hid (J (wordsOf s) W3) := by show J _ _; rw [HF.out]; exact hJ3
          clear hJ3 hk3 hy
          gi_wp2
          go_end0
          first | exact ⟨⟨_, rfl⟩, .inl ⟨_, rfl, HG.out⟩⟩ | exact ⟨⟨_, rfl⟩, .inl HG.out⟩
        · have HG : Hid (Jx (out ++ [⟨fr, ln, s.extract fr.toNat s.size⟩]) W3) := hJx3
          clear hJx3 hy
          gi_wp2
          go_end0
          first | exact ⟨⟨_, rfl⟩, .inr ⟨_, trivial, HG.out⟩⟩ | exact ⟨⟨_, rfl⟩, .inr ⟨_, HG.out⟩⟩
end Go.Proofs.YtlpffgmfgkleiaaDoor

/-
  The walk over a text's words, collected in a row.
-/
namespace Go.Proofs.YtlpffgmfgkleiaaDoor
open Go.RowKit Go.Maps Go.Shelf
attribute [local go_sem] Oper.semAt_some

theorem words_stops (n : Nat) (hn : 1 ≤ n) (Bn : Nat) (s : ByteArray) (hs : s.size ≤ 900000) (w : World) (hB : Go.Boxed w Bn 9 (.string s)) :
    SeqStopsK Fence.wide n Tryd.prog 76 #[.pointer (some ⟨Bn, 0, none⟩)] (fun x : WV => #[x.val]) (KpW Bn s) (fun ys => ys = wordsOf s) (fun _ => True) (s.size + 1) w :=
  fun l J Jx W hW hJ _ hY h0 => words_in n hn l Bn s hs J Jx W hJ (fun pre x W1 _ h hl => hY pre x W1 h hl) (kept_obj hW hB) h0
/-- Where a text's function value lies. -/
theorem words_val (s : ByteArray) (n : Nat) (w : World) :
    CallsIn Fence.wide n Tryd.prog 57 #[.string s] w fun e w' => e = .returned (.func (.func 76) #[] #[.pointer (some ⟨w.heap.size, 0, none⟩)]) ∧ w' = w.alloc (.cells #[.string s] 9) := by
  have hmf : ∀ (fn : Fn) (first cap : Array Value) (w : World), (Instr.makeFunc fn first cap).run Tryd.prog w = .ok (.func fn first cap) w := fun _ _ _ _ => rfl
  refine callsIn_of_wp Tryd.func57 rfl trivial ?_ rfl
  simp only [Tryd.ntmps57, List.size_toArray, List.length_cons, List.length_nil, Nat.reduceAdd, Nat.reduceSub, Array.replicate_succ, Array.replicate_zero, List.push_toArray, List.append_toArray, List.nil_append, List.cons_append]
  gi_wp2
  go_ret
  exact ⟨rfl, rfl⟩
theorem keepsWalks_of {W W' : World} (h : KeepsOthers W W') : KeepsWalks W W' := ⟨h.size, fun k o hk ho => h.same k o hk (Obj.not_cells_of_walk ho)⟩
theorem wnews_of {w : World} {x : Addr} {l : List WV} (hv : WView w (some x) l) : ∀ j u, (wflat l)[j]? = some u → w.cell? (x.add j) = some u := by
  intro j u hj
  rcases hv with rfl | ⟨g, o, e, hc⟩
  · simp [wflat] at hj
  · cases e
    rw [addr_at]; exact hc j u hj
/-- A word in a box of a round's own. -/
def BoxW (W : World) (B : Nat) (x : WV) : Prop := W.heap[B]? = some (.cells #[.int .i64 x.at_, .int .i64 x.ln, .string x.tx] WT (0, 0))
theorem BoxW.wat {W : World} {B : Nat} {x : WV} (h : BoxW W B x) : WAt W B 0 x := ⟨by rw [blk_cell h]; rfl, by rw [blk_cell h]; rfl, by rw [blk_cell h]; rfl⟩
theorem BoxW.own {B : Nat} {x : WV} : Own (fun (_ : Unit) W => BoxW W B x) := fun s X Y row hs hg hrow => by
  refine (hg.block B (lt_of_block hs) (fun e => ?_)).trans hs
  obtain ⟨o, ho, hc⟩ := hrow B e.symm
  rw [show X.heap[B]? = _ from hs] at ho
  cases ho
  cases hc

end Go.Proofs.YtlpffgmfgkleiaaDoor

/-
  A region that draws its order, in a round of a range over a function.
-/
namespace Go.Proofs.YtlpffgmfgkleiaaDoor
open Go.RowKit Go.Maps

section
variable {P : Program} {ops : Array Oper} {Q : Exit → Act → World → Prop} {l n : Nat}
theorem rows_round {row : String} {args : Array Value} {w : World} {R R' : Value → World → Prop} (h : _root_.Go.Rows P row args w R) (hr : ∀ v w, R v w → R' v w) : RowsIn (Fence.wide.inRound l) n P row args w R' := fun c cs _ => by
  obtain ⟨v, w', h1, h2⟩ := h c cs
  exact ⟨v, w', hr _ _ h1, stepsIn_wide.2 h2⟩
theorem oper_round {o : Oper} {a : Act} {w : World} {K K' : Act → World → Prop} (hd : ∀ c, o.op ≠ .defer c) (hK : ∀ a w, K a w → K' a w) (hlo : ¬ LetsOut Q) (h : o.wp P a w K Q) : o.wpIn (Fence.wide.inRound l) n P a w K' Q := by
  refine ⟨fun _ _ => trivial, ?_⟩
  unfold Oper.wp at h
  rw [show (o.semAt (Fence.wide.inRound l).round a.eval) = execOp a.eval o from Oper.semAt_eq _ _ _ hd]
  generalize (execOp a.eval o).run P w = r at h ⊢
  cases r with
  | ok x w' =>
    cases x with
    | value v => exact hK _ _ h
    | skip => exact hK _ _ h
    | defer d => exact hK _ _ h
    | enter f args =>
      refine ⟨(fun z => by cases z), CallsIn.inRound l (callsIn_wide.2 (Calls.mono h fun e w'' he => ?_))⟩
      cases e with
      | returned v => exact hK _ _ he
      | panicked c => exact he
      | outgrown => exact absurd he hlo
    | row name args => exact ⟨(fun z => by cases z), rows_round h (fun _ _ => hK _ _)⟩
    | _ => exact h.elim
  | halt x w' =>
    cases x with
    | panic v => exact h
    | _ => exact h.elim
theorem any_round {md : Region.Mode} (hd : ∀ (i : Nat) (o : Oper), ops[i]? = some o → ∀ c, o.op ≠ .defer c) (hlo : ¬ LetsOut Q) : ∀ (fuel : Nat) (listed : Array Bool) (a : Act) (w : World), wpAny P md ops Q fuel listed a w → wpAnyIn (Fence.wide.inRound l) n P md ops Q fuel listed a w
  | 0, _, _, _, h => h
  | fuel + 1, listed, a, w, h => by
    refine ⟨h.1, fun i hi => ?_⟩
    have hs := h.2 i hi
    unfold wpOp at hs
    unfold wpOpIn
    cases ho : ops[i]? with
    | none =>
      rw [ho] at hs
      exact any_round hd hlo fuel _ a w hs
    | some o =>
      rw [ho] at hs
      simp only [] at hs ⊢
      split
      · rename_i hw
        rw [if_pos hw] at hs
        rcases hs with hs | ⟨_, hs⟩
        · exact oper_round (hd i o ho) (fun a w => any_round hd hlo fuel _ a w) hlo hs
        · exact absurd hs hlo
      · rename_i hw
        rw [if_neg hw] at hs
        exact ⟨fun _ _ => trivial, any_round hd hlo fuel _ _ w hs⟩
def noDefer (ops : Array Oper) : Bool := ops.all fun o => match o.op with
  | .defer _ => false
  | _ => true
theorem noDefer_spec (h : noDefer ops = true) : ∀ (i : Nat) (o : Oper), ops[i]? = some o → ∀ c, o.op ≠ .defer c := fun i o ho c e => by
  have h1 := Array.all_eq_true_iff_forall_mem.1 h o (Array.mem_of_getElem? ho)
  rw [e] at h1
  cases h1
theorem region_round {id : Nat} {a : Act} {w : World} (S : World → Prop) (hm : P.follows .mixedOrders = true) (hd : noDefer ops = true) (hlo : ¬ LetsOut Q)
    (h : wpAnyH P .any ops Q S ops.size (Array.replicate ops.size false) a w.drew) : (Code.region id ops true).wpIn (Fence.wide.inRound l) n P Q a w :=
  wpIn_region_any hm (any_round (noDefer_spec hd) hlo _ _ _ _ (wpAny_of_held _ _ _ _ h))
end
end Go.Proofs.YtlpffgmfgkleiaaDoor
