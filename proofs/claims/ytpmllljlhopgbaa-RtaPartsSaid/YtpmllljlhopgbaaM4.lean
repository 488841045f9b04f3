/- Texts of this claim, put together: UPM, UP8, UP9, UProg, UAwk, ULaw1, ULaw2, ULaw4, ULaw3. -/
import Derived.Test.YtpmllljlhopgbaaM3
import Derived.Maps.OwnSet
import Derived.Carry
import Derived.Deep.DeepCutAuto
import Derived.Deep.RegionHeldLaw
set_option linter.unusedVariables false
set_option linter.unusedSimpArgs false

/-
  Plainly: points; keys of a map of numbers; the sorted keys of a map.
-/
namespace Go.Proofs.Ytpmllljlhopgbaa
open Go.RowKit Go.Maps Go.Shelf Go.Sort

/-- What is a point. -/
def PtK (l : List Dm) (most : Int) (k : Nat) (x : Int) : Prop := x = most ∨ (1 ≤ x ∧ x < most ∧ ∃ (j : Nat) (z : Dm), j < k ∧ l[j]? = some z ∧ z.t ∣ x)
def PtJ (l : List Dm) (most : Int) (k : Nat) (z : Dm) (X y : Int) : Prop := PtK l most k y ∨ (1 ≤ y ∧ y < most ∧ y < X ∧ z.t ∣ y)
theorem ptK_zero {l : List Dm} {most x : Int} : PtK l most 0 x ↔ x = most :=
  ⟨fun h => h.elim id (fun ⟨_, _, _, _, hj, _⟩ => absurd hj (Nat.not_lt_zero _)), .inl⟩
theorem ptJ_start {l : List Dm} {most : Int} {k : Nat} {z : Dm} (ht : 0 < z.t) {y : Int} : PtJ l most k z z.t y ↔ PtK l most k y :=
  ⟨fun h => h.elim id (fun ⟨h1, _, h3, q, hq⟩ => by
    exfalso
    rcases Int.lt_or_le 0 q with a | a
    · have := Int.mul_le_mul_of_nonneg_left (show 1 ≤ q by omega) (show 0 ≤ z.t by omega); omega
    · have := Int.mul_le_mul_of_nonneg_left a (show 0 ≤ z.t by omega); omega), .inl⟩
theorem ptJ_step {l : List Dm} {most : Int} {k : Nat} {z : Dm} (ht : 0 < z.t) {X : Int} (hX : 1 ≤ X) (hm : X < most) (hd : z.t ∣ X) {y : Int} : (y = X ∨ PtJ l most k z X y) ↔ PtJ l most k z (X + z.t) y := by
  constructor
  · rintro (rfl | h | ⟨h1, h2, h3, h4⟩)
    · exact .inr ⟨hX, hm, by omega, hd⟩
    · exact .inl h
    · exact .inr ⟨h1, h2, by omega, h4⟩
  · rintro (h | ⟨h1, h2, h3, h4⟩)
    · exact .inr (.inl h)
    · rcases Int.lt_trichotomy y X with q | q | q
      · exact .inr (.inr ⟨h1, h2, q, h4⟩)
      · exact .inl q
      · exfalso
        obtain ⟨a, rfl⟩ := hd
        obtain ⟨b, rfl⟩ := h4
        have h5 : a < b := Int.lt_of_mul_lt_mul_left q (by omega)
        have h6 := Int.mul_le_mul_of_nonneg_left (show a + 1 ≤ b by omega) (show 0 ≤ z.t by omega)
        rw [Int.mul_add, Int.mul_one] at h6
        omega
theorem ptJ_end {l : List Dm} {most : Int} {k : Nat} {z : Dm} (hz : l[k]? = some z) {X : Int} (hm : most ≤ X) {y : Int} : PtJ l most k z X y ↔ PtK l most (k + 1) y := by
  constructor
  · rintro ((rfl | ⟨h1, h2, j, u, h3, h4, h5⟩) | ⟨h1, h2, h3, h4⟩)
    · exact .inl rfl
    · exact .inr ⟨h1, h2, j, u, by omega, h4, h5⟩
    · exact .inr ⟨h1, h2, k, z, by omega, hz, h4⟩
  · rintro (rfl | ⟨h1, h2, j, u, h3, h4, h5⟩)
    · exact .inl (.inl rfl)
    · rcases Nat.lt_or_ge j k with q | q
      · exact .inl (.inr ⟨h1, h2, j, u, q, h4, h5⟩)
      · obtain rfl : j = k := by omega
        rw [hz] at h4
        cases h4
        exact .inr ⟨h1, h2, by omega, h5⟩
theorem ptK_range {l : List Dm} {most : Int} (h1 : 1 ≤ most) {k : Nat} {x : Int} (h : PtK l most k x) : 1 ≤ x ∧ x ≤ most := by
  rcases h with rfl | ⟨h1, h2, _⟩ <;> omega
theorem ptJ_range {l : List Dm} {most : Int} (h1 : 1 ≤ most) {k : Nat} {z : Dm} {X x : Int} (h : PtJ l most k z X x) : 1 ≤ x ∧ x ≤ most := by
  rcases h with h | ⟨h1, h2, _⟩
  · exact ptK_range h1 h
  · omega

theorem ceil_same {z : Dm} (ht : 0 < z.t) {x : Int} (hn : ¬ z.t ∣ x) : ceilD z (x + 1) = ceilD z x := by
  have e := Int.mul_ediv_add_emod x z.t
  have e1 := Int.emod_nonneg x (show z.t ≠ 0 by omega)
  have e2 := Int.emod_lt_of_pos x ht
  have e3 : x % z.t ≠ 0 := fun q => hn (Int.dvd_of_emod_eq_zero q)
  unfold ceilD
  generalize x / z.t = q at *
  generalize x % z.t = r at *
  rw [Int.mul_comm] at e
  have h1 : (x + 1 + z.t - 1) / z.t = q + 1 := (Int.ediv_eq_iff_of_pos ht).2 ⟨by rw [Int.add_mul]; omega, by rw [Int.add_mul]; omega⟩
  have h2 : (x + z.t - 1) / z.t = q + 1 := (Int.ediv_eq_iff_of_pos ht).2 ⟨by rw [Int.add_mul]; omega, by rw [Int.add_mul]; omega⟩
  rw [h1, h2]
theorem work_same {l : List Dm} (hok : ∀ x ∈ l, x.ok) {x : Int} (hn : ∀ z ∈ l, ¬ z.t ∣ x) : ∀ k, workN l (x + 1) k = workN l x k
  | 0 => rfl
  | k + 1 => by
    have ih := work_same hok hn k
    cases hz : l[k]? with
    | none => rw [work_end hz, work_end hz, ih]
    | some z =>
      have hm := List.mem_of_getElem? hz
      have ho := hok z hm
      rw [work_next hz, work_next hz, ih, ceil_same (by have := ho.d1; have := ho.d2; omega) (hn z hm)]
/-- At the next point the work is the same. -/
theorem next_point {l : List Dm} (hok : ∀ x ∈ l, x.ok) {most : Int} : ∀ (n : Nat) {x : Int}, (most - x).toNat = n → 1 ≤ x → x ≤ most → ∃ p, PtK l most l.length p ∧ x ≤ p ∧ workA l p = workA l x
  | 0, x, hn, h1, h2 => ⟨x, .inl (by omega), Int.le_refl _, rfl⟩
  | n + 1, x, hn, h1, h2 => by
    by_cases q : ∃ z ∈ l, z.t ∣ x
    · obtain ⟨z, hz, hd⟩ := q
      obtain ⟨j, hj, e⟩ := List.getElem_of_mem hz
      exact ⟨x, .inr ⟨h1, by omega, j, z, hj, by rw [List.getElem?_eq_getElem hj, e], hd⟩, Int.le_refl _, rfl⟩
    · obtain ⟨p, hp, h3, h4⟩ := next_point hok (most := most) n (x := x + 1) (by omega) (by omega) (by omega)
      refine ⟨p, hp, by omega, ?_⟩
      rw [h4]
      exact work_same hok (fun z hz hd => q ⟨z, hz, hd⟩) _

/-- The most that is left at one of the points so far. -/
def BestAt (l : List Dm) (ps : List Int) (k : Nat) (g : Int) (f : Bool) : Prop :=
  (f = false ∧ g = 0 ∧ ∀ j x, j < k → ps[j]? = some x → x - workA l x < 0) ∨ (f = true ∧ 0 ≤ g ∧ (∃ (j : Nat) (x : Int), j < k ∧ ps[j]? = some x ∧ g = x - workA l x) ∧ ∀ j x, j < k → ps[j]? = some x → x - workA l x ≤ g)
theorem BestAt.start (l : List Dm) (ps : List Int) : BestAt l ps 0 0 false := .inl ⟨rfl, rfl, fun _ _ hj => absurd hj (Nat.not_lt_zero _)⟩
theorem BestAt.ge {l : List Dm} {ps : List Int} {k : Nat} {g : Int} {f : Bool} (h : BestAt l ps k g f) : 0 ≤ g := by
  rcases h with ⟨_, h, _⟩ | ⟨_, h, _⟩ <;> omega
theorem BestAt.take {l : List Dm} {ps : List Int} {k : Nat} {g : Int} {f : Bool} (h : BestAt l ps k g f) {x : Int} (hx : ps[k]? = some x) (hg : g ≤ x - workA l x) : BestAt l ps (k + 1) (x - workA l x) true := by
  have h0 := h.ge
  refine .inr ⟨rfl, by omega, ⟨k, x, Nat.lt_succ_self _, hx, rfl⟩, fun j y hj hy => ?_⟩
  rcases Nat.lt_or_ge j k with q | q
  · rcases h with ⟨_, _, h⟩ | ⟨_, _, _, h⟩
    · have := h j y q hy; omega
    · have := h j y q hy; omega
  · obtain rfl : j = k := by omega
    rw [hx] at hy; cases hy; omega
theorem BestAt.pass {l : List Dm} {ps : List Int} {k : Nat} {g : Int} {f : Bool} (h : BestAt l ps k g f) {x : Int} (hx : ps[k]? = some x) (hg : x - workA l x < g) : BestAt l ps (k + 1) g f := by
  rcases h with ⟨rfl, rfl, h⟩ | ⟨rfl, h0, ⟨i, z, hi, hz, e⟩, h⟩
  · refine .inl ⟨rfl, rfl, fun j y hj hy => ?_⟩
    rcases Nat.lt_or_ge j k with q | q
    · exact h j y q hy
    · obtain rfl : j = k := by omega
      rw [hx] at hy; cases hy; exact hg
  · refine .inr ⟨rfl, h0, ⟨i, z, by omega, hz, e⟩, fun j y hj hy => ?_⟩
    rcases Nat.lt_or_ge j k with q | q
    · exact h j y q hy
    · obtain rfl : j = k := by omega
      rw [hx] at hy; cases hy; omega
theorem BestAt.out {l : List Dm} (hok : ∀ x ∈ l, x.ok) {ps : List Int} {most : Int} (h1 : 1 ≤ most) (hp : ∀ x, x ∈ ps ↔ PtK l most l.length x) {g : Int} {f : Bool} (h : BestAt l ps ps.length g f) : (brS l most).getD 0 = g ∧ (brS l most).isSome = f := by
  rcases h with ⟨rfl, rfl, h⟩ | ⟨rfl, h0, ⟨i, z, hi, hz, e⟩, h⟩
  · rw [br_none (fun x a b hd => by
      obtain ⟨p, hp1, hp2, hp3⟩ := next_point hok _ rfl a b
      obtain ⟨j, hj, ej⟩ := List.getElem_of_mem ((hp p).2 hp1)
      have := h j p hj (by rw [List.getElem?_eq_getElem hj, ej])
      unfold DoneAt at hd
      omega)]
    exact ⟨rfl, rfl⟩
  · have hz1 := ptK_range h1 ((hp z).1 (List.mem_of_getElem? hz))
    rw [br_some (n := g) ⟨h0, ⟨z, hz1.1, hz1.2, by unfold DoneAt; omega⟩, fun x a b hd => by
      obtain ⟨p, hp1, hp2, hp3⟩ := next_point hok _ rfl a b
      obtain ⟨j, hj, ej⟩ := List.getElem_of_mem ((hp p).2 hp1)
      have := h j p hj (by rw [List.getElem?_eq_getElem hj, ej])
      unfold DoneAt at hd
      omega⟩]
    exact ⟨rfl, rfl⟩

/-! ### the keys of a map -/
theorem nodup_len : ∀ (m : Nat) (ks : List Int), ks.Nodup → (∀ x ∈ ks, 1 ≤ x ∧ x ≤ (m : Int)) → ks.length ≤ m
  | 0, [], _, _ => Nat.le_refl _
  | 0, x :: ks, _, h => by have := h x (List.mem_cons_self ..); omega
  | m + 1, ks, hn, h => by
    by_cases q : ((m + 1 : Nat) : Int) ∈ ks
    · have h1 := List.length_erase_of_mem q
      have h2 := nodup_len m (ks.erase ((m + 1 : Nat) : Int)) (hn.erase _) (fun x hx => by
        have h3 := (List.Nodup.mem_erase_iff hn).1 hx
        have h4 := h x h3.2
        have h5 := h3.1
        omega)
      omega
    · have := nodup_len m ks hn (fun x hx => by
        have h1 := h x hx
        have h2 : x ≠ ((m + 1 : Nat) : Int) := fun e => q (e ▸ hx)
        omega)
      omega
abbrev KT : TypeId := 2
/-- What the values of a set read as. -/
def Rz : Value → Option (DataW Unit × List MemPlace) := fun _ => some (.lit (.int .i64 0), [])
theorem lawK : Keyed Try.prog KT := int_keyed Try.underlying2
/-- A block is a map of at most 1000 numbers, just those of K. -/
def PtAt (W : World) (bm : Nat) (K : Int → Prop) : Prop := ∃ D : DataW Unit, W.ownsMap Try.prog KT Rz bm 1000 D ∧ ∀ x, Maps.has D (.int .i64 x) = true ↔ K x
theorem keys_nodup {W : World} {bm n : Nat} {D : DataW Unit} (h : W.ownsMap Try.prog KT Rz bm n D) : (intKeys D).Nodup ∧ (∀ x, x ∈ intKeys D ↔ Maps.has D (.int .i64 x) = true) ∧ Maps.size D = (intKeys D).length := by
  obtain ⟨es, hD, hpw, _⟩ := h.entries lawK
  obtain ⟨es', hD', hko⟩ := h.keysOf
  obtain rfl : es = es' := by rw [hD] at hD'; simpa using hD'
  subst hD
  have hk : ∀ p ∈ es, ∃ x, p.1 = .int .i64 x := fun p hp => by
    obtain ⟨v, hv⟩ := hko p hp
    obtain ⟨x, _, hx, _⟩ := Maps.keyOf_i64 Try.underlying2 hv
    exact ⟨x, hx⟩
  refine ⟨?_, fun x => ?_, ?_⟩
  · show (es.map fun p => Go.intOf p.1).Nodup
    refine List.pairwise_map.2 (hpw.imp_of_mem fun {p q} hp' hq' hne e => hne ?_)
    obtain ⟨a, ha⟩ := hk p hp'
    obtain ⟨b, hb⟩ := hk q hq'
    rw [ha, hb] at e ⊢
    exact congrArg _ e
  · rw [has_eq, List.any_eq_true]
    show x ∈ es.map (fun p => Go.intOf p.1) ↔ _
    rw [List.mem_map]
    constructor
    · rintro ⟨p, hp', rfl⟩
      obtain ⟨a, ha⟩ := hk p hp'
      exact ⟨p, hp', by rw [ha]; simp [Lit.sameKey, Go.intOf]⟩
    · rintro ⟨p, hp', hs⟩
      obtain ⟨a, ha⟩ := hk p hp'
      rw [ha] at hs
      exact ⟨p, hp', by rw [ha]; simpa [Lit.sameKey, Go.intOf] using hs⟩
  · show es.length = (es.map _).length
    rw [List.length_map]
theorem size_keys {W : World} {bm n : Nat} {D : DataW Unit} (h : W.ownsMap Try.prog KT Rz bm n D) {m : Nat} (hm : ∀ x, Maps.has D (.int .i64 x) = true → 1 ≤ x ∧ x ≤ (m : Int)) : Maps.size D ≤ m := by
  obtain ⟨h1, h2, h3⟩ := keys_nodup h
  rw [h3]
  exact nodup_len m _ h1 (fun x hx => hm x ((h2 x).1 hx))
theorem owns_tight {w : World} {bm n m : Nat} {D : DataW Unit} {R : Value → Option (DataW Unit × List MemPlace)} {P : Program} {k : TypeId} (h : w.ownsMap P k R bm n D) (hm : Maps.size D ≤ m) : w.ownsMap P k R bm m D := by
  obtain ⟨es, clock, hb, F, hs, rfl⟩ := h
  refine ⟨es, clock, hb, F, ?_, rfl⟩
  have : Maps.size (DataW.map ((es.toList.map (WideElems.rg P k R)).foldr DataW.insert [])) = es.size := by simp [Maps.size, length_sorted]
  omega
theorem i64_wf {x : Int} (h1 : 0 ≤ x) (h2 : x ≤ 1000000) : (Lit.int .i64 x).wf = true := by
  simp [Lit.wf, IntKind.min, IntKind.max, IntKind.signed, IntKind.bits]; omega
/-- Behind a store. -/
theorem PtAt.stored {W : World} {bm n : Nat} {D : DataW Unit} {K K' : Int → Prop} {x : Int} {W0 : World} {n0 : Nat} (h0 : W0.ownsMap Try.prog KT Rz bm n0 D) (hK : ∀ y, Maps.has D (.int .i64 y) = true ↔ K y)
    (h : W.ownsMap Try.prog KT Rz bm n (D.put (.int .i64 x) (.lit (.int .i64 0)))) (hK' : ∀ y, (y = x ∨ K y) ↔ K' y) {m : Nat} (hm : m ≤ 1000) (hr : ∀ y, K' y → 1 ≤ y ∧ y ≤ (m : Int)) :
    W.ownsMap Try.prog KT Rz bm 1000 (D.put (.int .i64 x) (.lit (.int .i64 0))) ∧ ∀ y, Maps.has (D.put (.int .i64 x) (.lit (.int .i64 0))) (.int .i64 y) = true ↔ K' y := by
  have ht := h0.tidy lawK
  have hh : ∀ y, Maps.has (D.put (.int .i64 x) (.lit (.int .i64 0))) (.int .i64 y) = true ↔ K' y := fun y => by
    rw [← hK' y]
    by_cases e : y = x
    · subst e
      rw [has_put_same ht.isMap (by trivial)]
      simp
    · rw [has_put_other (by simp [e]), hK y]
      simp [e]
  exact ⟨owns_tight h (Nat.le_trans (size_keys h (fun y hy => hr y ((hh y).1 hy))) hm), hh⟩

/-- A row of numbers that can be read. -/
def LView (w : World) (a : Option Addr) (ps : List Int) : Prop := ps = [] ∨ ∃ g, a = some ⟨g, 0, none⟩ ∧ ∀ (j : Nat) (x : Int), ps[j]? = some x → w.cell? ⟨g, j, none⟩ = some (.int .i64 x)
theorem LView.at_ {w : World} {a : Option Addr} {ps : List Int} (h : LView w a ps) {k : Nat} {x : Int} (hx : ps[k]? = some x) : ∃ g, a = some ⟨g, 0, none⟩ ∧ w.cell? ⟨g, k, none⟩ = some (.int .i64 x) := by
  rcases h with rfl | ⟨g, e, hc⟩
  · simp at hx
  · exact ⟨g, e, hc k x hx⟩
theorem LView.below {w w' : World} {a : Option Addr} {ps : List Int} (h : LView w a ps) (hb : Below w.heap.size w w') : LView w' a ps := by
  rcases h with rfl | ⟨g, e, hc⟩
  · exact .inl rfl
  · exact .inr ⟨g, e, fun j x hj => kept_cell hb (hc j x hj)⟩
theorem lview_of {w : World} {B : Nat} {v : Value} {T : TypeId} {ps : List Int} {k : Nat} (h : w.ownsRow B T 1 v k (ps.map encZ)) (hk : ps.length = k) : ∃ a c, v = .slice a k c ∧ LView w a ps := by
  rcases h.2 with ⟨rfl, h0⟩ | ⟨g, cap, cur, rfl, _, h3, h1, h2, h4, h5⟩
  · exact ⟨none, 0, by rw [h0], .inl (List.length_eq_zero_iff.1 (by omega))⟩
  · refine ⟨_, cap, rfl, .inr ⟨g, rfl, fun j x hj => ?_⟩⟩
    rw [blk_cell h3]
    have hjl : j < ps.length := (List.getElem?_eq_some_iff.1 hj).1
    have : (ps.map encZ)[j]? = some (encZ x) := by rw [List.getElem?_map, hj]; rfl
    rw [← h5, List.getElem?_take, if_pos (by omega)] at this
    simpa using this
end Go.Proofs.Ytpmllljlhopgbaa

/-
  The walk over the points.
-/
namespace Go.Proofs.Ytpmllljlhopgbaa
open Go.RowKit Go.Maps Go.Shelf Go.Sort

theorem wpList_insert_own {H : Type} {P : Program} (w : World) {ops : Array Oper} {rest : List Oper} {o : Oper} {a : Act} {Q : Exit → Act → World → Prop}
    (hg : o.guard = none) (m x v : Operand) (t : TypeId) (hop : o.op = Op.insert t m x v)
    (k e : TypeId) (K : Keyed P k) (ht : P.underlying t = some (.map k e)) (R : Value → Option (DataW H × List MemPlace)) (b n : Nat) (D : DataW H)
    (hm : a.eval m = .map (some b)) (hown : w.ownsMap P k R b n D) (hn : n < maxLen) (key val : Value) (kl : Lit) (hx : a.eval x = key) (hv : a.eval v = val) (hkey : keyOf P k key = some kl)
    (d : DataW H) (ps : List MemPlace) (hval : R val = some (d, ps))
    (hK : ∀ w', w'.ownsMap P k R b (n + 1) (D.put kl d) → w.grownBy w' (some b) → wpList P ops Q rest (a.put o.dst undef) w') :
    wpList P ops Q (o :: rest) a w := by
  refine wpList_plain hg fun K' hK' => ?_
  obtain ⟨w', hrun, r1, r2⟩ := hown.update K ht hn hkey hval
  unfold Oper.wp
  simp [execOp, hop, hm, hx, hv, hrun, Result.andThen]
  exact hK' _ _ (hK w' r1 r2)

theorem ukeys_any (mb : Option Nat) (w : World) : Calls Try.prog 30 #[.map mb] w fun e w' => e = .returned (.func (.func 44) #[] #[.pointer (some ⟨w.heap.size, 0, none⟩)]) ∧ w' = w.alloc (.cells #[.map mb] 62) :=
  callsIn_wide.1 (AnyZI.keys_in Try.keysL Fence.wide 5 trivial rfl mb w)
theorem usortsL (m : Nat) : AnyZI.SortsIn Try.prog Try.sortedL_ren Fence.wide m :=
  ⟨fun blk off cap ss W hH hblk hsz => callsIn_wide.2 (AnyM.slices_Sort_int Try.sortL blk off cap ss W hH hblk hsz),
   fun p cap W => callsIn_wide.2 (AnyM.slices_Sort_int_none Try.sortL p cap W)⟩
/-- The keys, in a row of its own. -/
structure KeysBack (w : World) (K : Int → Prop) (e : Ending) (w' : World) : Prop where
  low : Below w.heap.size w w'
  got : ∃ (a : Option Addr) (n c : Nat) (ps : List Int), e = .returned (.slice a n c) ∧ ps.length = n ∧ n ≤ 1000 ∧ LView w' a ps ∧ ∀ x, x ∈ ps ↔ K x
set_option maxHeartbeats 1000000 in
theorem usortedk_any {w : World} {bm : Nat} {K : Int → Prop} (h : PtAt w bm K) (Bm : Nat) (hB : w.heap[Bm]? = some (.cells #[.map (some bm)] 62 (0, 0))) :
    Calls Try.prog 29 #[.func (.func 44) #[] #[.pointer (some ⟨Bm, 0, none⟩)]] w (KeysBack w K) := by
  obtain ⟨D, hown, hK⟩ := h
  obtain ⟨h1, h2, h3⟩ := keys_nodup hown
  have hsz := hown.size_le
  have hseq : SeqGives Fence.wide 2 Try.prog 44 #[.pointer (some ⟨Bm, 0, none⟩)] encZ (fun ss => ss.Perm (intKeys D)) (Maps.size D) w :=
    AnyZI.keys_gives (ρ := Try.keysL_ren) { Try.keysL with } Fence.wide _ trivial rfl (by omega) Bm bm 1000 D _ (lt_of_block hB) (by rw [blk_cell hB]; rfl) hown
  have cS := AnyZI.sorted_in Try.sortedL Fence.wide 5 trivial trivial trivial trivial rfl (by omega) (usortsL _) (enters_of Try.func43 (by kernel_rfl) rfl) 44 #[.pointer (some ⟨Bm, 0, none⟩)] trivial (enters_of Try.func44 (by kernel_rfl) rfl) _ _ (Nat.le_trans hsz (by decide)) (by omega) _ hseq
  change CallsIn _ _ Try.prog 29 _ _ _ at cS
  refine (callsIn_wide.1 cS).mono ?_
  rintro e w' ⟨v, ss, rfl, hp, hrow, _, hb⟩
  have hpm : (ss.mergeSort (fun x y => decide (x ≤ y))).Perm (intKeys D) := (List.mergeSort_perm ss _).trans hp
  have hl : (ss.mergeSort (fun x y => decide (x ≤ y))).length = ss.length := (List.mergeSort_perm ss _).length_eq
  obtain ⟨a, c, rfl, hv⟩ := lview_of hrow hl
  refine ⟨hb, a, ss.length, c, _, rfl, hl, by rw [hp.length_eq, ← h3]; exact hsz, hv, fun x => ?_⟩
  rw [hpm.mem_iff, h2 x]
  exact hK x

set_option maxRecDepth 100000 in
set_option maxHeartbeats 8000000 in
theorem upoints_gen {w : World} {a : Option Addr} {n c : Nat} {l : List Dm} (h : Dems w a n c l) (hok : ∀ x ∈ l, x.ok) (hn : n ≤ 12) (most : Int) (m0 : 1 ≤ most) (m1 : most ≤ 1000) :
    Calls Try.prog 16 #[.slice a n c, .int .i64 most] w (KeysBack w (PtK l most l.length)) := by
  have hokL : okL l = true := okL_iff.2 ⟨hok, by have := h.len; omega⟩
  have HV := Lib.hid h.view
  have HL := Lib.hid h.len
  have HOK := Lib.hid hok
  have RC := Lib.hid (fun v (hb : Below w.heap.size w v) => pchk_any l n c h.len h.n9 a v (h.view.below hb))
  rw [hokL] at RC
  have TC := Lib.hid (fun v => utime_any most m0 (by omega) v)
  have hmm := @run_makeMap Try.prog
  have hkey := keyOf_int_mk Try.underlying2 (i64_wf (x := most) (by omega) (by omega))
  clear h hok hokL
  go_enter Try.func16, Try.ntmps16
  go_upto_region 3 with (first
    | (go_at_call 13; (with_reducible refine (RC.out _ (by repeat (first | exact Below.refl _ _ | (with_reducible assumption) | refine bw_alloc ?_ _ | refine bw_drew ?_))).mono ?_); rintro e w1 ⟨rfl, bx1⟩; have HB1 := Lib.hid bx1; clear bx1)
    | (go_at_call 14; (with_reducible refine (TC.out _).mono ?_); rintro e w2 ⟨rfl, rfl⟩))
  clear RC TC
  have HM0 : Hid ((w1.alloc (.map #[] 0)).ownsMap Try.prog KT Rz w1.heap.size 0 (.map [])) := World.ownsMap_made w1 _ _ _
  go_upto_block 0 with (first
    | (refine wpList_insert_own _ rfl _ _ _ 62 rfl KT 61 lawK Try.underlying62 _ _ 0 _ rfl HM0.out (by decide) _ _ _ rfl rfl hkey _ [] rfl ?_; intro w4 hown4 hg4))
  have hS0 := PtAt.stored (K := fun _ => False) (K' := PtK l most 0) (m := 1000) HM0.out (fun y => by simp [has_eq]) hown4 (fun y => by rw [ptK_zero]; simp) (Nat.le_refl _) (fun y hy => by have := ptK_range m0 hy; omega)
  have HP4 : Hid (PtAt w4 w1.heap.size (PtK l most 0)) := ⟨_, hS0.1, hS0.2⟩
  have HB4 : Hid (Below w1.heap.size w1 w4) := ((by repeat (first | exact Below.refl _ _ | (with_reducible assumption) | refine bw_alloc ?_ _ | refine bw_drew ?_)) : Below w1.heap.size w1 (w1.alloc (.map #[] 0))).grown hg4 (by simp) (fun k e => by cases e; exact Nat.le_refl _)
  have HMB : Hid (w1.heap.size < w4.heap.size) := HP4.out.choose_spec.1.lt
  clear hS0 hown4 hg4 HM0 hmm hkey
  generalize hbm : w1.heap.size = bm at *
  have HBM := Lib.hid hbm
  clear hbm
  go_cut [23] (fun u wx => u = .int .i64 (n : Int) ∧ Hid (PtAt wx bm (PtK l most n)) ∧ Hid (Below bm w1 wx))
  case first =>
    go_wp2
    go_loopw [23] (fun u wr => ∃ k : Nat, k ≤ n ∧ u = .int .i64 (k : Int) ∧ Hid (PtAt wr bm (PtK l most k)) ∧ Hid (Below bm w1 wr)) (fun u _ => (n - intOf u).toNat)
    case atStart => exact ⟨0, Nat.zero_le _, rfl, HP4, HB4⟩
    case round =>
      obtain ⟨k, hk, rfl, HP, HB⟩ := hrel
      clear HP4 HB4
      by_cases hlt : k < n
      · obtain ⟨z, hz⟩ := nth_of HL.out hlt
        obtain ⟨g, o, rfl, ⟨c0, c1, c2⟩⟩ := (HV.out.below (below_up HB1.out (by have := HB.out; rwa [← HBM.out] at this))).at_ hz
        have hk1 : (k : Int) < (n : Int) := by omega
        have hk0 : (0 : Int) ≤ (k : Int) := by omega
        have hzo := HOK.out z (List.mem_of_getElem? hz)
        have z1 := hzo.d1; have z2 := hzo.d2; have z3 := hzo.t2
        have HZ := Lib.hid hz
        have HZT : Hid (1 ≤ z.t ∧ z.t ≤ 1073741824) := ⟨by omega, z3⟩
        clear hz hzo z1 z2 z3
        have HBK : Hid (bm < wr.heap.size) := HP.out.choose_spec.1.lt
        go_upto_region 7 with fail
        obtain ⟨v7, hv7⟩ : ∃ v7, wr.alloc (.cells #[.int .i64 z.c, .int .i64 z.d, .int .i64 z.t] 29) = v7 := ⟨_, rfl⟩
        have hbx : v7.heap[wr.heap.size]? = some (.cells #[.int .i64 z.c, .int .i64 z.d, .int .i64 z.t] 29 (0, 0)) := by rw [← hv7]; exact heap_alloc_new wr _
        have HB7 : Hid (Below wr.heap.size wr v7) := by rw [← hv7]; exact bw_alloc (Below.refl _ _) _
        have HB8 : Hid (Below bm w1 v7) := by
          have h1 := HB.out; have h2 := HB7.out
          rw [← HBM.out] at h1 ⊢
          exact below_up h1 h2
        have HP7 : Hid (PtAt v7 bm (PtJ l most k z z.t)) := by
          obtain ⟨D, hown, hK⟩ := HP.out
          obtain ⟨es, clock, hb, r⟩ := hown
          exact ⟨D, ⟨es, clock, kept_obj HB7.out hb, r⟩, fun x => (hK x).trans (ptJ_start (by have := HZT.out.1; omega)).symm⟩
        have HX7 := Lib.hid hbx
        have k2 : v7.cell? ⟨wr.heap.size, 2, none⟩ = some (.int .i64 z.t) := by rw [blk_cell hbx]; rfl
        rw [hv7]
        clear hv7 c0 c1 c2 HB7 HP HB hbx
        generalize wr.heap.size = gx at *
        go_upto_block 2 with fail
        clear k2
        go_wp2
        go_loopw [8] (fun u wq => ∃ X : Int, u = .int .i64 X ∧ 1 ≤ X ∧ Hid (z.t ∣ X) ∧ Hid (PtAt wq bm (PtJ l most k z X)) ∧ Hid (Below bm w1 wq) ∧ Hid (wq.heap[gx]? = some (.cells #[.int .i64 z.c, .int .i64 z.d, .int .i64 z.t] 29 (0, 0)))) (fun u _ => (most - intOf u).toNat)
        case atStart => exact ⟨z.t, rfl, HZT.out.1, Int.dvd_refl _, HP7, HB8, HX7⟩
        case round =>
          obtain ⟨X, rfl, hX1, HD, HPq, HBq, HXq⟩ := hrel
          clear HP7 HB8 HX7
          by_cases hXm : X < most
          · obtain ⟨D, hown, hK⟩ := HPq.out
            have HOWN := Lib.hid hown
            have HKq := Lib.hid hK
            have hkey := keyOf_int_mk Try.underlying2 (i64_wf (x := X) (by omega) (by omega))
            have t3 := HZT.out
            have ew : IntKind.i64.wrap (X + z.t) = X + z.t := IntWalk.i64_in _ (by omega)
            clear hown hK t3
            go_wp2_with (first
              | (at_mapUpdate; refine wpList_mapUpdate_own _ rfl _ _ _ 62 rfl KT 61 lawK Try.underlying62 _ _ 1000 D rfl HOWN.out (by decide) _ _ _ rfl rfl hkey _ [] rfl ?_; intro w6 hown6 hg6; have hS6 := PtAt.stored (K' := PtJ l most k z (X + z.t)) (m := 1000) HOWN.out HKq.out hown6 (fun y => ptJ_step (by have := HZT.out.1; omega) hX1 hXm HD.out) (Nat.le_refl _) (fun y hy => by have := ptJ_range m0 hy; omega); have hln := fun ty => hS6.1.len (t := 62) Try.underlying62 ty; have hsz := hS6.1.size_le; have hq : ¬ (4096 : Int) < (Maps.size (D.put (.int .i64 X) (.lit (.int .i64 0))) : Int) := (by omega); have hgx : w6.heap[gx]? = some (.cells #[.int .i64 z.c, .int .i64 z.d, .int .i64 z.t] 29 (0, 0)) := (hg6.block gx (lt_of_block HXq.out) (fun e => by cases e; have := HBK.out; omega)).trans HXq.out; have k6 : w6.cell? ⟨gx, 2, none⟩ = some (.int .i64 z.t) := (by rw [blk_cell hgx]; rfl); have HS6 : Hid (PtAt w6 bm (PtJ l most k z (X + z.t))) := ⟨_, hS6.1, hS6.2⟩; have HB6 : Hid (Below bm w1 w6) := HBq.out.grown hg6 (by have := HBq.out.size; have := HBM.out; omega) (fun k e => by cases e; exact Nat.le_refl _); have HX6 := Lib.hid hgx; clear hown6 hg6 hS6 hgx hsz))
            go_roundw
            case rel => exact ⟨X + z.t, rfl, by have := HZT.out.1; omega, Int.dvd_add HD.out (Int.dvd_refl _), HS6, HB6, HX6⟩
            case measure => have := HZT.out.1; simp [intOf]; omega
          · have hXm2 : ¬ X < most := hXm
            have HE : Hid (PtAt wr bm (PtK l most (k + 1))) := by
              obtain ⟨D, hown, hK⟩ := HPq.out
              exact ⟨D, hown, fun x => (hK x).trans (ptJ_end HZ.out (by omega))⟩
            go_wp2
            go_roundw
            case rel => exact ⟨k + 1, by omega, by go_num, HE, HBq⟩
            case measure => simp [intOf]; omega
      · obtain rfl : k = n := by omega
        go_wp2
        go_meet
        exact ⟨rfl, HP, HB⟩
  case rest =>
    obtain ⟨rfl, HP, HB⟩ := hcut
    have KC := Lib.hid (fun v => ukeys_any (some bm) v)
    have HPA : Hid (PtAt (wc.alloc (.cells #[.map (some bm)] 62)) bm (PtK l most l.length)) := by
      obtain ⟨D, ⟨es, clock, hb, r⟩, hK⟩ := HP.out
      exact ⟨D, ⟨es, clock, kept_obj ((by repeat (first | exact Below.refl _ _ | (with_reducible assumption) | refine bw_alloc ?_ _ | refine bw_drew ?_)) : Below wc.heap.size wc _) hb, r⟩, fun x => by rw [HL.out]; exact hK x⟩
    have SC := Lib.hid (usortedk_any HPA.out wc.heap.size (heap_alloc_new wc _))
    have HBW : Hid (Below w.heap.size w wc) := below_up HB1.out (by have := HB.out; rwa [← HBM.out] at this)
    clear HPA HP HB HP4 HB4
    go_wp2_with (first
      | (go_at_call 30; (with_reducible refine (KC.out _).mono ?_); rintro e v1 ⟨rfl, rfl⟩)
      | (go_at_call 29; (with_reducible refine (SC.out).mono ?_); rintro e v2 ⟨h1, a', n', c', ps, rfl, h2⟩; have H1 := Lib.hid h1; have H2 := Lib.hid h2; clear h1 h2))
    go_ret
    exact ⟨below_up (bw_alloc HBW.out _) H1.out, a', n', c', ps, rfl, H2.out⟩
end Go.Proofs.Ytpmllljlhopgbaa

/-
  The walk over what may be held.
-/
namespace Go.Proofs.Ytpmllljlhopgbaa
open Go.RowKit Go.Maps Go.Shelf Go.Sort

set_option maxRecDepth 100000 in
set_option maxHeartbeats 8000000 in
theorem ubear_gen {w : World} {a : Option Addr} {n c : Nat} {l : List Dm} (h : Dems w a n c l) (hg : Light l) (most : Int) (m0 : 1 ≤ most) (m1 : most ≤ 1000) : Calls Try.prog 10 #[.slice a n c, .int .i64 most] w fun e w' => e = .returned (.tuple #[.int .i64 ((brS l most).getD 0), .bool (brS l most).isSome]) ∧ Below w.heap.size w w' := by
  have hn8 : n ≤ 8 := by have := h.len; have := hg.len; omega
  have HG := Lib.hid hg
  have WC := Lib.hid (fun (x : Int) (x0 : 1 ≤ x) (x1 : x ≤ 1000) v (hb : Below w.heap.size w v) => uwork_gen (h.below hb) hg x x0 x1)
  have PC := Lib.hid (upoints_gen h hg.ok (by omega) most m0 m1)
  clear h hg
  go_enter Try.func10, Try.ntmps10
  go_upto_block 0 with (go_at_call 16; (with_reducible refine (PC.out).mono ?_); rintro e w1 ⟨h1, a', n', c', ps, rfl, h2, h3, h4, h5⟩; have HB1 := Lib.hid h1; have HL2 := Lib.hid h2; have HV := Lib.hid h4; have HP := Lib.hid h5; clear h1 h2 h4 h5)
  clear PC
  go_cut [6, 7] (fun s f wx => ∃ g q, s = .int .i64 g ∧ f = .bool q ∧ Hid (BestAt l ps n' g q) ∧ Hid (Below w1.heap.size w1 wx))
  case first =>
    go_wp2
    go_loopw [6, 7, 16] (fun s f u wr => ∃ (k : Nat) (g : Int) (q : Bool), k ≤ n' ∧ u = .int .i64 (k : Int) ∧ s = .int .i64 g ∧ f = .bool q ∧ Hid (BestAt l ps k g q) ∧ Hid (Below w1.heap.size w1 wr)) (fun _ _ u _ => (n' - intOf u).toNat)
    case atStart => exact ⟨0, 0, false, Nat.zero_le _, rfl, rfl, rfl, BestAt.start l ps, Below.refl _ _⟩
    case round =>
      obtain ⟨k, g, q, hk, rfl, rfl, rfl, HBA, HB⟩ := hrel
      by_cases hlt : k < n'
      · obtain ⟨x, hx⟩ := nth_of HL2.out hlt
        obtain ⟨g2, rfl, c0⟩ := (HV.out.below HB.out).at_ hx
        have hk1 : (k : Int) < (n' : Int) := by omega
        have hk0 : (0 : Int) ≤ (k : Int) := by omega
        have hxr := ptK_range m0 ((HP.out x).1 (List.mem_of_getElem? hx))
        have W := Lib.hid (WC.out x hxr.1 (by omega) _ (below_up HB1.out HB.out))
        have hwl := work_light HG.out (X := x) (by omega) (by omega) l.length
        have hll := HG.out.len
        have hwu : workA l x ≤ 8388608000 := by unfold workA; omega
        have hw0 : 0 ≤ workA l x := hwl.1
        have HTK := Lib.hid (fun (z : g ≤ x - workA l x) => HBA.out.take hx z)
        have HPS := Lib.hid (fun (z : x - workA l x < g) => HBA.out.pass hx z)
        obtain ⟨wk, hwk⟩ : ∃ wk, workA l x = wk := ⟨_, rfl⟩
        rw [hwk] at W HTK HPS hwu hw0
        have ew : IntKind.i64.wrap (x - wk) = x - wk := IntWalk.i64_in _ (by omega)
        clear hx hwl hll hwu hw0 hwk hxr
        rcases Int.lt_or_le (x - wk) g with hq | hq
        · have hq1 : ¬ g ≤ x - wk := by omega
          go_wp2_with (go_at_call 12; (with_reducible refine (W.out).mono ?_); rintro e wy ⟨rfl, by6⟩; have HB6 := Lib.hid by6; clear by6)
          go_roundw
          case rel => exact ⟨k + 1, g, q, by omega, by go_num, rfl, rfl, HPS.out hq, Lib.hid (below_up HB.out HB6.out)⟩
          case measure => simp [intOf]; omega
        · go_wp2_with (go_at_call 12; (with_reducible refine (W.out).mono ?_); rintro e wy ⟨rfl, by6⟩; have HB6 := Lib.hid by6; clear by6)
          go_roundw
          case rel => exact ⟨k + 1, x - wk, true, by omega, by go_num, rfl, rfl, HTK.out hq, Lib.hid (below_up HB.out HB6.out)⟩
          case measure => simp [intOf]; omega
      · obtain rfl : k = n' := by omega
        go_wp2
        go_meet
        exact ⟨g, q, rfl, rfl, HBA, HB⟩
  case rest =>
    obtain ⟨g, q, rfl, rfl, HBA, HB⟩ := hcut
    have HO := Lib.hid (BestAt.out HG.out.ok m0 HP.out (by have := HBA.out; rwa [← HL2.out] at this))
    clear HBA WC
    go_wp2
    go_ret2
    rw [HO.out.1, HO.out.2]
    exact ⟨rfl, below_up HB1.out HB.out⟩
end Go.Proofs.Ytpmllljlhopgbaa

/-
  What the program's calls answer.
-/
namespace Go.Proofs.Ytpmllljlhopgbaa
open Go.RowKit Go.Maps

theorem AllGood.light {l : List Dm} (hg : AllGood l) (hl : l.length ≤ 6) : Light l :=
  ⟨hg.ok, fun x hx => by have h := hg x hx; have := h.per; have := h.d2; have := h.c1; omega, by omega⟩
theorem uwork_any {w : World} {a : Option Addr} {n c : Nat} {l : List Dm} (h : Dems w a n c l) (hg : AllGood l) (hl : l.length ≤ 6) (X : Int) (h0 : 1 ≤ X) (h1 : X ≤ 1000) : Calls Try.prog 12 #[.slice a n c, .int .i64 X] w fun e w' => e = .returned (.tuple #[.int .i64 (workA l X), .bool true]) ∧ Below w.heap.size w w' := uwork_gen h (hg.light hl) X h0 h1
theorem ubusy_any {w : World} {a : Option Addr} {n c : Nat} {l : List Dm} (h : Dems w a n c l) (hg : AllGood l) (hl : l.length ≤ 6) (held most : Int) (h0 : 0 ≤ held) (h1 : held ≤ 1000) (m0 : 1 ≤ most) (m1 : most ≤ 1000) : Calls Try.prog 9 #[.slice a n c, .int .i64 held, .int .i64 most] w fun e w' => e = .returned (.tuple #[.int .i64 ((bsS l held most).getD 0), .bool (bsS l held most).isSome]) ∧ Below w.heap.size w w' := ubusy_gen h hg.ok (by have := h.len; omega) held most h0 (by omega) m0 (by omega)
theorem ubear_any {w : World} {a : Option Addr} {n c : Nat} {l : List Dm} (h : Dems w a n c l) (hg : AllGood l) (hl : l.length ≤ 6) (most : Int) (m0 : 1 ≤ most) (m1 : most ≤ 1000) : Calls Try.prog 10 #[.slice a n c, .int .i64 most] w fun e w' => e = .returned (.tuple #[.int .i64 ((brS l most).getD 0), .bool (brS l most).isSome]) ∧ Below w.heap.size w w' := ubear_gen h (hg.light hl) most m0 m1
theorem ufits_any {w : World} {a : Option Addr} {n c : Nat} {l : List Dm} (h : Dems w a n c l) (hg : AllGood l) (hl : l.length ≤ 6) (held most : Int) (h0 : 0 ≤ held) (h1 : held ≤ 1000) (m0 : 1 ≤ most) (m1 : most ≤ 1000) : Calls Try.prog 11 #[.slice a n c, .int .i64 held, .int .i64 most] w fun e w' => e = .returned (.bool (bsS l held most).isSome) ∧ Below w.heap.size w w' := ufits_gen h hg.ok (by have := h.len; omega) held most h0 (by omega) m0 (by omega)
end Go.Proofs.Ytpmllljlhopgbaa

/-
  The walk over the chapter's examples; what numbers mean, as a contract.
-/
namespace Go.Proofs.Ytpmllljlhopgbaa
open Go.RowKit Go.Maps

abbrev awkL : List Dm := [⟨1, 4, 4⟩, ⟨2, 6, 6⟩]
theorem awk_good : AllGood awkL := fun x hx => by
  rcases List.mem_cons.1 hx with rfl | h
  · exact ⟨by decide, by decide, by decide, by decide, by decide⟩
  · rw [List.mem_singleton.1 h]; exact ⟨by decide, by decide, by decide, by decide, by decide⟩
theorem awk_one : bsS awkL 0 9 = some 3 := bs_some ⟨by decide, by decide, by unfold DoneAt; decide, fun y h1 h2 => by
  rcases (show y = 1 ∨ y = 2 by omega) with rfl | rfl <;> (unfold DoneAt; decide)⟩
theorem awk_two : bsS awkL 2 9 = some 6 := bs_some ⟨by decide, by decide, by unfold DoneAt; decide, fun y h1 h2 => by
  rcases (show y = 1 ∨ y = 2 ∨ y = 3 ∨ y = 4 ∨ y = 5 by omega) with rfl | rfl | rfl | rfl | rfl <;> (unfold DoneAt; decide)⟩
theorem awk_view (w : World) (T : TypeId) : Dems (w.alloc (.cells #[.int .i64 1, .int .i64 4, .int .i64 4, .int .i64 2, .int .i64 6, .int .i64 6] T)) (some ⟨w.heap.size, 0, none⟩) 2 2 awkL := by
  refine ⟨rfl, .inr ⟨w.heap.size, 0, rfl, fun j u hj => ?_⟩, Nat.le_refl _, by omega, fun x hx => ?_⟩
  · rw [Nat.zero_add, World.cell?_alloc_new]
    match j, hj with
    | 0, hj => simpa [gflat, gcells] using hj
    | 1, hj => simpa [gflat, gcells] using hj
    | 2, hj => simpa [gflat, gcells] using hj
    | 3, hj => simpa [gflat, gcells] using hj
    | 4, hj => simpa [gflat, gcells] using hj
    | 5, hj => simpa [gflat, gcells] using hj
    | j + 6, hj => simp [gflat, gcells] at hj
  · have q := awk_good x hx
    have := q.per; have := q.d1; have := q.d2; have := q.c0; have := q.c1
    unfold I64; omega
set_option maxRecDepth 100000 in
set_option maxHeartbeats 4000000 in
theorem awake_any (w : World) : Calls Try.prog 7 #[] w fun e w' => e = .returned (.bool true) ∧ Below w.heap.size w w' := by
  have B1 := Lib.hid (fun v a (h : Dems v a 2 2 awkL) => ubusy_any h awk_good (by decide) 0 9 (by omega) (by omega) (by omega) (by omega))
  have B2 := Lib.hid (fun v a (h : Dems v a 2 2 awkL) => ubusy_any h awk_good (by decide) 2 9 (by omega) (by omega) (by omega) (by omega))
  rw [awk_one] at B1
  rw [awk_two] at B2
  have HD := Lib.hid (fun (v : World) T => awk_view v T)
  go_enter Try.func7, Try.ntmps7
  go_upto_region 2 with fail
  refine gen_world (fun v => Below w.heap.size w v ∧ Dems v (some ⟨w.heap.size, 0, none⟩) 2 2 awkL) ⟨(by repeat (first | exact Below.refl _ _ | (with_reducible assumption) | refine bw_alloc ?_ _ | refine bw_drew ?_)), HD.out w _⟩ ?_
  intro V ⟨hb, hd⟩
  have HV := Lib.hid hb
  have HDV := Lib.hid hd
  clear hb hd HD
  go_upto_region 3 with (go_at_call 9; (with_reducible refine (B1.out _ _ HDV.out).mono ?_); rintro e w1 ⟨rfl, b1⟩; have HB1 := Lib.hid b1; clear b1)
  have HD1 := Lib.hid (HDV.out.below HB1.out)
  go_wp2_with (go_at_call 9; (with_reducible refine (B2.out _ _ HD1.out).mono ?_); rintro e w2 ⟨rfl, b2⟩; have HB2 := Lib.hid (below_up HB1.out b2); clear b2)
  go_ret
  exact ⟨rfl, HV.out.trans (HB2.out.mono HV.out.size)⟩
/-- The demands that numbers mean, as a contract. -/
theorem made_dems {w : World} {a : Option Addr} {n : Nat} {l : Nat → Int × Int × Int} (hn : Trips w a n l) (cap : Nat) :
    Calls Try.prog 8 #[.slice a n cap] w fun e w' => (∃ (a' : Option Addr) (N c' : Nat) (M : List Dm), e = .returned (.slice a' N c') ∧ Dems w' a' N c' M ∧ N = min n 6 ∧ AllGood M) ∧ Below w.heap.size w w' :=
  (made11_any hn cap).mono fun _ _ ⟨⟨a', N, c', M, he, hv, hl, hN, hc, hc9, hg⟩, hb⟩ => ⟨⟨a', N, c', M, he, Dems.good hv hl hc hc9 hg, hN, hg⟩, hb⟩
end Go.Proofs.Ytpmllljlhopgbaa

/-
  The walk over the statement that a busy time is the least, by the clock.
-/
namespace Go.Proofs.Ytpmllljlhopgbaa
open Go.RowKit Go.Maps

set_option maxRecDepth 100000 in
set_option maxHeartbeats 8000000 in
theorem law_least (W : World) (a : Option Addr) (n cap : Nat) (l : Nat → Int × Int × Int) (hn : Trips W a n l) (t : Int) :
    Calls Try.prog 3 #[.slice a n cap, .int .i64 t] W fun e w' => e = .returned (.bool true) ∧ Below W.heap.size W w' := by
  have MC := Lib.hid (fun v (hb : Below W.heap.size W v) => made_dems (hn.below hb) cap)
  obtain ⟨h, hh, hband⟩ := and_small t 31 (by omega)
  have hb31 : bits .and .i64 t 31 = (h : Int) := hband
  have AC := Lib.hid (fun v => awake_any v)
  clear hn hband
  go_enter Try.func3, Try.ntmps3
  go_upto_region 2 with (go_at_call 7; (with_reducible refine (AC.out _).mono ?_); rintro e w1 ⟨rfl, b1⟩)
  go_upto_region 4 with (go_at_call 8; (with_reducible refine (MC.out _ b1).mono ?_); rintro e w2 ⟨⟨a1, N1, c1, M, rfl, hd, hN, hg⟩, b2⟩; have HD := Lib.hid hd; have HG := Lib.hid hg; have HN := Lib.hid hN; have HB2 := Lib.hid (below_up b1 b2); clear hd hg hN b2)
  clear MC AC b1
  have hlen := HD.out.len
  have hN6 : M.length ≤ 6 := by have := HN.out; omega
  have HN6 := Lib.hid hN6
  have HL := Lib.hid hlen
  have hN1 : N1 ≤ 6 := by omega
  have SC := Lib.hid (fun v (hb : Below w2.heap.size w2 v) => ubusy_any (HD.out.below hb) HG.out hN6 (h : Int) 300 (by omega) (by omega) (by omega) (by omega))
  have HRS := Lib.hid (fun (y : Int) (hy : bsS M h 300 = some y) => bs_at hy)
  obtain ⟨o, ho⟩ : ∃ o, bsS M (h : Int) 300 = o := ⟨_, rfl⟩
  have HO := Lib.hid ho
  rw [ho] at SC
  clear ho hlen hN6
  go_upto_block 0 with (go_at_call 9; (with_reducible refine (SC.out _ (Below.refl _ _)).mono ?_); rintro e w3 ⟨rfl, b3⟩; have HB3 := Lib.hid b3; clear b3)
  clear SC
  go_wp2
  go_loopw [10] (fun u wr => ∃ X : Nat, 1 ≤ X ∧ X ≤ 301 ∧ u = .int .i64 X ∧ Hid (∀ y : Int, 1 ≤ y → y < X → ¬ DoneAt M h y) ∧ Hid (Below w2.heap.size w2 wr)) (fun u _ => (301 - intOf u).toNat)
  case atStart => exact ⟨1, Nat.le_refl _, by omega, rfl, (fun y h1 h2 => by omega), HB3⟩
  case round =>
    obtain ⟨X, hX1, hX2, rfl, HNO, HP⟩ := hrel
    clear HB3
    by_cases hlt : X ≤ 300
    · have hlt1 : (X : Int) ≤ 300 := by omega
      have HSM : Hid (∀ i, i ≤ N1 → 0 ≤ workN M X i ∧ workN M X i ≤ 144000) := fun i hi => by
        have hok : ∀ x ∈ M, x.ok := fun x hx => (HG.out x hx).ok
        have h1 := work_mono hok (X := (X : Int)) (by omega) (show i ≤ M.length by have := HL.out; omega)
        have h0 := work_mono hok (X := (X : Int)) (by omega) (Nat.zero_le i)
        have h2 := (work_small HG.out HN6.out (X := (X : Int)) (by omega) (by omega)).2
        have h0' : (0 : Int) ≤ workN M X i := h0
        unfold workA at h2
        omega
      go_upto_block 2 with fail
      go_cut [11] (fun s wx => s = .int .i64 ((h : Int) + workN M X N1) ∧ Hid (Below w2.heap.size w2 wx))
      case first =>
        go_wp2
        go_loopw [11, 12] (fun s u wr2 => ∃ i : Nat, i ≤ N1 ∧ u = .int .i64 i ∧ s = .int .i64 ((h : Int) + workN M X i) ∧ Hid (Below w2.heap.size w2 wr2)) (fun _ u _ => (N1 - intOf u).toNat)
        case atStart => exact ⟨0, Nat.zero_le _, rfl, by show _ = Value.int _ ((h : Int) + 0); rw [Int.add_zero], HP⟩
        case round =>
          obtain ⟨i, hi, rfl, rfl, HPi⟩ := hrel
          by_cases hlt2 : i < N1
          · obtain ⟨x, hx⟩ := nth_of HL.out hlt2
            have hxg := HG.out x (List.mem_of_getElem? hx)
            obtain ⟨g, o, rfl, ⟨c0, c1, c2⟩⟩ := (HD.out.view.below HPi.out).at_ hx
            have hi1 : (i : Int) < (N1 : Int) := by omega
            have hi0 : (0 : Int) ≤ (i : Int) := by omega
            have hs1 := HSM.out (i + 1) (by omega)
            have hs0 := HSM.out i (by omega)
            have HN2 := Lib.hid (work_next (X := (X : Int)) hx)
            rw [work_next hx] at hs1
            have hp1 := hxg.per
            have hp2 := hxg.d1
            have hp3 := hxg.d2
            have hp4 := hxg.c0
            have hp5 := hxg.c1
            have HR := Lib.hid (fun j : Nat => ceil_iff (x := x) (by omega) (X := (X : Int)) (i := (j : Int)))
            have hj0 := ceil_nonneg (x := x) (by omega) (X := (X : Int)) (by omega)
            have hj1 := ceil_le (x := x) (by omega) (X := (X : Int)) (by omega)
            obtain ⟨J, hJ⟩ : ∃ J : Nat, ceilD x (X : Int) = J := ⟨(ceilD x X).toNat, by omega⟩
            rw [hJ] at hs1 HN2 hj1 HR
            obtain ⟨s, hs⟩ : ∃ s, (h : Int) + workN M X i = s := ⟨_, rfl⟩
            have HS3 : Hid ((h : Int) + workN M X (i + 1) = s + x.c * J) := by show _ = _; rw [HN2.out]; omega
            have hsb : 0 ≤ s ∧ s + x.c * J ≤ 144031 := by omega
            rw [hs]
            have HXB := Lib.hid (And.intro hsb (And.intro hp1 (And.intro hp2 (And.intro hp3 (And.intro hp4 (And.intro hp5 hj1))))))
            clear hx hxg hs hJ hs1 hs0 hj0 hj1 hp1 hp2 hp3 hp4 hp5 HN2 hsb
            go_wp2
            go_loopw [11, 13] (fun s2 u wr3 => ∃ j : Nat, j ≤ J ∧ u = .int .i64 ((j : Int) * x.t) ∧ s2 = .int .i64 (s + x.c * (j : Int)) ∧ Hid (wr3 = wr)) (fun _ u _ => ((X : Int) + 1 - intOf u).toNat)
            case atStart => exact ⟨0, Nat.zero_le _, by simp, by simp, rfl⟩
            case round =>
              obtain ⟨j, hj, rfl, rfl, HW⟩ := hrel
              obtain rfl := HW.out
              obtain ⟨⟨x0, x0'⟩, x1, x2, x3, x4, x5, x6⟩ := HXB.out
              have hm1 : 0 ≤ (j : Int) * x.t := Int.mul_nonneg (by omega) (by omega)
              have hm2 : (j : Int) * x.t ≤ 24 * 301 := by
                have := Int.mul_le_mul (show (j : Int) ≤ 301 by omega) (show x.t ≤ 24 by omega) (by omega) (by omega)
                omega
              have hm3 : x.c * (j : Int) ≤ x.c * (J : Int) := Int.mul_le_mul_of_nonneg_left (by omega) x4
              have hm4 : 0 ≤ x.c * (j : Int) := Int.mul_nonneg x4 (by omega)
              have hi1' : ((j + 1 : Nat) : Int) * x.t = (j : Int) * x.t + x.t := by rw [Int.natCast_add, Int.add_mul]; omega
              have hi2' : x.c * ((j + 1 : Nat) : Int) = x.c * (j : Int) + x.c := by rw [Int.natCast_add, Int.mul_add]; omega
              have e2 : IntKind.i64.wrap ((j : Int) * x.t + x.t) = (j : Int) * x.t + x.t := IntWalk.i64_in _ (by omega)
              by_cases hlt3 : j < J
              · have hle : (j : Int) * x.t < (X : Int) := (HR.out j).1 (by omega)
                have hm5 : x.c * ((j + 1 : Nat) : Int) ≤ x.c * (J : Int) := Int.mul_le_mul_of_nonneg_left (by omega) x4
                have e3 : IntKind.i64.wrap (s + x.c * (j : Int) + x.c) = s + x.c * (j : Int) + x.c := IntWalk.i64_in _ (by omega)
                have HI1 := Lib.hid hi1'
                have HI2 := Lib.hid hi2'
                have HXX : Hid (0 < x.t ∧ (j : Int) * x.t + 1 ≤ (X : Int)) := by show (0 : Int) < _ ∧ _; exact ⟨by omega, by omega⟩
                clear hi1' hi2' hm1 hm2 hm3 hm4 hm5 x0 x0' x1 x2 x3 x4 x5 x6
                generalize hZ : (j : Int) * x.t = Z at *
                generalize hY : x.c * (j : Int) = Y at *
                have HZ := Lib.hid hZ
                have HY := Lib.hid hY
                clear hZ hY
                go_wp2
                go_roundw
                case rel => exact ⟨j + 1, by omega, by rw [HI1.out], by rw [HI2.out, ← Int.add_assoc], (by first | exact Lib.hid trivial | rfl)⟩
                case measure => have := HXX.out.1; have := HXX.out.2; simp [intOf]; omega
              · obtain rfl : j = J := by omega
                have hle : ¬ (j : Int) * x.t < (X : Int) := fun q => by have := (HR.out j).2 q; omega
                clear hm1 hm2 hm3 hm4 x0 x0' x1 x2 x3 x4 x5 x6 hi1' hi2'
                generalize (j : Int) * x.t = Z at *
                go_wp2
                go_roundw
                case rel => exact ⟨i + 1, by omega, by go_num, by rw [HS3.out], HPi⟩
                case measure => simp [intOf]; omega
          · obtain rfl : i = N1 := by omega
            generalize (h : Int) + workN M X i = s at *
            go_wp2_with fail
            go_meet
            exact ⟨rfl, HPi⟩
      case rest =>
        obtain ⟨rfl, HPi⟩ := hcut
        have HE : Hid (workN M X N1 = workA M X) := by show _ = workN M X M.length; rw [HL.out]
        rw [HE.out]
        by_cases hd : DoneAt M h X
        · have ho2 : o = some (X : Int) := by rw [← HO.out]; exact bs_some ⟨by omega, by omega, hd, HNO.out⟩
          have hle : (h : Int) + workA M X ≤ (X : Int) := hd
          subst ho2
          clear hd HSM HNO HRS
          generalize (h : Int) + workA M X = s at *
          go_wp2
          go_ret
          exact ⟨by first | rfl | (simp; done), below_up HB2.out HPi.out⟩
        · have hle : ¬ (h : Int) + workA M X ≤ (X : Int) := hd
          have HNO2 : Hid (∀ y : Int, 1 ≤ y → y < ((X + 1 : Nat) : Int) → ¬ DoneAt M h y) := fun y h1 h2 => by
            rcases (show y < (X : Int) ∨ y = (X : Int) by omega) with q | rfl
            · exact HNO.out y h1 q
            · exact hd
          clear hd HSM HNO
          generalize (h : Int) + workA M X = s at *
          go_wp2
          go_roundw
          case rel => exact ⟨X + 1, by omega, by omega, by go_num, HNO2, HPi⟩
          case measure => simp [intOf]; omega
    · obtain rfl : X = 301 := by omega
      have ho2 : o = none := by rw [← HO.out]; exact bs_none fun y h1 h2 => HNO.out y h1 (by omega)
      subst ho2
      clear HNO HRS
      go_wp2
      go_ret
      exact ⟨by first | rfl | (simp; done), below_up HB2.out HP.out⟩
end Go.Proofs.Ytpmllljlhopgbaa

/-
  The walk over the statement of what may be held.
-/
namespace Go.Proofs.Ytpmllljlhopgbaa
open Go.RowKit Go.Maps

set_option maxRecDepth 100000 in
set_option maxHeartbeats 8000000 in
theorem law_bears (W : World) (a : Option Addr) (n cap : Nat) (l : Nat → Int × Int × Int) (hn : Trips W a n l) (t : Int) :
    Calls Try.prog 4 #[.slice a n cap, .int .i64 t] W fun e w' => e = .returned (.bool true) ∧ Below W.heap.size W w' := by
  have MC := Lib.hid (fun v (hb : Below W.heap.size W v) => made_dems (hn.below hb) cap)
  obtain ⟨j, hj, hband⟩ := and_small t 255 (by omega)
  have hb31 : bits .and .i64 t 255 = (j : Int) := hband
  have ew : IntKind.i64.wrap (1 + (j : Int)) = 1 + (j : Int) := IntWalk.i64_in _ (by omega)
  have AC := Lib.hid (fun v => awake_any v)
  have hm0 : 1 ≤ 1 + (j : Int) := by omega
  have hm1 : 1 + (j : Int) ≤ 900 := by omega
  obtain ⟨most, hmost⟩ : ∃ most, 1 + (j : Int) = most := ⟨_, rfl⟩
  rw [hmost] at ew hm0 hm1
  have ew' : IntKind.i64.wrap (1 + (j : Int)) = most := by rw [hmost]; exact ew
  clear hn hband hmost ew
  have HM := Lib.hid (And.intro hm0 hm1)
  clear hm0 hm1
  go_enter Try.func4, Try.ntmps4
  go_upto_region 2 with (go_at_call 7; (with_reducible refine (AC.out _).mono ?_); rintro e w1 ⟨rfl, b1⟩)
  go_upto_region 4 with (go_at_call 8; (with_reducible refine (MC.out _ b1).mono ?_); rintro e w2 ⟨⟨a1, N1, c1, M, rfl, hd, hN, hg⟩, b2⟩; have HD := Lib.hid hd; have HG := Lib.hid hg; have HN := Lib.hid hN; have HB2 := Lib.hid (below_up b1 b2); clear hd hg hN b2)
  clear MC AC b1
  have hlen := HD.out.len
  have hN6 : M.length ≤ 6 := by have := HN.out; omega
  have hok : ∀ x ∈ M, x.ok := fun x hx => (HG.out x hx).ok
  have BC := Lib.hid (fun v (hb : Below w2.heap.size w2 v) => ubear_any (HD.out.below hb) HG.out hN6 most HM.out.1 (by have := HM.out.2; omega))
  have FC := Lib.hid (fun v held (h0 : 0 ≤ held) (h1 : held ≤ 1000) (hb : Below w2.heap.size w2 v) => ufits_any (HD.out.below hb) HG.out hN6 held most h0 h1 HM.out.1 (by have := HM.out.2; omega))
  cases hbr : brS M most with
  | none =>
    have hno : bsS M 0 most = none := bs_none (br_not hok hbr)
    have F0 := Lib.hid (fun v hb => FC.out v 0 (by omega) (by omega) hb)
    rw [hno] at F0
    rw [hbr] at BC
    clear hbr hno FC hok hN6 hlen
    go_wp2_with (first
      | (go_at_call 10; (with_reducible refine (BC.out _ (Below.refl _ _)).mono ?_); rintro e w3 ⟨rfl, b3⟩; have HB3 := Lib.hid b3; clear b3)
      | (go_at_call 11; (with_reducible refine (F0.out _ HB3.out).mono ?_); rintro e w4 ⟨rfl, b4⟩; have HB4 := Lib.hid (below_up HB3.out b4); clear b4))
    go_ret
    exact ⟨rfl, below_up HB2.out HB4.out⟩
  | some q =>
    have hq := br_at hbr
    have ht := bear_top hok hq
    have hq0 := hq.1
    have h1 : ∃ x, bsS M q most = some x := by
      obtain ⟨x, a, b, c⟩ := hq.2.1
      obtain ⟨y, e, _⟩ := bs_of a b c
      exact ⟨y, e⟩
    obtain ⟨x1, hx1⟩ := h1
    have h2 : bsS M (q + 1) most = none := bs_none hq.2.2
    have hm1 := HM.out.2
    by_cases hq9 : q + 1 ≤ 1000
    · have F1 := Lib.hid (fun v hb => FC.out v q (by omega) (by omega) hb)
      have F2 := Lib.hid (fun v hb => FC.out v (q + 1) (by omega) (by omega) hb)
      rw [hx1] at F1
      rw [h2] at F2
      rw [hbr] at BC
      have e1 : IntKind.i64.wrap (q + 1) = q + 1 := IntWalk.i64_in _ (by omega)
      obtain ⟨q1, hqq⟩ : ∃ q1, q + 1 = q1 := ⟨_, rfl⟩
      rw [hqq] at F2 e1
      have e2 : IntKind.i64.wrap (q + 1) = q1 := by rw [hqq]; exact e1
      clear hbr hq FC hok hN6 hlen hx1 h2 hqq hq9 e1 hm1
      go_wp2_with (first
        | (go_at_call 10; (with_reducible refine (BC.out _ (Below.refl _ _)).mono ?_); rintro e w3 ⟨rfl, b3⟩; have HB3 := Lib.hid b3; clear b3)
        | (go_at_call 11; first
          | ((with_reducible refine (F1.out _ HB3.out).mono ?_); rintro e w4 ⟨rfl, b4⟩; have HB4 := Lib.hid (below_up HB3.out b4); clear b4)
          | ((with_reducible refine (F2.out _ HB4.out).mono ?_); rintro e w5 ⟨rfl, b5⟩; have HB5 := Lib.hid (below_up HB4.out b5); clear b5)))
      go_ret
      exact ⟨by first | rfl | (simp; done), below_up HB2.out HB5.out⟩
    · exact absurd (show q + 1 ≤ 1000 by omega) hq9
end Go.Proofs.Ytpmllljlhopgbaa

/-
  The walk over the statement of two rows of demands.
-/
namespace Go.Proofs.Ytpmllljlhopgbaa
open Go.RowKit Go.Maps

theorem GView.none_nil {w : World} {l : List Dm} (h : GView w none l) : l = [] := by
  rcases h with rfl | ⟨g, o, e, _⟩
  · rfl
  · cases e
theorem AllGood.take {M : List Dm} (h : AllGood M) (k : Nat) : AllGood (M.take k) := fun x hx => h x (List.mem_of_mem_take hx)
theorem AllGood.two {M K : List Dm} (h : AllGood M) (k : AllGood K) : AllGood (M ++ K) := fun x hx => (List.mem_append.1 hx).elim (h x) (k x)
theorem Dems.take {w : World} {a : Option Addr} {n c : Nat} {l : List Dm} (h : Dems w a n c l) {m : Nat} (hm : m ≤ n) : Dems w a m c (l.take m) :=
  ⟨by rw [List.length_take, h.len]; omega, h.view.take m, Nat.le_trans hm h.le, h.small, fun x hx => h.wf x (List.mem_of_mem_take hx)⟩
theorem Dems.none_zero {w : World} {n c : Nat} {l : List Dm} (h : Dems w none n c l) : n = 0 := by rw [← h.len, GView.none_nil h.view]; rfl

theorem OwnG.dems {w : World} {B n c : Nat} {a : Option Addr} {l : List Dm} (h : OwnG w B (.slice a n c) l) (hg : AllGood l) : Dems w a n c l := by
  obtain ⟨a9, c9, e9, hv, h1, h2⟩ := h.slice
  obtain ⟨rfl, hln, rfl⟩ := Value.slice.inj e9
  exact Dems.good hv hln.symm (by rw [hln]; exact h1) h2 hg

set_option maxRecDepth 100000 in
set_option maxHeartbeats 8000000 in
theorem law_parts (W : World) (a : Option Addr) (n cap : Nat) (l : Nat → Int × Int × Int) (hn : Trips W a n l) (ab : Option Addr) (nb capb : Nat) (lb : Nat → Int × Int × Int) (hnb : Trips W ab nb lb) (q0 q1 : Int) :
    Calls Try.prog 6 #[.slice a n cap, .slice ab nb capb, .agg #[.int .i64 q0, .int .i64 q1]] W fun e w' => e = .returned (.bool true) ∧ Below W.heap.size W w' := by
  have MC := Lib.hid (fun v (hb : Below W.heap.size W v) => made_dems (hn.below hb) cap)
  have MCb := Lib.hid (fun v (hb : Below W.heap.size W v) => made_dems (hnb.below hb) capb)
  obtain ⟨j, hj, hband⟩ := and_small q0 127 (by omega)
  have hb1 : bits .and .i64 q0 127 = (j : Int) := hband
  obtain ⟨h, hh, hband2⟩ := and_small q1 15 (by omega)
  have hb2 : bits .and .i64 q1 15 = (h : Int) := hband2
  have AC := Lib.hid (fun v => awake_any v)
  clear hn hnb hband hband2
  go_enter Try.func6, Try.ntmps6
  go_upto_region 1 with fail
  refine gen_world (fun v => Below W.heap.size W v ∧ v.heap[W.heap.size]? = some (.cells #[.int .i64 q0, .int .i64 q1] 34 (0, 0))) ⟨(by repeat (first | exact Below.refl _ _ | (with_reducible assumption) | refine bw_alloc ?_ _ | refine bw_drew ?_)), heap_alloc_new W _⟩ ?_
  intro V0 ⟨hb0, hqq⟩
  have HB0 := Lib.hid hb0
  have HQ0 := Lib.hid hqq
  clear hb0 hqq
  go_upto_region 2 with (go_at_call 7; (with_reducible refine (AC.out _).mono ?_); rintro e w1 ⟨rfl, b1⟩; have HB1 := Lib.hid (below_up HB0.out b1); have HQ1 := Lib.hid (kept_obj b1 HQ0.out); clear b1)
  go_upto_region 3 with (go_at_call 8; (with_reducible refine (MC.out _ HB1.out).mono ?_); rintro e w2 ⟨⟨a1, N1, c1, M1, rfl, hd1, hN1, hg1⟩, b2⟩; have HD1 := Lib.hid hd1; have HG1 := Lib.hid hg1; have HN1 := Lib.hid hN1; have HB2 := Lib.hid (below_up HB1.out b2); have HQ2 := Lib.hid (kept_obj b2 HQ1.out); clear hd1 hg1 hN1 b2)
  go_upto_region 4 with (go_at_call 8; (with_reducible refine (MCb.out _ HB2.out).mono ?_); rintro e w3 ⟨⟨a2, N2, c2, M2, rfl, hd2, hN2, hg2⟩, b3⟩; have HD1' := Lib.hid (HD1.out.below b3); have HD2 := Lib.hid hd2; have HG2 := Lib.hid hg2; have HN2 := Lib.hid hN2; have HB3 := Lib.hid (below_up HB2.out b3); have HQ3 := Lib.hid (kept_obj b3 HQ2.out); clear hd2 hg2 hN2 b3)
  clear MC MCb AC HB0 HB1 HB2 HQ0 HQ1 HQ2 HD1
  go_upto_if 26 with fail
  go_cut [8] (fun u wx => ∃ (m : Nat) (X : List Dm), u = .slice a1 m c1 ∧ Hid (Dems w3 a1 m c1 X ∧ AllGood X ∧ m ≤ 3) ∧ Hid (Below w3.heap.size w3 wx))
  case first =>
    have hc1 := HD1'.out.le
    by_cases h3 : 3 < N1
    · have q1 : (3 : Int) < (N1 : Int) := by omega
      have q2 : 3 ≤ c1 := by omega
      have HX : Hid (Dems w3 a1 3 c1 (M1.take 3) ∧ AllGood (M1.take 3) ∧ 3 ≤ 3) := ⟨HD1'.out.take (by omega), HG1.out.take 3, Nat.le_refl _⟩
      clear h3 hc1
      go_wp2_with fail
      go_meet
      exact ⟨3, _, rfl, HX, Lib.hid (Below.refl _ _)⟩
    · have q1 : ¬ (3 : Int) < (N1 : Int) := by omega
      have HX : Hid (Dems w3 a1 N1 c1 M1 ∧ AllGood M1 ∧ N1 ≤ 3) := ⟨HD1'.out, HG1.out, by omega⟩
      clear h3 hc1
      go_wp2_with fail
      go_meet
      exact ⟨N1, _, rfl, HX, Lib.hid (Below.refl _ _)⟩
  case rest =>
    obtain ⟨m1, X, rfl, HX, HW⟩ := hcut
    clear HD1' HG1 HN1
    go_upto_if 31 with fail
    go_cut [9] (fun u wx => ∃ (m : Nat) (Y : List Dm), u = .slice a2 m c2 ∧ Hid (Dems w3 a2 m c2 Y ∧ AllGood Y ∧ m ≤ 3) ∧ Hid (Below w3.heap.size w3 wx))
    case first =>
      have hc2 := HD2.out.le
      by_cases h3 : 3 < N2
      · have q1 : (3 : Int) < (N2 : Int) := by omega
        have q2 : 3 ≤ c2 := by omega
        have HY : Hid (Dems w3 a2 3 c2 (M2.take 3) ∧ AllGood (M2.take 3) ∧ 3 ≤ 3) := ⟨HD2.out.take (by omega), HG2.out.take 3, Nat.le_refl _⟩
        clear h3 hc2
        go_wp2_with fail
        go_meet
        exact ⟨3, _, rfl, HY, HW⟩
      · have q1 : ¬ (3 : Int) < (N2 : Int) := by omega
        have HY : Hid (Dems w3 a2 N2 c2 M2 ∧ AllGood M2 ∧ N2 ≤ 3) := ⟨HD2.out, HG2.out, by omega⟩
        clear h3 hc2
        go_wp2_with fail
        go_meet
        exact ⟨N2, _, rfl, HY, HW⟩
    case rest =>
      obtain ⟨m2, Y, rfl, HY, HW2⟩ := hcut
      clear HD2 HG2 HN2 HW
      obtain ⟨hdx, hgx, hm1⟩ := HX.out
      obtain ⟨hdy, hgy, hm2⟩ := HY.out
      have hlx := hdx.len
      have hly := hdy.len
      have HDX := Lib.hid (hdx.below HW2.out)
      have HDY := Lib.hid (hdy.below HW2.out)
      have HGX := Lib.hid hgx
      have HGY := Lib.hid hgy
      have HLX := Lib.hid hlx
      have HLY := Lib.hid hly
      have HS1 : Hid (([] : List Dm).length + m1 ≤ 1000000) := by show 0 + m1 ≤ _; omega
      have HN1 : Hid (([] : List Dm).length + m1 = m1) := by show 0 + m1 = _; omega
      have HS2 : Hid (([] ++ X).length + m2 ≤ 1000000) := by show _ ≤ _; rw [List.nil_append]; omega
      have HN2 : Hid (([] ++ X).length + m2 = m1 + m2) := by show _ = _; rw [List.nil_append]; omega
      have hX6 : X.length ≤ 6 := by omega
      have hY6 : Y.length ≤ 6 := by omega
      have hZ6 : (X ++ Y).length ≤ 6 := by rw [List.length_append]; omega
      have HX6 := Lib.hid hX6
      have HY6 := Lib.hid hY6
      have HZ6 := Lib.hid hZ6
      clear HX HY hdx hdy hgx hgy hlx hly hm1 hm2 hX6 hY6 hZ6
      go_upto_region 9 with (at_builtin; first
        | (refine wp_gappend (B := wc.heap.size) (m := m1) (q := []) (l := X) rfl _ _ rfl rfl rfl (OwnG.made wc) (Nat.le_of_lt (by rw [World.size_alloc]; omega)) (HDX.out.below (by repeat (first | exact Below.refl _ _ | (with_reducible assumption) | refine bw_alloc ?_ _ | refine bw_drew ?_))).view HLX.out HS1.out (fun z => by subst z; exact HDX.out.none_zero) m1 HN1.out ?_; intro a5 k5 w5 o5 n5 l5; have HO5 := Lib.hid o5; have HB5 : Hid (Below wc.heap.size wc w5) := (bw_alloc (Below.refl _ _) _).grown n5 (Nat.le_of_lt (by rw [World.size_alloc]; omega)) (fun q hq => ((OwnG.made wc).new hq).1); clear o5 n5 l5)
        | (refine wp_gappend (B := wc.heap.size) (m := m2) (q := [] ++ X) (l := Y) rfl _ _ rfl rfl rfl HO5.out HB5.out.size (HDY.out.below HB5.out).view HLY.out HS2.out (fun z => by subst z; exact HDY.out.none_zero) (m1 + m2) HN2.out ?_; intro a6 k6 w6 o6 n6 l6; have HO6 := Lib.hid o6; have HB6 : Hid (Below wc.heap.size wc w6) := HB5.out.grown n6 HB5.out.size (fun q hq => (HO5.out.new hq).1); clear o6 n6 l6))
      have hgz := HGX.out.two HGY.out
      have HO7 := HO6.out
      rw [List.nil_append] at HO7
      have hdz := HO7.dems hgz
      have HDZ := Lib.hid hdz
      have hx6 := HDX.out.below HB6.out
      have hy6 := HDY.out.below HB6.out
      have hj1 : 1 ≤ 1 + (j : Int) ∧ 1 + (j : Int) ≤ 1000 := by omega
      obtain ⟨t, ht⟩ : ∃ t, 1 + (j : Int) = t := ⟨_, rfl⟩
      have et : IntKind.i64.wrap (1 + (j : Int)) = t := by rw [IntWalk.i64_in _ (by omega)]; exact ht
      rw [ht] at hj1
      have h0 : 0 ≤ (h : Int) ∧ (h : Int) ≤ 1000 := by omega
      have WX := Lib.hid (fun v (hb : Below w6.heap.size w6 v) => uwork_any (hx6.below hb) HGX.out HX6.out t hj1.1 hj1.2)
      have WY := Lib.hid (fun v (hb : Below w6.heap.size w6 v) => uwork_any (hy6.below hb) HGY.out HY6.out t hj1.1 hj1.2)
      have WZ := Lib.hid (fun v (hb : Below w6.heap.size w6 v) => uwork_any (hdz.below hb) hgz HZ6.out t hj1.1 hj1.2)
      have FX := Lib.hid (fun v (hb : Below w6.heap.size w6 v) => ufits_any (hx6.below hb) HGX.out HX6.out (h : Int) t h0.1 h0.2 hj1.1 hj1.2)
      have FY := Lib.hid (fun v (hb : Below w6.heap.size w6 v) => ufits_any (hy6.below hb) HGY.out HY6.out (h : Int) t h0.1 h0.2 hj1.1 hj1.2)
      have FZ := Lib.hid (fun v (hb : Below w6.heap.size w6 v) => ufits_any (hdz.below hb) hgz HZ6.out (h : Int) t h0.1 h0.2 hj1.1 hj1.2)
      rw [work_two] at WZ
      have hokx : ∀ x ∈ X, x.ok := fun x hx => (HGX.out x hx).ok
      have hoky : ∀ x ∈ Y, x.ok := fun x hx => (HGY.out x hx).ok
      have hw1 := work_small HGX.out HX6.out (X := t) (by omega) (by omega)
      have hw2 := work_small HGY.out HY6.out (X := t) (by omega) (by omega)
      have hcs : bsS (X ++ Y) h t = none ∨ ((bsS (X ++ Y) h t).isSome = true ∧ (bsS X h t).isSome = true ∧ (bsS Y h t).isSome = true) := by
        cases e : bsS (X ++ Y) h t with
        | none => exact .inl rfl
        | some y =>
          obtain ⟨x1, e1, _⟩ := bs_work hoky e
          obtain ⟨x2, e2, _⟩ := bs_work2 hokx e
          exact .inr ⟨rfl, by rw [e1]; rfl, by rw [e2]; rfl⟩
      obtain ⟨p, hp⟩ : ∃ p, workA X t = p := ⟨_, rfl⟩
      obtain ⟨r, hr⟩ : ∃ r, workA Y t = r := ⟨_, rfl⟩
      rw [hp] at WX WZ hw1
      rw [hr] at WY WZ hw2
      have es : IntKind.i64.wrap (p + r) = p + r := IntWalk.i64_in _ (by omega)
      have HQ6 := Lib.hid (kept_obj HB6.out (kept_obj HW2.out HQ3.out))
      have x0 : w6.cell? ⟨W.heap.size, 0, none⟩ = some (.int .i64 q0) := by rw [blk_cell HQ6.out]; rfl
      have x1 : w6.cell? ⟨W.heap.size, 1, none⟩ = some (.int .i64 q1) := by rw [blk_cell HQ6.out]; rfl
      clear hgz HO7 hdz hx6 hy6 hj1 ht h0 hokx hoky hw1 hw2 hp hr hj hh
      generalize (h : Int) = hv at *
      rcases hcs with hz | ⟨hz, hx, hy⟩
      · rw [hz] at FZ
        clear hz
        go_wp2_with (first
          | (go_at_call 12; first
            | ((with_reducible refine (WX.out _ (Below.refl _ _)).mono ?_); rintro e w7 ⟨rfl, b7⟩; have HB7 := Lib.hid b7; clear b7)
            | ((with_reducible refine (WY.out _ HB7.out).mono ?_); rintro e w8 ⟨rfl, b8⟩; have HB8 := Lib.hid (below_up HB7.out b8); clear b8)
            | ((with_reducible refine (WZ.out _ HB8.out).mono ?_); rintro e w9 ⟨rfl, b9⟩; have HB9 := Lib.hid (below_up HB8.out b9); clear b9))
          | (go_at_call 11; (with_reducible refine (FZ.out _ HB9.out).mono ?_); rintro e w10 ⟨rfl, b10⟩; have HB10 := Lib.hid (below_up HB9.out b10); clear b10))
        go_ret
        exact ⟨by first | rfl | (simp; done), below_up HB3.out (below_up HW2.out (below_up HB6.out HB10.out))⟩
      · rw [hz] at FZ
        rw [hx] at FX
        rw [hy] at FY
        clear hz hx hy
        go_wp2_with (first
          | (go_at_call 12; first
            | ((with_reducible refine (WX.out _ (Below.refl _ _)).mono ?_); rintro e w7 ⟨rfl, b7⟩; have HB7 := Lib.hid b7; clear b7)
            | ((with_reducible refine (WY.out _ HB7.out).mono ?_); rintro e w8 ⟨rfl, b8⟩; have HB8 := Lib.hid (below_up HB7.out b8); clear b8)
            | ((with_reducible refine (WZ.out _ HB8.out).mono ?_); rintro e w9 ⟨rfl, b9⟩; have HB9 := Lib.hid (below_up HB8.out b9); clear b9))
          | (go_at_call 11; first
            | ((with_reducible refine (FZ.out _ HB9.out).mono ?_); rintro e w10 ⟨rfl, b10⟩; have HB10 := Lib.hid (below_up HB9.out b10); clear b10)
            | ((with_reducible refine (FX.out _ HB10.out).mono ?_); rintro e w11 ⟨rfl, b11⟩; have HB11 := Lib.hid (below_up HB10.out b11); clear b11)
            | ((with_reducible refine (FY.out _ HB11.out).mono ?_); rintro e w12 ⟨rfl, b12⟩; have HB12 := Lib.hid (below_up HB11.out b12); clear b12)))
        go_ret
        exact ⟨by first | rfl | (simp; done), below_up HB3.out (below_up HW2.out (below_up HB6.out HB12.out))⟩
end Go.Proofs.Ytpmllljlhopgbaa

/-
  The walk over the statement of more that is held, one demand more, more time.
-/
namespace Go.Proofs.Ytpmllljlhopgbaa
open Go.RowKit Go.Maps

theorem trips_one (w : World) (d0 d1 d2 : Int) (g : Nat) (c0 : w.cell? ⟨g, 0, none⟩ = some (.int .i64 d0)) (c1 : w.cell? ⟨g, 1, none⟩ = some (.int .i64 d1)) (c2 : w.cell? ⟨g, 2, none⟩ = some (.int .i64 d2)) : Trips w (some ⟨g, 0, none⟩) 1 (fun _ => (d0, d1, d2)) :=
  ⟨by omega, fun k hk => by obtain rfl : k = 0 := by omega
                            exact ⟨g, 0, rfl, c0, c1, c2⟩⟩
/-- A block of three numbers. -/
def Blk3 (w : World) (g : Nat) (d0 d1 d2 : Int) (T : TypeId) : Prop := w.heap[g]? = some (.cells #[.int .i64 d0, .int .i64 d1, .int .i64 d2] T (0, 0))
theorem Blk3.trips {w : World} {g : Nat} {d0 d1 d2 : Int} {T : TypeId} (h : Blk3 w g d0 d1 d2 T) : Trips w (some ⟨g, 0, none⟩) 1 (fun _ => (d0, d1, d2)) :=
  trips_one w d0 d1 d2 g (by rw [blk_cell h]; rfl) (by rw [blk_cell h]; rfl) (by rw [blk_cell h]; rfl)
theorem Blk3.grown {w w' : World} {g g2 : Nat} {n c : Nat} {d0 d1 d2 : Int} {T : TypeId} (h : Blk3 w g d0 d1 d2 T) (hg : w.grownBy w' (Value.slice (some ⟨g2, 0, none⟩) n c).ownBlock) (hne : g ≠ g2) : Blk3 w' g d0 d1 d2 T :=
  (hg.block g (lt_of_block h) (fun e => hne (by cases e; rfl))).trans h
theorem Blk3.new (w : World) (d0 d1 d2 : Int) (T : TypeId) {g : Nat} (hg : w.heap.size = g) : Blk3 (w.alloc (.cells #[.int .i64 d0, .int .i64 d1, .int .i64 d2] T)) g d0 d1 d2 T := by subst hg; exact heap_alloc_new w _
theorem Blk3.below {w w' : World} {g : Nat} {d0 d1 d2 : Int} {T : TypeId} (h : Blk3 w g d0 d1 d2 T) (hb : Below w.heap.size w w') : Blk3 w' g d0 d1 d2 T := kept_obj hb h
theorem own_new (w : World) {B g : Nat} (hB : B ≤ w.heap.size) (hg : w.heap.size = g) : OwnG (w.alloc (.cells #[] DT3)) B (.slice (some ⟨g, 0, none⟩) 0 0) [] := by subst hg; exact (OwnG.made w).low hB

set_option maxRecDepth 100000 in
set_option maxHeartbeats 8000000 in
theorem law_more (W : World) (a : Option Addr) (n cap : Nat) (l : Nat → Int × Int × Int) (hn : Trips W a n l) (d0 d1 d2 q0 q1 : Int) :
    Calls Try.prog 5 #[.slice a n cap, .agg #[.int .i64 d0, .int .i64 d1, .int .i64 d2], .agg #[.int .i64 q0, .int .i64 q1]] W fun e w' => e = .returned (.bool true) ∧ Below W.heap.size W w' := by
  have MC := Lib.hid (fun v (hb : Below W.heap.size W v) => made_dems (hn.below hb) cap)
  have MX := Lib.hid (fun v g (h : Trips v (some ⟨g, 0, none⟩) 1 (fun _ => (d0, d1, d2))) => made_dems h 1)
  obtain ⟨j, hj, hband⟩ := and_small q0 31 (by omega)
  have hb1 : bits .and .i64 q0 31 = (j : Int) := hband
  obtain ⟨h, hh, hband2⟩ := and_small q1 31 (by omega)
  have hb2 : bits .and .i64 q1 31 = (h : Int) := hband2
  have AC := Lib.hid (fun v => awake_any v)
  clear hn hband hband2
  go_enter Try.func5, Try.ntmps5
  go_upto_region 1 with fail
  refine gen_world (fun v => Below W.heap.size W v ∧ Blk3 v W.heap.size d0 d1 d2 33 ∧ v.heap[W.heap.size + 1]? = some (.cells #[.int .i64 q0, .int .i64 q1] 34 (0, 0))) ⟨(by repeat (first | exact Below.refl _ _ | (with_reducible assumption) | refine bw_alloc ?_ _ | refine bw_drew ?_)), (two_boxes W rfl _ _).1, (two_boxes W rfl _ _).2⟩ ?_
  intro V0 ⟨hb0, hpp, hqq⟩
  have HB0 := Lib.hid hb0
  have HP0 := Lib.hid hpp
  have HQ0 := Lib.hid hqq
  clear hb0 hpp hqq
  go_upto_region 2 with (go_at_call 7; (with_reducible refine (AC.out _).mono ?_); rintro e w1 ⟨rfl, b1⟩; have HB1 := Lib.hid (below_up HB0.out b1); have HQ1 := Lib.hid (kept_obj b1 HQ0.out); have HP1 := Lib.hid (HP0.out.below b1); clear b1)
  go_upto_region 3 with (go_at_call 8; (with_reducible refine (MC.out _ HB1.out).mono ?_); rintro e w2 ⟨⟨a1, N1, c1, M1, rfl, hd1, hN1, hg1⟩, b2⟩; have HD1 := Lib.hid hd1; have HG1 := Lib.hid hg1; have HN1 := Lib.hid hN1; have HB2 := Lib.hid (below_up HB1.out b2); have HQ2 := Lib.hid (kept_obj b2 HQ1.out); have HP2 := Lib.hid (HP1.out.below b2); clear hd1 hg1 hN1 b2)
  clear MC AC HB0 HB1 HQ0 HQ1 HP0 HP1
  go_upto_if 24 with fail
  go_cut [8] (fun u wx => ∃ (m : Nat) (X : List Dm), u = .slice a1 m c1 ∧ Hid (Dems w2 a1 m c1 X ∧ AllGood X ∧ m ≤ 5) ∧ Hid (wx = w2))
  case first =>
    have hc1 := HD1.out.le
    by_cases h3 : 5 < N1
    · have q1 : (5 : Int) < (N1 : Int) := by omega
      have q2 : 5 ≤ c1 := by omega
      have HX : Hid (Dems w2 a1 5 c1 (M1.take 5) ∧ AllGood (M1.take 5) ∧ 5 ≤ 5) := ⟨HD1.out.take (by omega), HG1.out.take 5, Nat.le_refl _⟩
      clear h3 hc1
      go_wp2_with fail
      go_meet
      exact ⟨5, _, rfl, HX, Lib.hid rfl⟩
    · have q1 : ¬ (5 : Int) < (N1 : Int) := by omega
      have HX : Hid (Dems w2 a1 N1 c1 M1 ∧ AllGood M1 ∧ N1 ≤ 5) := ⟨HD1.out, HG1.out, by omega⟩
      clear h3 hc1
      go_wp2_with fail
      go_meet
      exact ⟨N1, _, rfl, HX, Lib.hid rfl⟩
  case rest =>
    obtain ⟨m, M, rfl, HX, HW⟩ := hcut
    obtain rfl := HW.out
    clear HD1 HG1 HN1 HW
    obtain ⟨hdx, hgx, hm5⟩ := HX.out
    have hlx := hdx.len
    have HD := Lib.hid hdx
    have HG := Lib.hid hgx
    have HL := Lib.hid hlx
    have hM6 : M.length ≤ 6 := by omega
    have HM6 := Lib.hid hM6
    have HM5 := Lib.hid hm5
    have x0 : wc.cell? ⟨W.heap.size + 1, 0, none⟩ = some (.int .i64 q0) := by rw [blk_cell HQ2.out]; rfl
    have x1 : wc.cell? ⟨W.heap.size + 1, 1, none⟩ = some (.int .i64 q1) := by rw [blk_cell HQ2.out]; rfl
    have h0 : 0 ≤ (j : Int) ∧ (j : Int) ≤ 1000 := by omega
    have h1 : 0 ≤ (j : Int) + (h : Int) ∧ (j : Int) + (h : Int) ≤ 1000 := by omega
    have hjh : (j : Int) ≤ (j : Int) + (h : Int) := by omega
    obtain ⟨b, hb⟩ : ∃ b, (j : Int) + (h : Int) = b := ⟨_, rfl⟩
    have eb : IntKind.i64.wrap ((j : Int) + (h : Int)) = b := by rw [IntWalk.i64_in _ (by omega)]; exact hb
    rw [hb] at h1 hjh
    generalize (j : Int) = av at *
    generalize (h : Int) = hv at *
    have BA := Lib.hid (fun v (hb : Below wc.heap.size wc v) => ubusy_any (HD.out.below hb) HG.out HM6.out av 200 h0.1 h0.2 (by omega) (by omega))
    have BB := Lib.hid (fun v (hb : Below wc.heap.size wc v) => ubusy_any (HD.out.below hb) HG.out HM6.out b 200 h1.1 h1.2 (by omega) (by omega))
    have B4 := Lib.hid (fun v (hb : Below wc.heap.size wc v) => ubusy_any (HD.out.below hb) HG.out HM6.out av 400 h0.1 h0.2 (by omega) (by omega))
    have HAB := Lib.hid hjh
    have HA := Lib.hid h0
    clear HX hdx hgx hm5 hlx hM6 h0 h1 hjh hb hj hh
    go_upto_region 8 with (go_at_call 9; (with_reducible refine (BA.out _ (Below.refl _ _)).mono ?_); rintro e w4 ⟨rfl, b4⟩; have HB4 := Lib.hid b4; clear b4)
    go_upto_region 9 with (go_at_call 9; (with_reducible refine (BB.out _ HB4.out).mono ?_); rintro e w5 ⟨rfl, b5⟩; have HB5 := Lib.hid (below_up HB4.out b5); clear b5)
    clear BA BB HB4
    have HP5 := Lib.hid (HP2.out.below HB5.out)
    have y0 : w5.cell? ⟨W.heap.size, 0, none⟩ = some (.int .i64 d0) := by rw [blk_cell HP5.out]; rfl
    have y1 : w5.cell? ⟨W.heap.size, 1, none⟩ = some (.int .i64 d1) := by rw [blk_cell HP5.out]; rfl
    have y2 : w5.cell? ⟨W.heap.size, 2, none⟩ = some (.int .i64 d2) := by rw [blk_cell HP5.out]; rfl
    have HD5 := Lib.hid (HD.out.below HB5.out)
    have hlt5 : W.heap.size < w5.heap.size := lt_of_block HP5.out
    have N3 := Lib.hid (fun (w : World) (g : Nat) (hg : w.heap.size = g) => (Blk3.new w d0 d1 d2 33 hg).trips)
    have ZC := Lib.hid (fun v X' a n c (h : Dems v a n c (M ++ X')) (hg : AllGood (M ++ X')) (hl : (M ++ X').length ≤ 6) => ubusy_any h hg hl av 200 HA.out.1 HA.out.2 (by omega) (by omega))
    go_cut [15, 16] (fun x y wx => ∃ X' : List Dm, Hid (AllGood X') ∧ x = .int .i64 ((bsS (M ++ X') av 200).getD 0) ∧ y = .bool (bsS (M ++ X') av 200).isSome ∧ Hid (Below w5.heap.size w5 wx))
    case first =>
      go_region_law (first
        | (refine gstep_append (B := w5.heap.size) (m := N7) (q := [] ++ M) (l := X') rfl (.tmp 50) (.tmp 53) rfl (by rfl) (by rfl) HO7.out (below_up HB6.out HB7.out).size HD7.out.view HL7.out HS7.out (fun z => by subst z; exact HD7.out.none_zero) (m + N7) HN7.out ?_; intro a8 k8 w8 o8 n8 l8; rw [List.nil_append] at o8; have HGZ := Lib.hid (HG.out.two HG7.out); have HDZ := Lib.hid (o8.dems HGZ.out); have HB8 : Hid (Below w5.heap.size w5 w8) := (below_up HB6.out HB7.out).grown n8 (below_up HB6.out HB7.out).size (fun q hq => (HO7.out.new hq).1); clear o8 n8 l8)
        | (refine gstep_append (B := w5.heap.size) (m := m) (q := []) (l := M) rfl (.tmp 48) (.tmp 49) rfl (by rfl) (by rfl) (by first | exact (own_new w5 (Nat.le_refl _) rfl).below (by first | exact bw_drew (Below.refl _ _) | exact Below.refl _ _ | exact bw_drew (bw_alloc (Below.refl _ _) _) | exact bw_alloc (Below.refl _ _) _ | exact bw_alloc (bw_drew (Below.refl _ _)) _) | exact (own_new (w5.alloc (.cells #[.int .i64 d0, .int .i64 d1, .int .i64 d2] 33)) (by rw [World.size_alloc]; exact Nat.le_succ _) (by rw [World.size_alloc])).below (by first | exact bw_drew (Below.refl _ _) | exact Below.refl _ _ | exact bw_drew (bw_alloc (Below.refl _ _) _) | exact bw_alloc (Below.refl _ _) _ | exact bw_alloc (bw_drew (Below.refl _ _)) _)) ((by repeat (first | exact Below.refl _ _ | (with_reducible assumption) | refine bw_alloc ?_ _ | refine bw_drew ?_)) : Below w5.heap.size w5 _).size (HD5.out.below (by repeat (first | exact Below.refl _ _ | (with_reducible assumption) | refine bw_alloc ?_ _ | refine bw_drew ?_))).view HL.out (by show 0 + m ≤ _; have := HM5.out; omega) (fun z => by subst z; exact HD5.out.none_zero) m (by show 0 + m = _; omega) ?_; intro a6 k6 w6 o6 n6 l6; have HO6 := Lib.hid o6; have HB6 : Hid (Below w5.heap.size w5 w6) := ((by repeat (first | exact Below.refl _ _ | (with_reducible assumption) | refine bw_alloc ?_ _ | refine bw_drew ?_)) : Below w5.heap.size w5 _).grown n6 ((by repeat (first | exact Below.refl _ _ | (with_reducible assumption) | refine bw_alloc ?_ _ | refine bw_drew ?_)) : Below w5.heap.size w5 _).size (fun q hq => by cases hq; first | exact Nat.le_refl _ | exact Nat.le_succ _); first
            | have HX6 := Lib.hid (((Blk3.new (w5.alloc (.cells #[] DT3)) d0 d1 d2 33 (g := w5.heap.size + 1) (by rw [World.size_alloc])).below (by first | exact bw_drew (Below.refl _ _) | exact Below.refl _ _ | exact bw_drew (bw_alloc (Below.refl _ _) _) | exact bw_alloc (Below.refl _ _) _ | exact bw_alloc (bw_drew (Below.refl _ _)) _)).grown n6 (Nat.succ_ne_self _))
            | have HX6 := Lib.hid (((Blk3.new w5 d0 d1 d2 33 rfl).below (by first | exact bw_drew (Below.refl _ _) | exact Below.refl _ _ | exact bw_drew (bw_alloc (Below.refl _ _) _) | exact bw_alloc (Below.refl _ _) _ | exact bw_alloc (bw_drew (Below.refl _ _)) _)).grown n6 (Nat.succ_ne_self _).symm)
            | (have HP6 := Lib.hid (HP5.out.below HB6.out); have z0 : w6.cell? ⟨W.heap.size, 0, none⟩ = some (.int .i64 d0) := (by rw [blk_cell HP6.out]; rfl); have z1 : w6.cell? ⟨W.heap.size, 1, none⟩ = some (.int .i64 d1) := (by rw [blk_cell HP6.out]; rfl); have z2 : w6.cell? ⟨W.heap.size, 2, none⟩ = some (.int .i64 d2) := (by rw [blk_cell HP6.out]; rfl)); clear o6 n6 l6)
        | (go_simp; go_at_call 9; (with_reducible refine (ZC.out _ _ _ _ _ HDZ.out HGZ.out HZ7.out).mono ?_); rintro e w9 ⟨rfl, b9⟩; have HB9 := Lib.hid (below_up HB8.out b9); clear b9)
        | (go_simp; go_at_call 8; (first
            | (with_reducible refine (MX.out _ _ HX6.out.trips).mono ?_)
            | (with_reducible refine (MX.out _ _ (N3.out _ _ rfl)).mono ?_)); rintro e w7 ⟨⟨a7, N7, c7, X', rfl, hd, hN, hg⟩, b7⟩; have HB7 : Hid (Below w6.heap.size w6 w7) := Lib.hid (below_up (by repeat (first | exact Below.refl _ _ | (with_reducible assumption) | refine bw_alloc ?_ _ | refine bw_drew ?_)) b7); have HD7 := Lib.hid hd; have HG7 := Lib.hid hg; have hlx : X'.length ≤ 1 := (by have := hd.len; omega); have HL7 := Lib.hid hd.len; have HO7 := Lib.hid (HO6.out.below HB7.out); have HS7 : Hid (([] ++ M).length + N7 ≤ 1000000) := (by show _ ≤ _; rw [List.nil_append]; have := HM6.out; omega); have HN7 : Hid (([] ++ M).length + N7 = m + N7) := (by show _ = _; rw [List.nil_append, HL.out]); have HZ7 : Hid ((M ++ X').length ≤ 6) := (by show _ ≤ _; rw [List.length_append]; have := HM5.out; have := HL.out; omega); clear hd hN hg b7 hlx))
      all_goals
        go_wp2
        go_meet
        exact ⟨_, HG7, rfl, rfl, HB9⟩
    case rest =>
      obtain ⟨X', HGX, rfl, rfl, HBX⟩ := hcut
      have HB6 := Lib.hid (below_up HB5.out HBX.out)
      have hokx : ∀ x ∈ X', x.ok := fun x hx => (HGX.out x hx).ok
      have hab := HAB.out
      have hcs : (bsS M av 200 = none ∧ bsS M b 200 = none ∧ bsS (M ++ X') av 200 = none) ∨ ∃ x, bsS M av 200 = some x ∧ bsS M av 400 = some x ∧ (bsS M b 200 = none ∨ ∃ y, bsS M b 200 = some y ∧ x ≤ y) ∧ (bsS (M ++ X') av 200 = none ∨ ∃ z, bsS (M ++ X') av 200 = some z ∧ x ≤ z) := by
        cases e : bsS M av 200 with
        | none =>
          refine .inl ⟨rfl, ?_, ?_⟩
          · cases f : bsS M b 200 with
            | none => rfl
            | some y => obtain ⟨x, q, _⟩ := bs_held hab f; rw [e] at q; cases q
          · cases f : bsS (M ++ X') av 200 with
            | none => rfl
            | some y => obtain ⟨x, q, _⟩ := bs_work hokx f; rw [e] at q; cases q
        | some x =>
          refine .inr ⟨x, rfl, bs_time (by omega) e, ?_, ?_⟩
          · cases f : bsS M b 200 with
            | none => exact .inl rfl
            | some y => obtain ⟨x', q, hq⟩ := bs_held hab f; rw [e] at q; cases q; exact .inr ⟨y, rfl, hq⟩
          · cases f : bsS (M ++ X') av 200 with
            | none => exact .inl rfl
            | some y => obtain ⟨x', q, hq⟩ := bs_work hokx f; rw [e] at q; cases q; exact .inr ⟨y, rfl, hq⟩
      clear hokx hab HB5 HBX HP5 y0 y1 y2 x0 x1 HD5 N3 ZC MX HAB HA HGX hlt5
      rcases hcs with ⟨e1, e2, e3⟩ | ⟨x, e1, e4, e2, e3⟩
      · rw [e1, e2, e3]
        clear e1 e2 e3
        go_wp2_with (go_at_call 9; (with_reducible refine (B4.out _ HB6.out).mono ?_); rintro e w7 ⟨rfl, b7⟩; have HB7 := Lib.hid (below_up HB6.out b7); clear b7)
        go_ret
        exact ⟨by first | rfl | (simp; done), below_up HB2.out HB7.out⟩
      · rw [e4] at B4
        rcases e2 with e2 | ⟨y, e2, hxy⟩ <;> rcases e3 with e3 | ⟨z, e3, hxz⟩
        all_goals
          rw [e1, e2, e3]
          clear e1 e2 e3 e4
          go_wp2_with (go_at_call 9; (with_reducible refine (B4.out _ HB6.out).mono ?_); rintro e w7 ⟨rfl, b7⟩; have HB7 := Lib.hid (below_up HB6.out b7); clear b7)
          go_ret
          exact ⟨by first | rfl | (simp; done) | (simp; omega), below_up HB2.out HB7.out⟩
end Go.Proofs.Ytpmllljlhopgbaa
