/-
  Numbers that are read from their digits, in plain words.
-/
import Derived.Test.YtbipjilpogbicaaDoorLP1
import Derived.Test.YtbipjilpogbicaaDoorLW6
namespace Go.Proofs.YtbipjilpogbicaaDoor
open Go.RowKit Go.Maps

theorem nrun_same (s t : ByteArray) : ∀ i, (∀ j, j < i → byteAt s j = byteAt t j) → nrun s i = nrun t i
  | 0, _ => rfl
  | i + 1, h => by
    rw [nrun, nrun, nrun_same s t i (fun j hj => h j (by omega)), h i (by omega)]
theorem byte_one (c : UInt8) : byteAt ⟨#[c]⟩ 0 = c.toNat := (byteAt_in ⟨#[c]⟩ (i := 0) (show (0 : Nat) < 1 by omega)).2
theorem dig_nat {d : Nat} (h : d < 10) : (UInt8.ofNat (48 + d)).toNat = 48 + d := by rw [UInt8.toNat_ofNat']; omega
/-- What the digits of a number are. -/
structure DigsOf (s : ByteArray) (n : Nat) : Prop where
  has : 0 < s.size
  run : nrun s s.size = some n
  lead : 1 < s.size → byteAt s 0 ≠ 48
  pos : 0 < n → byteAt s 0 ≠ 48
  dig : ∀ j, j < s.size → 48 ≤ byteAt s j ∧ byteAt s j ≤ 57
theorem upOf_digs : ∀ n : Nat, n ≤ 9223372036854775807 → DigsOf (upOf n) n := by
  intro n
  induction n using Nat.strongRecOn with
  | ind n ih =>
    intro hn
    by_cases h : n < 10
    · rw [upOf_small h]
      have hb := byte_one (UInt8.ofNat (48 + n))
      rw [dig_nat h] at hb
      refine ⟨show (0 : Nat) < 1 by omega, ?_, fun z => absurd z (show ¬ (1 : Nat) < 1 by omega), fun _ => by omega, fun j hj => ?_⟩
      · show nrun _ (0 + 1) = _
        simp only [nrun, hb]
        rw [if_neg (by omega)]
        congr 1; omega
      · have : j = 0 := by
          have e : (⟨#[UInt8.ofNat (48 + n)]⟩ : ByteArray).size = 1 := rfl
          omega
        subst this; omega
    · have q := ih (n / 10) (by omega) (by omega)
      rw [upOf_more h]
      generalize upOf (n / 10) = u at q ⊢
      obtain ⟨q1, q2, q3, q4, q5⟩ := q
      have he : (⟨#[UInt8.ofNat (48 + n % 10)]⟩ : ByteArray).size = 1 := rfl
      have hb := byte_one (UInt8.ofNat (48 + n % 10))
      rw [dig_nat (by omega)] at hb
      have hl := byteAt_right u ⟨#[UInt8.ofNat (48 + n % 10)]⟩ 0
      rw [hb, Nat.add_zero] at hl
      have h0 := byteAt_left u ⟨#[UInt8.ofNat (48 + n % 10)]⟩ q1
      have hz := q4 (by omega)
      have hsz : (u ++ ⟨#[UInt8.ofNat (48 + n % 10)]⟩).size = u.size + 1 := by rw [ByteArray.size_append, he]
      refine ⟨by omega, ?_, fun _ => by rw [h0]; exact hz, fun _ => by rw [h0]; exact hz, fun j hj => ?_⟩
      · rw [hsz, nrun, nrun_same _ u u.size (fun j hj => byteAt_left _ _ hj), q2]
        simp only [hl]
        rw [if_neg (by omega)]
        congr 1; omega
      · rcases Nat.lt_or_ge j u.size with g | g
        · rw [byteAt_left _ _ g]; exact q5 j g
        · have : j = u.size := by omega
          subst this
          rw [hl]; omega
theorem digOf_digs {n : Int} (h0 : 0 ≤ n) (h : I64 n) : DigsOf (digOf n) n.toNat := by
  unfold digOf
  rw [if_neg (by omega), show n.natAbs = n.toNat by omega]
  exact upOf_digs _ (by unfold I64 at h; omega)
/-- A number is read from its digits, up to a bound. -/
theorem DigsOf.num {s : ByteArray} {n : Nat} (h : DigsOf s n) (most : Int) : numOf s most = if most < (n : Int) then none else some n := by
  unfold numOf
  have h1 := h.has
  rw [if_neg (by rintro (z | ⟨z1, z2⟩); omega; exact h.lead z1 z2), h.run]
/-- With a byte behind it that is no digit it is none. -/
theorem DigsOf.more {s : ByteArray} {n : Nat} (h : DigsOf s n) (most : Int) (c : UInt8) (hc : c.toNat < 48) : numOf (s ++ ⟨#[c]⟩) most = none := by
  have h1 := h.has
  have he : (⟨#[c]⟩ : ByteArray).size = 1 := rfl
  have hl := byteAt_right s ⟨#[c]⟩ 0
  rw [byte_one, Nat.add_zero] at hl
  unfold numOf
  rw [ByteArray.size_append, he]
  have e : nrun (s ++ ⟨#[c]⟩) (s.size + 1) = none := by
    rw [nrun, nrun_same _ s s.size (fun j hj => byteAt_left _ _ hj), h.run]
    simp only [hl]
    rw [if_pos (.inl hc)]
  rw [e]
  split <;> rfl

theorem nsrun_same (s t : ByteArray) (most : Int) : ∀ i, i ≤ s.size → i ≤ t.size → (∀ j, j < i → byteAt s j = byteAt t j) → (∀ f k, k < i → s.extract f k = t.extract f k) → nsrun s most i = nsrun t most i
  | 0, _, _, _, _ => rfl
  | i + 1, hs, ht, h, e => by
    rw [nsrun, nsrun, nsrun_same s t most i (by omega) (by omega) (fun j hj => h j (by omega)) (fun f k hk => e f k (by omega))]
    have c : (i < s.size ∧ byteAt s i ≠ 44) ↔ (i < t.size ∧ byteAt t i ≠ 44) := by rw [h i (by omega)]; constructor <;> rintro ⟨_, q⟩ <;> exact ⟨by omega, q⟩
    cases nsrun t most i with
    | none => rfl
    | some p =>
      obtain ⟨l, f⟩ := p
      simp only []
      by_cases g : i < t.size ∧ byteAt t i ≠ 44
      · rw [if_pos g, if_pos (c.2 g)]
      · rw [if_neg g, if_neg (fun z => g (c.1 z)), e f i (by omega)]
theorem nsrun_stay (s : ByteArray) (most : Int) (i : Nat) (l : List Int) (f : Nat) (h : nsrun s most i = some (l, f)) : ∀ n, (∀ j, j < n → i + j < s.size ∧ byteAt s (i + j) ≠ 44) → nsrun s most (i + n) = some (l, f)
  | 0, _ => h
  | n + 1, g => by
    rw [← Nat.add_assoc, nsrun, nsrun_stay s most i l f h n (fun j hj => g j (by omega))]
    simp only []
    rw [if_pos (g n (by omega))]
def comma : ByteArray := ⟨#[44]⟩
def MostOf : Int := 9223372036854775807
/-- What is known behind the first numbers of a row that was joined. -/
theorem joined (l : List Int) (hl : ∀ x ∈ l, 0 ≤ x ∧ I64 x) : ∀ k, k < l.length → ∃ f, f ≤ (jrun l (k + 1)).size ∧ nsrun (jrun l (k + 1)) MostOf (jrun l (k + 1)).size = some (l.take k, f) ∧ (jrun l (k + 1)).extract f (jrun l (k + 1)).size = digOf (l[k]?.getD 0)
  | 0, h => by
    obtain ⟨x, hx⟩ := nth_of (rfl : l.length = l.length) h
    have ⟨h0, hi⟩ := hl x (List.mem_of_getElem? hx)
    have D := digOf_digs h0 hi
    have e : jrun l (0 + 1) = digOf x := by
      rw [jrun, if_pos rfl, hx]
      exact ba_nil_add _
    rw [e, hx]
    show ∃ f, f ≤ (digOf x).size ∧ _ ∧ (digOf x).extract f (digOf x).size = digOf x
    generalize digOf x = d at D ⊢
    refine ⟨0, by omega, ?_, ?_⟩
    · have := nsrun_stay d MostOf 0 [] 0 rfl d.size (fun j hj => ⟨by omega, by rw [Nat.zero_add]; have := D.dig j hj; omega⟩)
      rw [Nat.zero_add] at this
      rw [this]; rfl
    · apply ByteArray.ext
      rw [ByteArray.data_extract]
      exact Array.extract_size
  | k + 1, h => by
    obtain ⟨f, hf, h1, h2⟩ := joined l hl k (by omega)
    obtain ⟨y, hy⟩ := nth_of (rfl : l.length = l.length) (show k < l.length by omega)
    obtain ⟨x, hx⟩ := nth_of (rfl : l.length = l.length) h
    have ⟨h0, hi⟩ := hl x (List.mem_of_getElem? hx)
    have ⟨g0, gi⟩ := hl y (List.mem_of_getElem? hy)
    have D := digOf_digs h0 hi
    have E := digOf_digs g0 gi
    have e : jrun l (k + 1 + 1) = jrun l (k + 1) ++ comma ++ digOf x := by
      rw [jrun, if_neg (by omega), hx]; rfl
    rw [e, hx]
    rw [hy] at h2
    change _ = digOf y at h2
    show ∃ f, _ ∧ _ ∧ _ = digOf x
    generalize jrun l (k + 1) = t at hf h1 h2 ⊢
    generalize digOf x = d at D ⊢
    have hcs : comma.size = 1 := rfl
    have htc : (t ++ comma).size = t.size + 1 := by rw [ByteArray.size_append, hcs]
    have hz : (t ++ comma ++ d).size = t.size + 1 + d.size := by rw [ByteArray.size_append, htc]
    have s1 : nsrun (t ++ comma ++ d) MostOf t.size = some (l.take k, f) := by
      rw [nsrun_same _ t MostOf t.size (by omega) (Nat.le_refl _) (fun j hj => by rw [byteAt_left _ _ (by omega), byteAt_left _ _ hj]) (fun f k hk => by rw [ex_left _ _ (by omega), ex_left _ _ (by omega)]), h1]
    have b44 : byteAt (t ++ comma ++ d) t.size = 44 := by
      rw [byteAt_left _ _ (by omega)]
      have := byteAt_right t comma 0
      rw [Nat.add_zero] at this
      rw [this]; rfl
    have htk : l.take (k + 1) = l.take k ++ [y] := by rw [List.take_add_one, hy]; rfl
    have s2 : nsrun (t ++ comma ++ d) MostOf (t.size + 1) = some (l.take (k + 1), t.size + 1) := by
      rw [nsrun, s1]
      simp only []
      rw [if_neg (by rintro ⟨_, z⟩; exact z b44), ex_left _ _ (by omega), ex_left _ _ (by omega), h2, E.num, if_neg (by unfold MostOf; unfold I64 at gi; omega), htk]
      simp only []
      rw [show ((y.toNat : Nat) : Int) = y by omega]
    refine ⟨t.size + 1, by omega, ?_, ?_⟩
    · rw [hz]
      exact nsrun_stay _ _ _ _ _ s2 d.size (fun j hj => ⟨by omega, by
        have e := byteAt_right (t ++ comma) d j
        rw [htc] at e
        rw [e]; have := D.dig j hj; omega⟩)
    · rw [hz]
      have := ex_right (t ++ comma) d 0 d.size
      rw [htc, Nat.add_zero] at this
      rw [this]
      apply ByteArray.ext
      rw [ByteArray.data_extract]
      exact Array.extract_size
/-- A row of numbers is read from what it was joined to. -/
theorem nums_join (l : List Int) (hl : ∀ x ∈ l, 0 ≤ x ∧ I64 x) (h : 0 < l.length) : numsOf (joinOf l) MostOf = some l := by
  obtain ⟨k, hk⟩ : ∃ k, l.length = k + 1 := ⟨l.length - 1, by omega⟩
  obtain ⟨f, hf, h1, h2⟩ := joined l hl k (by omega)
  obtain ⟨y, hy⟩ := nth_of (rfl : l.length = l.length) (show k < l.length by omega)
  have ⟨g0, gi⟩ := hl y (List.mem_of_getElem? hy)
  have E := digOf_digs g0 gi
  rw [hy] at h2
  change _ = digOf y at h2
  unfold numsOf joinOf
  rw [hk]
  generalize jrun l (k + 1) = t at hf h1 h2 ⊢
  have htk : l.take (k + 1) = l.take k ++ [y] := by rw [List.take_add_one, hy]; rfl
  rw [nsrun, h1]
  simp only []
  rw [if_neg (by omega), h2, E.num, if_neg (by unfold MostOf; unfold I64 at gi; omega)]
  simp only [Option.map_some]
  rw [show ((y.toNat : Nat) : Int) = y by omega, ← htk, List.take_of_length_le (by omega)]
theorem nums_none : numsOf (joinOf []) MostOf = none := by
  unfold numsOf joinOf jrun
  have e : (⟨#[]⟩ : ByteArray).size = 0 := rfl
  show Option.map _ (nsrun ⟨#[]⟩ MostOf (0 + 1)) = none
  simp only [nsrun]
  rw [if_neg (by rw [e]; omega)]
  have : numOf ((⟨#[]⟩ : ByteArray).extract 0 0) MostOf = none := by
    unfold numOf
    rw [if_pos (.inl (by rw [ByteArray.size_extract]; omega))]
  rw [this]; rfl
end Go.Proofs.YtbipjilpogbicaaDoor
