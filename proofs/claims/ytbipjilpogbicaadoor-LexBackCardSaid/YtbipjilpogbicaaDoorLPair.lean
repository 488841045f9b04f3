/-
  The walk over a pair, as the program finds it.
-/
import Derived.Test.YtbipjilpogbicaaDoorLShelf2
import Derived.Test.YtbipjilpogbicaaDoorLW2
namespace Go.Proofs.YtbipjilpogbicaaDoor
open Go.RowKit Go.Maps

theorem indexByte_spec (c : UInt8) : ∀ l : List UInt8, (Lib.indexByte l c = -1 ∧ ∀ (j : Nat) (b : UInt8), l[j]? = some b → b ≠ c) ∨ ∃ i : Nat, Lib.indexByte l c = i ∧ l[i]? = some c ∧ ∀ (j : Nat) (b : UInt8), j < i → l[j]? = some b → b ≠ c
  | [] => .inl ⟨rfl, fun j b h => by simp at h⟩
  | x :: l => by
    by_cases hx : x = c
    · right
      refine ⟨0, ?_, by simp [hx], fun j b h => absurd h (Nat.not_lt_zero _)⟩
      rw [Lib.indexByte, if_pos (by rw [hx]; simp)]
      rfl
    · have hne : (x == c) = false := by rw [beq_eq_false_iff_ne]; exact hx
      rcases indexByte_spec c l with ⟨h1, h2⟩ | ⟨i, h1, h2, h3⟩
      · left
        refine ⟨?_, fun j b h => ?_⟩
        · rw [Lib.indexByte, hne, h1]; rfl
        · cases j with
          | zero => simp at h; rw [← h]; exact hx
          | succ j => exact h2 j b (by simpa using h)
      · right
        refine ⟨i + 1, ?_, by simpa using h2, fun j b hj h => ?_⟩
        · rw [Lib.indexByte, hne, h1]
          simp
        · cases j with
          | zero => simp at h; rw [← h]; exact hx
          | succ j => exact h3 j b (by omega) (by simpa using h)
theorem byteAt_list (s : ByteArray) (j : Nat) (h : j < s.size) : ∃ b, s.data.toList[j]? = some b ∧ b.toNat = byteAt s j := by
  refine ⟨s[j], ?_, (byteAt_in s h).2.symm⟩
  have : j < s.data.size := h
  rw [Array.getElem?_toList, Array.getElem?_eq_getElem this]
  rfl
theorem index_spec (s : ByteArray) (c : UInt8) : (NoByte s c.toNat ∧ Lib.indexByte s.data.toList c = -1) ∨ ∃ i, FirstByte s c.toNat i ∧ Lib.indexByte s.data.toList c = (i : Int) := by
  have key : ∀ (j : Nat) (b : UInt8), s.data.toList[j]? = some b → b ≠ c → byteAt s j ≠ c.toNat := fun j b h hne e => by
    have hj : j < s.size := by
      have := (List.getElem?_eq_some_iff.1 h).1
      simpa using this
    obtain ⟨b', h1, h2⟩ := byteAt_list s j hj
    rw [h] at h1
    cases h1
    exact hne (UInt8.toNat_inj.1 (h2.trans e))
  rcases indexByte_spec c s.data.toList with ⟨h1, h2⟩ | ⟨i, h1, h2, h3⟩
  · left
    refine ⟨fun j hj => ?_, h1⟩
    obtain ⟨b, hb, _⟩ := byteAt_list s j hj
    exact key j b hb (h2 j b hb)
  · right
    have hi : i < s.size := by
      have := (List.getElem?_eq_some_iff.1 h2).1
      simpa using this
    refine ⟨i, ⟨hi, ?_, fun j hj => ?_⟩, h1⟩
    · obtain ⟨b, hb, e⟩ := byteAt_list s i hi
      rw [h2] at hb
      cases hb
      exact e.symm
    · obtain ⟨b, hb, _⟩ := byteAt_list s j (by omega)
      exact key j b hb (h3 j b hj hb)
theorem index_any (s : ByteArray) (c : UInt8) (w : World) : Calls Tryd.prog 45 #[.string s, .string ⟨#[c]⟩] w fun e w' => e = .returned (.int .i64 (Lib.indexByte s.data.toList c)) ∧ w' = w :=
  Any.stringslite_Index_one { Tryd.lays143 with } s c w
/-- What a cut gives. -/
def CutIs (s : ByteArray) (x y : ByteArray) (b : Bool) : Prop :=
  (NoByte s 61 ∧ x = s ∧ y = ⟨#[]⟩ ∧ b = false) ∨ ∃ i, FirstByte s 61 i ∧ x = s.extract 0 i ∧ y = s.extract (i + 1) s.size ∧ b = true
set_option maxRecDepth 100000 in
set_option maxHeartbeats 2000000 in
theorem cut_any (s : ByteArray) (hs : (s.size : Int) ≤ 9223372036854775807) (w : World) : Calls Tryd.prog 39 #[.string s, .string ⟨#[61]⟩] w fun e w' => ∃ x y b, e = .returned (.tuple #[.string x, .string y, .bool b]) ∧ CutIs s x y b ∧ Below w.heap.size w w' := by
  have C := Lib.hid (index_any s 61 w)
  rcases index_spec s 61 with ⟨hno, hi⟩ | ⟨i, hf, hi⟩
  · rw [hi] at C
    go_enter Tryd.func39, Tryd.ntmps39
    go_wp2_with (go_at_call 45; (refine C.out.mono ?_); rintro e w' ⟨rfl, rfl⟩)
    exact bodyPost_ret (v := .tuple #[.string s, .string ⟨#[]⟩, .bool false]) (by simp [results, Tryd.results39, go_sem]) rfl ⟨_, _, _, rfl, .inl ⟨hno, rfl, rfl, rfl⟩, Below.refl _ _⟩
  · rw [hi] at C
    have hlt := hf.1
    have h0 : (0 : Int) ≤ (i : Int) := by omega
    have h1 : (i : Int) ≤ (s.size : Int) := by omega
    have h2 : (i : Int) + 1 ≤ (s.size : Int) := by omega
    have h3 : (0 : Int) ≤ (i : Int) + 1 := by omega
    have hw : IntKind.i64.wrap ((i : Int) + 1) = (i : Int) + 1 := IntWalk.i64_in _ (by omega)
    have e1 : ((i : Int) + 1).toNat = i + 1 := by omega
    have HF := Lib.hid hf
    clear hf hlt hi
    go_enter Tryd.func39, Tryd.ntmps39
    go_wp2_with (go_at_call 45; (refine C.out.mono ?_); rintro e w' ⟨rfl, rfl⟩)
    go_quiet (fail)
    go_wp2
    exact bodyPost_ret (v := .tuple #[.string (s.extract 0 i), .string (s.extract (i + 1) s.size), .bool true]) (by simp [results, Tryd.results39, go_sem, e1]) rfl ⟨_, _, _, rfl, .inr ⟨i, HF.out, rfl, rfl, rfl⟩, below_same (Below.refl _ _) rfl rfl rfl rfl⟩
set_option maxRecDepth 100000 in
set_option maxHeartbeats 2000000 in
theorem scut_any (s : ByteArray) (hs : (s.size : Int) ≤ 9223372036854775807) (w : World) : Calls Tryd.prog 30 #[.string s, .string ⟨#[61]⟩] w fun e w' => ∃ x y b, e = .returned (.tuple #[.string x, .string y, .bool b]) ∧ CutIs s x y b ∧ Below w.heap.size w w' := by
  have C := Lib.hid (cut_any s hs w)
  go_enter Tryd.func30, Tryd.ntmps30
  go_wp2_with (go_at_call 39; (refine C.out.mono ?_); rintro e w' ⟨x, y, b, rfl, hc, hb⟩)
  exact bodyPost_ret (v := .tuple #[.string x, .string y, .bool b]) (by simp [results, Tryd.results30, go_sem]) rfl ⟨_, _, _, rfl, hc, hb⟩
/-- A pair that comes back from the program. -/
def PairTup (s : ByteArray) (w : World) (e : Ending) (w' : World) : Prop := ∃ x y b, e = .returned (.tuple #[.string x, .string y, .bool b]) ∧ PairIs s x y b ∧ Below w.heap.size w w'
set_option maxRecDepth 100000 in
set_option maxHeartbeats 2000000 in
theorem pair_any (s : ByteArray) (hs : (s.size : Int) ≤ 9223372036854775807) (w : World) : Calls Tryd.prog 20 #[.string s] w (PairTup s w) := by
  have C := Lib.hid (scut_any s hs w)
  go_enter Tryd.func20, Tryd.ntmps20
  go_upto_region 2 with (go_at_call 30; (refine C.out.mono ?_); rintro e w' ⟨x, y, b, rfl, hc, hb⟩)
  rcases hc with ⟨hno, rfl, rfl, rfl⟩ | ⟨i, hf, rfl, rfl, rfl⟩
  · go_wp2
    exact bodyPost_ret (v := .tuple #[.string ⟨#[]⟩, .string ⟨#[]⟩, .bool false]) (by simp [results, Tryd.results20, go_sem]) rfl ⟨_, _, _, rfl, .inl ⟨hno, rfl, rfl, rfl⟩, hb⟩
  · have HF := Lib.hid hf
    clear hf
    go_wp2
    exact bodyPost_ret (v := .tuple #[.string (s.extract 0 i), .string (s.extract (i + 1) s.size), .bool true]) (by simp [results, Tryd.results20, go_sem]) rfl ⟨_, _, _, rfl, .inr ⟨i, HF.out, rfl, rfl, rfl⟩, hb⟩
end Go.Proofs.YtbipjilpogbicaaDoor
