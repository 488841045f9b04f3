/- Texts of this claim, put together: LShelf2, LPair, LDec, LNo, LSplit, LNums, YSay, YNamed, YRow, YMust, YStep, YStage, YCache, YTask, LP1, LP2. -/
import Derived.Test.YtlpffgmfgkleiaaGreatDoorMZ2
import Derived.Lib.DecodeN
import Derived.Laws.RangeAny
import Derived.Lib.OthersKept
import Derived.Shelf.Abstract
import Derived.Shelf.RegionOpen
import Derived.OwnWalkIn
import Derived.TacticsInMore
import Derived.LoopNIn
import Derived.LoopIn
set_option linter.unusedVariables false
set_option linter.unusedSimpArgs false

/-
  What writes to a text that is being built does, at this program.
-/
namespace Go.Proofs
open Go.Shelf
def Tryz.buildRen : Go.Shelf.Ren := ⟨fun | 166 => 28 | 167 => 40 | 240 => 56 | 276 => 74 | n => n, fun | 0 => 0 | 3 => 3 | 4 => 4 | 5 => 5 | 9 => 9 | 20 => 20 | 37 => 69 | 70 => 68 | 72 => 71 | 75 => 73 | 80 => 76 | 164 => 138 | n => n, fun | n => n⟩
theorem Tryz.buildLays167 : Go.Proofs.Lays.n167 Tryz.prog Tryz.buildRen := {
  mixed := by kernel_rfl
  f167 := Tryz.func40.trans (congrArg some (by kernel_rfl))
  f240 := Tryz.func56.trans (congrArg some (by kernel_rfl))
  f276 := Tryz.func74.trans (congrArg some (by kernel_rfl))
  t0 := Tryz.underlying0
  a0 := Tryz.isAgg0
  z0 := Tryz.sizeOf0
  v0 := Tryz.zeroValue0
  t4 := Tryz.underlying4
  a4 := Tryz.isAgg4
  z4 := Tryz.sizeOf4
  v4 := Tryz.zeroValue4
  t5 := Tryz.underlying5
  a5 := Tryz.isAgg5
  z5 := Tryz.sizeOf5
  v5 := Tryz.zeroValue5
  t9 := Tryz.underlying9
  a9 := Tryz.isAgg9
  z9 := Tryz.sizeOf9
  v9 := Tryz.zeroValue9
  t20 := Tryz.underlying20
  a20 := Tryz.isAgg20
  z20 := Tryz.sizeOf20
  v20 := Tryz.zeroValue20
  t37 := Tryz.underlying69
  a37 := Tryz.isAgg69
  z37 := Tryz.sizeOf69
  v37 := Tryz.zeroValue69
  t70 := Tryz.underlying68
  a70 := Tryz.isAgg68
  z70 := Tryz.sizeOf68
  v70 := Tryz.zeroValue68
  t72 := Tryz.underlying71
  a72 := Tryz.isAgg71
  z72 := Tryz.sizeOf71
  v72 := Tryz.zeroValue71
  t75 := Tryz.underlying73
  a75 := Tryz.isAgg73
  z75 := Tryz.sizeOf73
  v75 := Tryz.zeroValue73
  t164 := Tryz.underlying138
  a164 := Tryz.isAgg138
  z164 := Tryz.sizeOf138
  v164 := Tryz.zeroValue138 }
theorem Tryz.buildLays166 : Go.Proofs.Lays.n166 Tryz.prog Tryz.buildRen := {
  mixed := by kernel_rfl
  f166 := Tryz.func28.trans (congrArg some (by kernel_rfl))
  f240 := Tryz.func56.trans (congrArg some (by kernel_rfl))
  f276 := Tryz.func74.trans (congrArg some (by kernel_rfl))
  t0 := Tryz.underlying0
  a0 := Tryz.isAgg0
  z0 := Tryz.sizeOf0
  v0 := Tryz.zeroValue0
  t3 := Tryz.underlying3
  a3 := Tryz.isAgg3
  z3 := Tryz.sizeOf3
  v3 := Tryz.zeroValue3
  t4 := Tryz.underlying4
  a4 := Tryz.isAgg4
  z4 := Tryz.sizeOf4
  v4 := Tryz.zeroValue4
  t9 := Tryz.underlying9
  a9 := Tryz.isAgg9
  z9 := Tryz.sizeOf9
  v9 := Tryz.zeroValue9
  t20 := Tryz.underlying20
  a20 := Tryz.isAgg20
  z20 := Tryz.sizeOf20
  v20 := Tryz.zeroValue20
  t37 := Tryz.underlying69
  a37 := Tryz.isAgg69
  z37 := Tryz.sizeOf69
  v37 := Tryz.zeroValue69
  t70 := Tryz.underlying68
  a70 := Tryz.isAgg68
  z70 := Tryz.sizeOf68
  v70 := Tryz.zeroValue68
  t72 := Tryz.underlying71
  a72 := Tryz.isAgg71
  z72 := Tryz.sizeOf71
  v72 := Tryz.zeroValue71
  t75 := Tryz.underlying73
  a75 := Tryz.isAgg73
  z75 := Tryz.sizeOf73
  v75 := Tryz.zeroValue73
  t164 := Tryz.underlying138
  a164 := Tryz.isAgg138
  z164 := Tryz.sizeOf138
  v164 := Tryz.zeroValue138 }
theorem Tryz.buildExtra : Builder.Extra Tryz.prog Tryz.buildRen := {
  sizeBuilder := by kernel_rfl
  liesBuilder := by kernel_rfl
  t5 := Tryz.underlying5
  a5 := Tryz.isAgg5
  z5 := Tryz.sizeOf5
  v5 := Tryz.zeroValue5
  infoByte := by kernel_rfl
  cellsByte := by kernel_rfl
  sizeByte := by kernel_rfl
  neB5 := by decide }
end Go.Proofs

/-
  The walk over a pair, as the program finds it.
-/
namespace Go.Proofs.YtlpffgmfgkleiaaGreatDoor
open Go.RowKit Go.Maps

theorem indexByte_spec (c : UInt8) : ∀ l : List UInt8, (Lib.indexByte l c = -1 ∧ ∀ (j : Nat) (b : UInt8), l[j]? = some b → b ≠ c) ∨ ∃ i : Nat, Lib.indexByte l c = i ∧ l[i]? = some c ∧ ∀ (j : Nat) (b : UInt8), j < i → l[j]? = some b → b ≠ c
  | [] => .inl ⟨rfl, fun j b h => by simp at h⟩
  | x :: l => by
    by_cases hx : x = c
    · right
      refine ⟨0, ?_, by simp [hx], fun j b h => absurd h (Nat.not_lt_zero _)⟩
      rw [Lib.indexByte, if_pos (by rw [hx]; simp)]
      rfl
    · have hne : (x == c) = false := by rw [beq_eq_false_iff_ne]; exact hx
      rcases indexByte_spec c l with ⟨h1, h2⟩ | ⟨i, h1, h2, h3⟩
      · left
        refine ⟨?_, fun j b h => ?_⟩
        · rw [Lib.indexByte, hne, h1]; rfl
        · cases j with
          | zero => simp at h; rw [← h]; exact hx
          | succ j => exact h2 j b (by simpa using h)
      · right
        refine ⟨i + 1, ?_, by simpa using h2, fun j b hj h => ?_⟩
        · rw [Lib.indexByte, hne, h1]
          simp
        · cases j with
          | zero => simp at h; rw [← h]; exact hx
          | succ j => exact h3 j b (by omega) (by simpa using h)
theorem byteAt_list (s : ByteArray) (j : Nat) (h : j < s.size) : ∃ b, s.data.toList[j]? = some b ∧ b.toNat = byteAt s j := by
  refine ⟨s[j], ?_, (byteAt_in s h).2.symm⟩
  have : j < s.data.size := h
  rw [Array.getElem?_toList, Array.getElem?_eq_getElem this]
  rfl
theorem index_spec (s : ByteArray) (c : UInt8) : (NoByte s c.toNat ∧ Lib.indexByte s.data.toList c = -1) ∨ ∃ i, FirstByte s c.toNat i ∧ Lib.indexByte s.data.toList c = (i : Int) := by
  have key : ∀ (j : Nat) (b : UInt8), s.data.toList[j]? = some b → b ≠ c → byteAt s j ≠ c.toNat := fun j b h hne e => by
    have hj : j < s.size := by
      have := (List.getElem?_eq_some_iff.1 h).1
      simpa using this
    obtain ⟨b', h1, h2⟩ := byteAt_list s j hj
    rw [h] at h1
    cases h1
    exact hne (UInt8.toNat_inj.1 (h2.trans e))
  rcases indexByte_spec c s.data.toList with ⟨h1, h2⟩ | ⟨i, h1, h2, h3⟩
  · left
    refine ⟨fun j hj => ?_, h1⟩
    obtain ⟨b, hb, _⟩ := byteAt_list s j hj
    exact key j b hb (h2 j b hb)
  · right
    have hi : i < s.size := by
      have := (List.getElem?_eq_some_iff.1 h2).1
      simpa using this
    refine ⟨i, ⟨hi, ?_, fun j hj => ?_⟩, h1⟩
    · obtain ⟨b, hb, e⟩ := byteAt_list s i hi
      rw [h2] at hb
      cases hb
      exact e.symm
    · obtain ⟨b, hb, _⟩ := byteAt_list s j (by omega)
      exact key j b hb (h3 j b hj hb)
theorem index_any (s : ByteArray) (c : UInt8) (w : World) : Calls Tryz.prog 106 #[.string s, .string ⟨#[c]⟩] w fun e w' => e = .returned (.int .i64 (Lib.indexByte s.data.toList c)) ∧ w' = w :=
  Any.stringslite_Index_one { Tryz.lays143 with } s c w
/-- What a cut gives. -/
def CutIs (s : ByteArray) (x y : ByteArray) (b : Bool) : Prop :=
  (NoByte s 61 ∧ x = s ∧ y = ⟨#[]⟩ ∧ b = false) ∨ ∃ i, FirstByte s 61 i ∧ x = s.extract 0 i ∧ y = s.extract (i + 1) s.size ∧ b = true
set_option maxRecDepth 100000 in
set_option maxHeartbeats 2000000 in
theorem cut_any (s : ByteArray) (hs : (s.size : Int) ≤ 9223372036854775807) (w : World) : Calls Tryz.prog 104 #[.string s, .string ⟨#[61]⟩] w fun e w' => ∃ x y b, e = .returned (.tuple #[.string x, .string y, .bool b]) ∧ CutIs s x y b ∧ Below w.heap.size w w' := by
  have C := Lib.hid (index_any s 61 w)
  rcases index_spec s 61 with ⟨hno, hi⟩ | ⟨i, hf, hi⟩
  · rw [hi] at C
    go_enter Tryz.func104, Tryz.ntmps104
    go_wp2_with (go_at_call 106; (refine C.out.mono ?_); rintro e w' ⟨rfl, rfl⟩)
    exact bodyPost_ret (v := .tuple #[.string s, .string ⟨#[]⟩, .bool false]) (by simp [results, Tryz.results104, go_sem]) rfl ⟨_, _, _, rfl, .inl ⟨hno, rfl, rfl, rfl⟩, Below.refl _ _⟩
  · rw [hi] at C
    have hlt := hf.1
    have h0 : (0 : Int) ≤ (i : Int) := by omega
    have h1 : (i : Int) ≤ (s.size : Int) := by omega
    have h2 : (i : Int) + 1 ≤ (s.size : Int) := by omega
    have h3 : (0 : Int) ≤ (i : Int) + 1 := by omega
    have hw : IntKind.i64.wrap ((i : Int) + 1) = (i : Int) + 1 := IntWalk.i64_in _ (by omega)
    have e1 : ((i : Int) + 1).toNat = i + 1 := by omega
    have HF := Lib.hid hf
    clear hf hlt hi
    go_enter Tryz.func104, Tryz.ntmps104
    go_wp2_with (go_at_call 106; (refine C.out.mono ?_); rintro e w' ⟨rfl, rfl⟩)
    go_quiet (fail)
    go_wp2
    exact bodyPost_ret (v := .tuple #[.string (s.extract 0 i), .string (s.extract (i + 1) s.size), .bool true]) (by simp [results, Tryz.results104, go_sem, e1]) rfl ⟨_, _, _, rfl, .inr ⟨i, HF.out, rfl, rfl, rfl⟩, below_same (Below.refl _ _) rfl rfl rfl rfl⟩
set_option maxRecDepth 100000 in
set_option maxHeartbeats 2000000 in
theorem scut_any (s : ByteArray) (hs : (s.size : Int) ≤ 9223372036854775807) (w : World) : Calls Tryz.prog 100 #[.string s, .string ⟨#[61]⟩] w fun e w' => ∃ x y b, e = .returned (.tuple #[.string x, .string y, .bool b]) ∧ CutIs s x y b ∧ Below w.heap.size w w' := by
  have C := Lib.hid (cut_any s hs w)
  go_enter Tryz.func100, Tryz.ntmps100
  go_wp2_with (go_at_call 104; (refine C.out.mono ?_); rintro e w' ⟨x, y, b, rfl, hc, hb⟩)
  exact bodyPost_ret (v := .tuple #[.string x, .string y, .bool b]) (by simp [results, Tryz.results100, go_sem]) rfl ⟨_, _, _, rfl, hc, hb⟩
/-- A pair that comes back from the program. -/
def PairTup (s : ByteArray) (w : World) (e : Ending) (w' : World) : Prop := ∃ x y b, e = .returned (.tuple #[.string x, .string y, .bool b]) ∧ PairIs s x y b ∧ Below w.heap.size w w'
set_option maxRecDepth 100000 in
set_option maxHeartbeats 2000000 in
theorem pair_any (s : ByteArray) (hs : (s.size : Int) ≤ 9223372036854775807) (w : World) : Calls Tryz.prog 86 #[.string s] w (PairTup s w) := by
  have C := Lib.hid (scut_any s hs w)
  go_enter Tryz.func86, Tryz.ntmps86
  go_upto_region 2 with (go_at_call 100; (refine C.out.mono ?_); rintro e w' ⟨x, y, b, rfl, hc, hb⟩)
  rcases hc with ⟨hno, rfl, rfl, rfl⟩ | ⟨i, hf, rfl, rfl, rfl⟩
  · go_wp2
    exact bodyPost_ret (v := .tuple #[.string ⟨#[]⟩, .string ⟨#[]⟩, .bool false]) (by simp [results, Tryz.results86, go_sem]) rfl ⟨_, _, _, rfl, .inl ⟨hno, rfl, rfl, rfl⟩, hb⟩
  · have HF := Lib.hid hf
    clear hf
    go_wp2
    exact bodyPost_ret (v := .tuple #[.string (s.extract 0 i), .string (s.extract (i + 1) s.size), .bool true]) (by simp [results, Tryz.results86, go_sem]) rfl ⟨_, _, _, rfl, .inr ⟨i, HF.out, rfl, rfl, rfl⟩, hb⟩
end Go.Proofs.YtlpffgmfgkleiaaGreatDoor

/-
  Runes of a text against its bytes, in plain words: what the words are at each rune.
-/
namespace Go.Proofs.YtlpffgmfgkleiaaGreatDoor
open Go.RowKit Go.Maps

theorem get_byte (s : ByteArray) {j : Nat} (h : j < s.size) : (s.get! j).toNat = byteAt s j := by
  rw [(byteAt_in s h).2]
  have := get_at s j h
  rw [Nat.add_zero] at this
  rw [this]
/-- A rune that is longer than a byte is made of bytes that are none of the marks. -/
theorem dec_high (s : ByteArray) (p : Nat) (h : p < s.size) (hb : 128 ≤ byteAt s p) :
    128 ≤ (Utf8.decode s p).1 ∧ 1 ≤ (Utf8.decode s p).2 ∧ p + (Utf8.decode s p).2 ≤ s.size ∧ ∀ j, p ≤ j → j < p + (Utf8.decode s p).2 → 128 ≤ byteAt s j := by
  have hd := decode_high s p h (by rw [← (byteAt_in s h).2]; exact hb)
  refine ⟨hd.1, hd.2, ?_⟩
  have key : (Utf8.decode s p).2 = 1 ∨ ((Utf8.decode s p).2 = 2 ∧ p + 1 < s.size ∧ (s.get! (p + 1)).toNat / 64 = 2) ∨ ((Utf8.decode s p).2 = 3 ∧ p + 2 < s.size ∧ (s.get! (p + 1)).toNat / 64 = 2 ∧ (s.get! (p + 2)).toNat / 64 = 2) ∨
      ((Utf8.decode s p).2 = 4 ∧ p + 3 < s.size ∧ (s.get! (p + 1)).toNat / 64 = 2 ∧ (s.get! (p + 2)).toNat / 64 = 2 ∧ (s.get! (p + 3)).toNat / 64 = 2) := by
    rw [Lib.decode_at]
    generalize (s.get! p).toNat = b0
    generalize (s.get! (p + 1)).toNat = b1
    generalize (s.get! (p + 2)).toNat = b2
    generalize (s.get! (p + 3)).toNat = b3
    unfold Lib.decodeN
    split
    · exact .inl rfl
    · split
      · rename_i _ h1
        split
        · exact .inr (.inl ⟨rfl, by omega, h1.2.2⟩)
        · exact .inl rfl
      · split
        · rename_i _ _ h1
          split
          · exact .inr (.inr (.inl ⟨rfl, by omega, h1.2.1.2, h1.2.2.2⟩))
          · exact .inl rfl
        · split
          · rename_i _ _ _ h1
            split
            · exact .inr (.inr (.inr ⟨rfl, by omega, h1.2.1.2, h1.2.2.1.2, h1.2.2.2.2⟩))
            · exact .inl rfl
          · exact .inl rfl
  rcases key with e | ⟨e, hl, h1⟩ | ⟨e, hl, h1, h2⟩ | ⟨e, hl, h1, h2, h3⟩
  · rw [e]
    refine ⟨by omega, fun j hj1 hj2 => ?_⟩
    obtain rfl : j = p := by omega
    exact hb
  · rw [get_byte s (by omega)] at h1
    rw [e]
    refine ⟨by omega, fun j hj1 hj2 => ?_⟩
    rcases (show j = p ∨ j = p + 1 by omega) with rfl | rfl
    · exact hb
    · omega
  · rw [get_byte s (by omega)] at h1 h2
    rw [e]
    refine ⟨by omega, fun j hj1 hj2 => ?_⟩
    rcases (show j = p ∨ j = p + 1 ∨ j = p + 2 by omega) with rfl | rfl | rfl
    · exact hb
    · omega
    · omega
  · rw [get_byte s (by omega)] at h1 h2 h3
    rw [e]
    refine ⟨by omega, fun j hj1 hj2 => ?_⟩
    rcases (show j = p ∨ j = p + 1 ∨ j = p + 2 ∨ j = p + 3 by omega) with rfl | rfl | rfl | rfl
    · exact hb
    · omega
    · omega
    · omega
theorem dec_low (s : ByteArray) (p : Nat) (h : p < s.size) (hb : byteAt s p < 128) : Utf8.decode s p = (byteAt s p, 1) := by
  rw [(byteAt_in s h).2] at hb ⊢
  exact decode_ascii s p h hb

/-- Behind a note's mark no word has begun. -/
theorem wrun_rem (s : ByteArray) : ∀ i, (wrun s i).off = true → (wrun s i).fr = -1
  | 0, h => by simp [wrun] at h
  | i + 1, h => by
    rw [wrun] at h ⊢
    have ih := wrun_rem s i
    generalize wrun s i = q at h ih ⊢
    unfold wstep at h ⊢
    simp only [] at h ⊢
    split
    · rfl
    · rename_i hn
      rw [if_neg hn] at h
      simp only [] at h
      exact absurd (.inr (.inl (by rw [h]; rfl))) hn
theorem wrun_high (s : ByteArray) (p : Nat) : ∀ w, (∀ j, p ≤ j → j < p + w + 1 → 128 ≤ byteAt s j) →
    wrun s (p + w + 1) = if (wrun s p).off = true then wrun s p else ⟨(wrun s p).out, (wrun s p).ln, if (wrun s p).fr < 0 then (p : Int) else (wrun s p).fr, false⟩
  | 0, hb => by
    have h := hb p (by omega) (by omega)
    have ho := wrun_rem s p
    rw [Nat.add_zero, wrun]
    generalize wrun s p = q at ho ⊢
    obtain ⟨out, ln, fr, off⟩ := q
    unfold wstep
    simp only [] at ho ⊢
    cases off with
    | true =>
      have := ho rfl
      subst this
      simp [show ¬ byteAt s p = 10 by omega]
    | false =>
      simp [show ¬ byteAt s p = 10 by omega, show ¬ byteAt s p = 35 by omega, show ¬ byteAt s p = 32 by omega, show ¬ byteAt s p = 9 by omega]
  | w + 1, hb => by
    have ih := wrun_high s p w (fun j h1 h2 => hb j h1 (by omega))
    have h := hb (p + w + 1) (by omega) (by omega)
    have ho := wrun_rem s p
    have hf := (wrun_inv s p)
    rw [show p + (w + 1) + 1 = (p + w + 1) + 1 by omega, wrun, ih]
    generalize wrun s p = q at ho ⊢
    obtain ⟨out, ln, fr, off⟩ := q
    simp only [] at ho ⊢
    cases off with
    | true =>
      have := ho rfl
      subst this
      unfold wstep
      simp [show ¬ byteAt s (p + w + 1) = 10 by omega]
    | false =>
      unfold wstep
      by_cases hfr : fr < 0
      · simp [hfr, show ¬ byteAt s (p + w + 1) = 10 by omega, show ¬ byteAt s (p + w + 1) = 35 by omega, show ¬ byteAt s (p + w + 1) = 32 by omega, show ¬ byteAt s (p + w + 1) = 9 by omega]
        omega
      · simp [hfr, show ¬ byteAt s (p + w + 1) = 10 by omega, show ¬ byteAt s (p + w + 1) = 35 by omega, show ¬ byteAt s (p + w + 1) = 32 by omega, show ¬ byteAt s (p + w + 1) = 9 by omega]

/-- What has been told when a word ends at a place. -/
def told (s : ByteArray) (p : Nat) (q : LS) : List WV := if q.fr < 0 then q.out else q.out ++ [⟨q.fr, q.ln, s.extract q.fr.toNat p⟩]
/-- A rune further. -/
theorem rune_step (s : ByteArray) (p : Nat) (h : p < s.size) {r w : Nat} (hd : Utf8.decode s p = (r, w)) {q : LS} (hq : wrun s p = q) :
    1 ≤ w ∧ p + w ≤ s.size ∧
    (r = 10 → wrun s (p + w) = ⟨told s p q, q.ln + 1, -1, false⟩) ∧
    (r ≠ 10 → (q.off = true ∨ r = 35) → wrun s (p + w) = ⟨told s p q, q.ln, -1, true⟩) ∧
    (q.off = false → (r = 32 ∨ r = 9) → wrun s (p + w) = ⟨told s p q, q.ln, -1, false⟩) ∧
    (q.off = false → r ≠ 10 → r ≠ 35 → r ≠ 32 → r ≠ 9 → wrun s (p + w) = ⟨q.out, q.ln, if q.fr < 0 then (p : Int) else q.fr, false⟩) := by
  have ho := wrun_rem s p
  rw [hq] at ho
  by_cases hb : byteAt s p < 128
  · have := dec_low s p h hb
    rw [hd] at this
    injection this with h1 h2
    subst h2
    have hs : wrun s (p + 1) = wstep s p q := by rw [wrun, hq]
    refine ⟨by omega, by omega, ?_, ?_, ?_, ?_⟩
    · intro e
      have h10 : byteAt s p = 10 := by omega
      rw [hs]; unfold wstep told; simp [h10]
    · intro e1 e2
      have h10 : ¬ byteAt s p = 10 := by omega
      have hoff : (q.off || decide (byteAt s p = 35)) = true := by
        rcases e2 with e2 | e2
        · rw [e2]; rfl
        · rw [show byteAt s p = 35 by omega]; simp
      rw [hs]; unfold wstep told; simp only [hoff]; simp [h10]
    · intro e1 e2
      have h10 : ¬ byteAt s p = 10 := by omega
      have hoff : (q.off || decide (byteAt s p = 35)) = false := by
        rw [e1]; simp; omega
      have hbl : byteAt s p = 32 ∨ byteAt s p = 9 := by omega
      rw [hs]; unfold wstep told; simp only [hoff]; simp [h10, hbl]
    · intro e1 e2 e3 e4 e5
      have hoff : (q.off || decide (byteAt s p = 35)) = false := by
        rw [e1]; simp; omega
      have h10 : ¬ byteAt s p = 10 := by omega
      have h32 : ¬ byteAt s p = 32 := by omega
      have h9 : ¬ byteAt s p = 9 := by omega
      rw [hs]; unfold wstep; simp only [hoff]; simp [h10, h32, h9, e1]
  · obtain ⟨d1, d2, d3, d4⟩ := dec_high s p h (by omega)
    rw [hd] at d1 d2 d3 d4
    simp only [] at d1 d2 d3 d4
    have hr := wrun_high s p (w - 1) (fun j h1 h2 => d4 j h1 (by omega))
    rw [show p + (w - 1) + 1 = p + w by omega, hq] at hr
    refine ⟨d2, d3, fun e => by omega, ?_, fun _ e => by omega, ?_⟩
    · intro _ e2
      have e2 : q.off = true := by rcases e2 with e2 | e2
                                   · exact e2
                                   · omega
      rw [hr, if_pos e2]
      have hfr := ho e2
      obtain ⟨out, ln, fr, off⟩ := q
      have e3 : off = true := e2
      have e4 : fr = -1 := hfr
      subst e3
      subst e4
      simp [told]
    · intro e1 _ _ _ _
      rw [hr, if_neg (by rw [e1]; simp)]
/-- At the text's end. -/
theorem rune_end (s : ByteArray) {q : LS} (hq : wrun s s.size = q) : wordsOf s = told s s.size q := by
  unfold wordsOf
  rw [wrun, hq]
  unfold wstep told
  simp only []
  rw [if_pos (.inl (byteAt_end s (Nat.le_refl _)))]
end Go.Proofs.YtlpffgmfgkleiaaGreatDoor

/-
  The walk over a number of a text, rune by rune.
-/
namespace Go.Proofs.YtlpffgmfgkleiaaGreatDoor
open Go.RowKit Go.Maps

theorem nrun_le (s : ByteArray) {i n : Nat} (h : nrun s i = some n) : ∀ j m, i ≤ j → nrun s j = some m → n ≤ m := by
  intro j
  induction j with
  | zero =>
    intro m hj hm
    have : i = 0 := by omega
    subst this
    rw [h] at hm; cases hm; exact Nat.le_refl _
  | succ j ih =>
    intro m hj hm
    rcases Nat.lt_or_ge j i with q | q
    · have : i = j + 1 := by omega
      subst this
      rw [h] at hm; cases hm; exact Nat.le_refl _
    · rw [nrun] at hm
      split at hm
      · cases hm
      · rename_i k hk
        split at hm
        · cases hm
        · cases hm
          have := ih k q hk
          omega
/-- What the number is when a byte is no digit, or makes it too great. -/
theorem num_none (s : ByteArray) (most : Int) {p n : Nat} (hp : p < s.size) (hn : nrun s p = some n)
    (hb : byteAt s p < 48 ∨ 57 < byteAt s p ∨ most < (10 * n + (byteAt s p - 48) : Nat)) : numOf s most = none := by
  unfold numOf
  split
  · rfl
  · split
    · rfl
    · rename_i m hm
      by_cases hd : byteAt s p < 48 ∨ 57 < byteAt s p
      · have h1 : nrun s (p + 1) = none := by
          rw [nrun, hn]; simp only []
          rw [if_pos (by omega)]
        rw [nrun_none s h1 s.size (by omega)] at hm
        cases hm
      · cases h1 : nrun s (p + 1) with
        | none =>
          rw [nrun_none s h1 s.size (by omega)] at hm
          cases hm
        | some k =>
          have hk := nrun_le s h1 s.size m (by omega) hm
          rw [nrun, hn] at h1
          simp only [] at h1
          split at h1
          · cases h1
          · cases h1
            rw [if_pos (by omega)]
theorem num_some (s : ByteArray) (most : Int) {n : Nat} (h0 : ¬ (s.size = 0 ∨ (1 < s.size ∧ byteAt s 0 = 48))) (hn : nrun s s.size = some n) (hm : (n : Int) ≤ most) : numOf s most = some n := by
  unfold numOf
  rw [if_neg h0, hn]
  simp only []
  rw [if_neg (by omega)]
/-- A number that comes back from the program. -/
def NumIs (o : Option Nat) (w : World) (e : Ending) (w' : World) : Prop :=
  e = .returned (.tuple #[.int .i64 ((o.getD 0 : Nat) : Int), .bool o.isSome]) ∧ Below w.heap.size w w'

set_option maxRecDepth 100000 in
set_option maxHeartbeats 4000000 in
theorem number_any (s : ByteArray) (hs : (s.size : Int) ≤ 9223372036854775807) (most : Int) (hmost : I64 most) (w : World) : Calls Tryz.prog 84 #[.string s, .int .i64 most] w (NumIs (numOf s most) w) := by
  unfold I64 at hmost
  by_cases h0 : s.size = 0
  · have hn : numOf s most = none := by unfold numOf; rw [if_pos (.inl h0)]
    rw [hn]
    have he : s = ⟨#[]⟩ := by
      obtain ⟨d⟩ := s
      have : d.size = 0 := h0
      rw [Array.eq_empty_of_size_eq_zero this]
    subst he
    clear hn h0
    go_enter Tryz.func84, Tryz.ntmps84
    go_wp2
    go_step3
    go_wp2
    rw [Exit.noGoto_ret]
    exact bodyPost_ret (v := .tuple #[.int .i64 0, .bool false]) (by simp [results, Tryz.results84, go_sem]) rfl ⟨rfl, Below.refl _ _⟩
  · have hes := nonempty s h0
    have hp : 0 < s.size := by omega
    have h00 := (byteAt_in s hp).2
    by_cases hz0 : 1 < s.size ∧ byteAt s 0 = 48
    · have hn : numOf s most = none := by unfold numOf; rw [if_pos (.inr hz0)]
      rw [hn]
      have d1 : ((s[0].toNat : Int) == 48) = true := by rw [beq_iff_eq]; omega
      have d2 : (s.toList == [48]) = false := by
        rw [beq_eq_false_iff_ne]
        intro e
        have h1 := loop_len s s.size 0 [] (by omega)
        have h2 : (ByteArray.toList.loop s 0 []).length = 1 := by
          show s.toList.length = 1
          rw [e]; rfl
        simp at h1
        omega
      clear hn hz0 h0 h00
      go_enter Tryz.func84, Tryz.ntmps84
      go_wp2
      go_step3
      go_wp2
      rw [Exit.noGoto_ret]
      exact bodyPost_ret (v := .tuple #[.int .i64 0, .bool false]) (by simp [results, Tryz.results84, go_sem]) rfl ⟨rfl, Below.refl _ _⟩
    · have HOK : Hid (¬ (s.size = 0 ∨ (1 < s.size ∧ byteAt s 0 = 48))) := by rintro (q | q); exact h0 q; exact hz0 q
      have hor : ((((s[0].toNat : Int) == 48) = true ∧ (s.toList == [48]) = true) ∨ ((s[0].toNat : Int) == 48) = false) := by
        by_cases h48 : byteAt s 0 = 48
        · left
          have h1 : s.size = 1 := by omega
          refine ⟨by rw [beq_iff_eq]; omega, ?_⟩
          have e : s = ⟨#[48]⟩ := by
            obtain ⟨⟨l⟩⟩ := s
            match l, h1 with
            | [c], _ =>
              have : c.toNat = 48 := by rw [h00] at h48; exact h48
              have : c = 48 := UInt8.toNat_inj.1 this
              rw [this]
          subst e
          show (ByteArray.toList.loop ⟨#[48]⟩ 0 [] == [48]) = true
          rw [ByteArray.toList.loop, if_pos (by decide), ByteArray.toList.loop, if_neg (by decide)]
          rfl
        · right; rw [beq_eq_false_iff_ne]; omega
      rcases hor with ⟨d1, d2⟩ | d1
      all_goals
        clear hz0 h0 h00
        go_enter Tryz.func84, Tryz.ntmps84
        go_wp2
        go_step3
        go_wp2
        go_step3
        go_wp2
        go_loopw [6, 7] (fun u v wr => ∃ p n : Nat, p ≤ s.size ∧ u = .int .i64 n ∧ v = .int .i64 p ∧ n ≤ 9223372036854775807 ∧ Hid (nrun s p = some n) ∧ Hid ((n : Int) ≤ most ∨ p = 0) ∧ Hid (Below w.heap.size w wr) ∧ Hid (wr.heap[w.heap.size]? = some (.stringIter s p))) (fun _ _ wr => s.size - wr.iterPos w.heap.size)
        case atStart => exact ⟨0, 0, by omega, rfl, rfl, by omega, rfl, .inr rfl, (Below.refl _ w).alloc (Nat.le_refl _) (.stringIter s 0), World.iter_heap w s 0⟩
        case round =>
          obtain ⟨p, n, hps, rfl, rfl, hn63, HS, HM, HB, HIT⟩ := hrel
          clear hes d1
          by_cases hlt : p < s.size
          · obtain ⟨r, wd, hd⟩ : ∃ r wd, Utf8.decode s p = (r, wd) := ⟨_, _, rfl⟩
            have hnx : ∀ ty, (Instr.next (.pointer (some ⟨w.heap.size, 0, none⟩)) true ty).run Tryz.prog wr = _ := fun ty => Lib.run_next_any_at wr w.heap.size s p ty HIT.out hlt
            simp only [hd] at hnx
            have hr9 := decode_le s p
            rw [hd] at hr9
            simp only [] at hr9
            have hlow : (byteAt s p < 128 ∧ r = byteAt s p ∧ wd = 1) ∨ (128 ≤ byteAt s p ∧ 128 ≤ r) := by
              by_cases hb : byteAt s p < 128
              · have := dec_low s p hlt hb
                rw [hd] at this
                injection this with h1 h2
                exact .inl ⟨hb, h1, h2⟩
              · have := dec_high s p hlt (by omega)
                rw [hd] at this
                exact .inr ⟨by omega, this.1⟩
            have HB2 : Hid (Below w.heap.size w (wr.iterAt w.heap.size s (p + wd))) := Lib.below_iterAt HB.out (Nat.le_refl _) _ _
            have HI2 : Hid ((wr.iterAt w.heap.size s (p + wd)).heap[w.heap.size]? = some (.stringIter s (p + wd))) := Lib.iterAt_heap _ _ _ _ _ HIT.out
            obtain ⟨D, hD⟩ : ∃ D : Int, (r : Int) - 48 = D := ⟨_, rfl⟩
            have hw32 : IntKind.i32.wrap ((r : Int) - 48) = D := by rw [IntKind.wrap_i32]; omega
            have hw64 : IntKind.i64.wrap D = D := IntWalk.i64_in _ (by omega)
            have hpl : (p : Int) < (s.size : Int) := by omega
            by_cases h1 : D < 0
            · have HNO : Hid (numOf s most = none) := num_none s most hlt HS.out (by omega)
              clear hd hlow hr9 hD
              go_wp2
              exact bodyPost_ret (v := .tuple #[.int .i64 0, .bool false]) (by simp [results, Tryz.results84, go_sem]) rfl ⟨by rw [HNO.out]; rfl, HB2.out⟩
            · by_cases h2 : 9 < D
              · have HNO : Hid (numOf s most = none) := num_none s most hlt HS.out (by omega)
                clear hd hlow hr9 hD
                go_wp2
                exact bodyPost_ret (v := .tuple #[.int .i64 0, .bool false]) (by simp [results, Tryz.results84, go_sem]) rfl ⟨by rw [HNO.out]; rfl, HB2.out⟩
              · by_cases h3 : most < D
                · have HNO : Hid (numOf s most = none) := num_none s most hlt HS.out (by refine .inr (.inr ?_); omega)
                  clear hd hlow hr9 hD
                  go_wp2
                  exact bodyPost_ret (v := .tuple #[.int .i64 0, .bool false]) (by simp [results, Tryz.results84, go_sem]) rfl ⟨by rw [HNO.out]; rfl, HB2.out⟩
                · obtain ⟨Q, hQ⟩ : ∃ Q, (most - D) / 10 = Q := ⟨_, rfl⟩
                  have hwq : IntKind.i64.wrap (most - D) = most - D := IntWalk.i64_in _ (by omega)
                  have hq2 : (most - D).tdiv 10 = Q := by rw [Int.tdiv_eq_ediv_of_nonneg (by omega)]; exact hQ
                  have hwQ : IntKind.i64.wrap Q = Q := IntWalk.i64_in _ (by omega)
                  have hQ1 : 10 * Q ≤ most - D ∧ most - D < 10 * Q + 10 := by omega
                  by_cases h4 : Q < (n : Int)
                  · have HNO : Hid (numOf s most = none) := num_none s most hlt HS.out (by refine .inr (.inr ?_); omega)
                    clear hd hlow hr9 hD
                    go_wp2
                    exact bodyPost_ret (v := .tuple #[.int .i64 0, .bool false]) (by simp [results, Tryz.results84, go_sem]) rfl ⟨by rw [HNO.out]; rfl, HB2.out⟩
                  · have hdig : byteAt s p < 128 ∧ r = byteAt s p ∧ wd = 1 := by omega
                    obtain ⟨g1, g2, g3⟩ := hdig
                    subst g3
                    have hwn : IntKind.i64.wrap ((n : Int) * 10) = (n : Int) * 10 := IntWalk.i64_in _ (by omega)
                    obtain ⟨m, hm⟩ : ∃ m : Nat, 10 * n + (byteAt s p - 48) = m := ⟨_, rfl⟩
                    have hwm : IntKind.i64.wrap ((n : Int) * 10 + D) = (m : Int) := by rw [IntWalk.i64_in _ (by omega)]; omega
                    have hwp : IntKind.i64.wrap ((p : Int) + 1) = (p : Int) + 1 := IntWalk.i64_in _ (by omega)
                    have HS2 : Hid (nrun s (p + 1) = some m) := by
                      show _ = _
                      rw [nrun, HS.out]; simp only []
                      rw [if_neg (by omega), hm]
                    have HM2 : Hid ((m : Int) ≤ most ∨ p + 1 = 0) := by left; omega
                    have hm63 : m ≤ 9223372036854775807 := by omega
                    clear hd hlow hr9 hm g1 g2 hD
                    go_wp2
                    go_roundw
                    case rel => exact ⟨p + 1, m, by omega, rfl, by go_num, hm63, HS2, HM2, HB2, HI2⟩
                    case measure =>
                      simp only [World.iterPos, HI2.out, HIT.out]
                      omega
          · obtain rfl : p = s.size := by omega
            have hnx : ∀ ty, (Instr.next (.pointer (some ⟨w.heap.size, 0, none⟩)) true ty).run Tryz.prog wr = _ := fun ty => Lib.run_next_end_at wr w.heap.size s s.size ty HIT.out hlt
            have HF : Hid (numOf s most = some n) := num_some s most HOK.out HS.out (by rcases HM.out with z | z; exact z; omega)
            have hpl : ¬ (s.size : Int) < (s.size : Int) := by omega
            go_wp2
            exact bodyPost_ret (v := .tuple #[.int .i64 n, .bool true]) (by simp [results, Tryz.results84, go_sem]) rfl ⟨by rw [HF.out]; rfl, HB.out⟩
end Go.Proofs.YtlpffgmfgkleiaaGreatDoor

/-
  The walk over what tells the pieces of a text one by one; numbers of a text, as the program reads them.
-/
namespace Go.Proofs.YtlpffgmfgkleiaaGreatDoor
open Go.RowKit Go.Maps Go.Shelf
attribute [local go_sem] Oper.semAt_some

/-- The text that is left. -/
abbrev TextBox (W : World) (b : Nat) (t : ByteArray) : Prop := Go.Boxed W b 9 (.string t)
def StB (b : Nat) (X Y : World) : Prop := ∃ t u, TextBox X b t ∧ Y = X.setCell ⟨b, 0, none⟩ (.string u)
def KpB (b : Nat) (X Y : World) : Prop := ∀ (B : Nat) (T : TypeId) (v : Value), b ≤ B → B < b + 3 → T ≠ 2 → Go.Boxed X B T v → Go.Boxed Y B T v
theorem kpB_t {b : Nat} {A B C : World} (h : KpB b A B) (k : KpB b B C) : KpB b A C := fun _ _ _ h1 h2 h3 z => k _ _ _ h1 h2 h3 (h _ _ _ h1 h2 h3 z)
theorem kpB_b {b D : Nat} (W : World) (l : Nat) (o o' : Obj) (_ : D ≤ l) (h : W.heap[l]? = some o) (hc : o.isCells = false) (_ : o.isWalk = false) : KpB b W (W.putObj l o') := fun B T v _ _ _ z => by
  by_cases e : B = l
  · subst e
    rw [show W.heap[B]? = _ from z] at h
    cases h
    cases hc
  · exact (World.putObj_heap_other e).trans z
def boxLen (w : World) (b : Nat) : Nat := match w.cell? ⟨b, 0, none⟩ with
  | some (.string t) => t.size
  | _ => 0
theorem boxLen_of {w : World} {b : Nat} {t : ByteArray} (h : TextBox w b t) : boxLen w b = t.size := by unfold boxLen; rw [h.cell]
theorem sindex_any (r : ByteArray) (w : World) : Calls Tryz.prog 109 #[.string r, .string ⟨#[44]⟩] w fun e w' => e = .returned (.int .i64 (Lib.indexByte r.data.toList 44)) ∧ w' = w :=
  Tryz.strings_Index_one r 44 w

theorem sindex_fn : Fence.wide.fn 109 := trivial
set_option maxRecDepth 100000 in
set_option maxHeartbeats 4000000 in
theorem split_in (n : Nat) (hn : 1 ≤ n) (l b : Nat) (s : ByteArray) (hs : s.size ≤ 1050000) (J Jx : List ByteArray → World → Prop) (W : World) (hJ : ∀ q X Y, J q X → StB b X Y → J q Y)
    (hY : ∀ pre x W1, x.size ≤ 1050000 → J pre W1 → pre.length < s.size + 1 → YieldAt Fence.wide (n - 1) Tryz.prog l #[.string x] W1 fun e W' =>
      (e = .returned (.bool true) ∧ J (pre ++ [x]) W' ∧ KpB b W1 W') ∨ (e = .returned (.bool false) ∧ Jx (pre ++ [x]) W'))
    (hB0 : TextBox W b s) (hB1 : TextBox W (b + 1) ⟨#[44]⟩) (hB2 : Go.Boxed W (b + 2) 3 (.int .i64 0)) (h0 : J [] W) :
    CallsIn Fence.wide n Tryz.prog 107 #[.func (.yield l) #[] #[], .pointer (some ⟨b + 1, 0, none⟩), .pointer (some ⟨b, 0, none⟩), .pointer (some ⟨b + 2, 0, none⟩)] W fun e W' => (∃ v, e = .returned v) ∧
      ((∃ ys, ys = pieces s ∧ J ys W') ∨ (∃ pre, pre <+: pieces s ∧ Jx pre W')) := by
  have HY := Lib.hid hY
  have HJ := Lib.hid hJ
  have q1 := hB1.cell
  have HB0 := Lib.hid hB0
  have HB1 := Lib.hid hB1
  have HB2 := Lib.hid hB2
  have H0 : Hid (J [] W) := h0
  have hcs : (⟨#[44]⟩ : ByteArray).size = 1 := rfl
  clear hY hJ hB0 hB1 hB2 h0
  refine callsIn_of_wp Tryz.func107 rfl trivial ?_ rfl
  simp only [Tryz.ntmps107, List.size_toArray, List.length_cons, List.length_nil, Nat.reduceAdd, Nat.reduceSub, Array.replicate_succ, Array.replicate_zero, List.push_toArray, List.append_toArray, List.nil_append, List.cons_append]
  gi_wp2
  gi_loopw [] (fun wr => ∃ f : Nat, f ≤ s.size ∧ Hid ((prun s f).2 = f) ∧ Hid (J (prun s f).1 wr) ∧ Hid (TextBox wr b (s.extract f s.size)) ∧ Hid (TextBox wr (b + 1) ⟨#[44]⟩) ∧ Hid (Go.Boxed wr (b + 2) 3 (.int .i64 0))) (fun wr => boxLen wr b)
  case atStart =>
    refine ⟨0, by omega, rfl, H0, ?_, HB1, HB2⟩
    show TextBox W b _
    rw [ByteArray.extract_zero_size]
    exact HB0.out
  case round =>
    obtain ⟨f, hf, HF, HJ1, HT, HC, HV⟩ := hrel
    clear q1
    have q0 := HT.out.cell
    have q1 := HC.out.cell
    have q2 := HV.out.cell
    have hlen := prun_len s f
    have HLEN : Hid ((prun s f).1.length < s.size + 1) := by show _ < _; omega
    have hrs : (s.extract f s.size).size = s.size - f := by rw [ByteArray.size_extract]; omega
    have hpc := fun i => piece_step s (i := i) HF.out hf
    have hpl := piece_last s HF.out hf
    obtain ⟨r, hr⟩ : ∃ r, s.extract f s.size = r := ⟨_, rfl⟩
    obtain ⟨done, hdn⟩ : ∃ d, (prun s f).1 = d := ⟨_, rfl⟩
    rw [hr] at HT q0 hrs hpl
    rw [hdn] at HJ1 HLEN hpl
    simp only [hr, hdn] at hpc
    have IX := Lib.hid (fun w => sindex_any r w)
    clear hlen hr hdn
    rcases index_spec r 44 with ⟨hno, hi⟩ | ⟨i, hfi, hi⟩
    · have HP : Hid (pieces s = done ++ [r]) := hpl hno
      rw [hi] at IX
      obtain ⟨fn, tmps, assign, body, hy, hR⟩ := HY.out done r wr (by omega) HJ1.out HLEN.out
      have hR := Lib.hid hR
      clear hpc hpl hno hi
      gi_wp2_with ((with_reducible refine And.intro (a := Fence.wide.fn 109) sindex_fn ?_); gi_at_call 109; (refine (callsIn_wide.2 (IX.out _)).mono ?_); rintro e w' ⟨rfl, rfl⟩)
      refine hR.out.mono ?_
      rintro e W3 (⟨rfl, hJ3, hk3⟩ | ⟨rfl, hJx3⟩)
      · have HG : Hid (J (pieces s) W3) := by show J _ _; rw [HP.out]; exact hJ3
        clear hJ3 hk3 hy
        gi_wp2
        go_end0
        first | exact ⟨⟨_, rfl⟩, .inl ⟨_, rfl, HG.out⟩⟩ | exact ⟨⟨_, rfl⟩, .inl HG.out⟩
      · have HG : Hid (Jx (done ++ [r]) W3) := hJx3
        have HP2 : Hid (done ++ [r] <+: pieces s) := by show _ <+: _; rw [HP.out]; exact List.prefix_rfl
        clear hJx3 hy
        gi_wp2
        go_end0
        exact ⟨⟨_, rfl⟩, .inr ⟨_, HP2.out, HG.out⟩⟩
    · obtain ⟨g1, g2, g3⟩ := hpc i hfi
      have hir := hfi.1
      rw [hi] at IX
      have HG2 : Hid (prun s (f + i + 1) = (done ++ [r.extract 0 i], f + i + 1)) := g2
      have HG3 : Hid (r.extract (i + 1) r.size = s.extract (f + i + 1) s.size) := g3
      have HPX : Hid (done ++ [r.extract 0 i] <+: pieces s) := by
        show _ <+: _
        have := prun_pre s (f + i + 1) (s.size + 1) (by omega)
        rw [HG2.out] at this
        exact this
      obtain ⟨fn, tmps, assign, body, hy, hR⟩ := HY.out done (r.extract 0 i) wr (by rw [ByteArray.size_extract]; omega) HJ1.out HLEN.out
      have hR := Lib.hid hR
      have i0 : (0 : Int) ≤ (i : Int) := by omega
      have i1 : (i : Int) ≤ (r.size : Int) := by omega
      have i2 : (i : Int) + 1 ≤ (r.size : Int) := by omega
      have i3 : (0 : Int) ≤ (i : Int) + 1 := by omega
      have i4 : ¬ (i : Int) < 0 := by omega
      have hw0 : IntKind.i64.wrap (i : Int) = (i : Int) := IntWalk.i64_in _ (by omega)
      have hw1 : IntKind.i64.wrap ((i : Int) + 1) = (i : Int) + 1 := IntWalk.i64_in _ (by omega)
      have e1 : ((i : Int) + 1).toNat = i + 1 := by omega
      have HRS := Lib.hid hrs
      clear hpc hpl hfi hi g2 g3 hir hrs
      gi_wp2_with ((with_reducible refine And.intro (a := Fence.wide.fn 109) sindex_fn ?_); gi_at_call 109; (refine (callsIn_wide.2 (IX.out _)).mono ?_); rintro e w' ⟨rfl, rfl⟩)
      refine hR.out.mono ?_
      rintro e W3 (⟨rfl, hJ3, hk3⟩ | ⟨rfl, hJx3⟩)
      · have HT3 : Hid (TextBox W3 b r) := hk3 _ _ _ (by omega) (by omega) (by decide) HT.out
        have HC3 : Hid (TextBox W3 (b + 1) ⟨#[44]⟩) := hk3 _ _ _ (by omega) (by omega) (by decide) HC.out
        have HV3 : Hid (Go.Boxed W3 (b + 2) 3 (.int .i64 0)) := hk3 _ _ _ (by omega) (by omega) (by decide) HV.out
        have HJ3 : Hid (J (done ++ [r.extract 0 i]) W3) := hJ3
        clear q0 q1 q2 hJ3 hk3 hy
        have q0 := HT3.out.cell
        have q1 := HC3.out.cell
        have q3 := HT3.out.frozen
        gi_wp2
        go_roundw
        case rel =>
          refine ⟨f + i + 1, g1, by show _ = _; rw [HG2.out], ?_, ?_, HC3.out.other (by omega) _, HV3.out.other (by omega) _⟩
          · show J _ _
            rw [HG2.out]
            exact HJ.out _ _ _ HJ3.out ⟨r, _, HT3.out, rfl⟩
          · show TextBox _ _ _
            rw [← HG3.out]
            exact HT3.out.set _
        case measure =>
          rw [boxLen_of HT.out, boxLen_of (HT3.out.set _), ByteArray.size_extract]
          have := HRS.out
          omega
      · have HG : Hid (Jx (done ++ [r.extract 0 i]) W3) := hJx3
        clear hJx3 hy
        gi_wp2
        refine bodyPost_ret (results_none rfl _ _ _) rfl ?_
        exact ⟨⟨_, rfl⟩, .inr ⟨_, HPX.out, HG.out⟩⟩
end Go.Proofs.YtlpffgmfgkleiaaGreatDoor

/-
  The walk over numbers of a text, with commas between them.
-/
namespace Go.Proofs.YtlpffgmfgkleiaaGreatDoor
open Go.RowKit Go.Maps Go.Shelf
attribute [local go_sem] Oper.semAt_some

abbrev Pc := { x : ByteArray // x.size ≤ 1050000 }
theorem split_tells (n : Nat) (hn : 1 ≤ n) (b : Nat) (s : ByteArray) (hs : s.size ≤ 1050000) (w : World) (h0 : TextBox w b s) (h1 : TextBox w (b + 1) ⟨#[44]⟩) (h2 : Go.Boxed w (b + 2) 3 (.int .i64 0)) :
    Tells n Tryz.prog 107 #[.pointer (some ⟨b + 1, 0, none⟩), .pointer (some ⟨b, 0, none⟩), .pointer (some ⟨b + 2, 0, none⟩)] (fun x : Pc => #[.string x.1]) (KpB b) (StB b) (fun ys => ys.map (·.1) = pieces s) (fun ys => ys.map (·.1) <+: pieces s) (s.size + 1) w :=
  fun l J Jx W hW hJ hY hs0 =>
    (split_in n hn l b s hs (fun q W => ∃ q' : List Pc, q'.map (·.1) = q ∧ J q' W) (fun q W => ∃ q' : List Pc, q'.map (·.1) = q ∧ Jx q' W) W
      (fun q X Y ⟨q', e, h⟩ st => ⟨q', e, hJ _ _ _ h st⟩)
      (fun pre x W1 hx ⟨q', e, h⟩ hlen => by
        subst e
        obtain ⟨fn, tmps, assign, body, hy, hR⟩ := hY q' ⟨x, hx⟩ W1 h (by simpa using hlen)
        refine ⟨fn, tmps, assign, body, hy, hR.mono ?_⟩
        rintro e W' (⟨rfl, hj, hk⟩ | ⟨rfl, hj⟩)
        · exact .inl ⟨rfl, ⟨_, by simp, hj⟩, hk⟩
        · exact .inr ⟨rfl, _, by simp, hj⟩)
      (kept_obj hW h0) (kept_obj hW h1) (kept_obj hW h2) ⟨[], rfl, hs0⟩).mono fun e W' ⟨hv, h⟩ => ⟨hv, by
        rcases h with ⟨ys, rfl, q', e, hj⟩ | ⟨pre, hp, q', e, hj⟩
        · exact .inl ⟨q', e, hj⟩
        · exact .inr ⟨q', (by show q'.map (·.1) <+: _; rw [e]; exact hp), hj⟩⟩
theorem splitseq_val (s : ByteArray) (n : Nat) (w : World) :
    CallsIn Fence.wide n Tryz.prog 105 #[.string s, .string ⟨#[44]⟩, .int .i64 0] w fun e w' => e = .returned (.func (.func 107) #[] #[.pointer (some ⟨w.heap.size + 1, 0, none⟩), .pointer (some ⟨w.heap.size, 0, none⟩), .pointer (some ⟨w.heap.size + 2, 0, none⟩)]) ∧
      w' = ((w.alloc (.cells #[.string s] 9)).alloc (.cells #[.string ⟨#[44]⟩] 9)).alloc (.cells #[.int .i64 0] 3) := by
  have hmf : ∀ (fn : Fn) (first cap : Array Value) (w : World), (Instr.makeFunc fn first cap).run Tryz.prog w = .ok (.func fn first cap) w := fun _ _ _ _ => rfl
  refine callsIn_of_wp Tryz.func105 rfl trivial ?_ rfl
  simp only [Tryz.ntmps105, List.size_toArray, List.length_cons, List.length_nil, Nat.reduceAdd, Nat.reduceSub, Array.replicate_succ, Array.replicate_zero, List.push_toArray, List.append_toArray, List.nil_append, List.cons_append]
  gi_wp2
  go_ret
  exact ⟨rfl, rfl⟩
theorem seq_val (s : ByteArray) (n : Nat) (hn : 1 ≤ n) (w : World) :
    CallsIn Fence.wide n Tryz.prog 101 #[.string s, .string ⟨#[44]⟩] w fun e w' => e = .returned (.func (.func 107) #[] #[.pointer (some ⟨w.heap.size + 1, 0, none⟩), .pointer (some ⟨w.heap.size, 0, none⟩), .pointer (some ⟨w.heap.size + 2, 0, none⟩)]) ∧
      w' = ((w.alloc (.cells #[.string s] 9)).alloc (.cells #[.string ⟨#[44]⟩] 9)).alloc (.cells #[.int .i64 0] 3) := by
  have SV := Lib.hid (fun n w => splitseq_val s n w)
  refine callsIn_of_wp Tryz.func101 rfl trivial ?_ rfl
  simp only [Tryz.ntmps101, List.size_toArray, List.length_cons, List.length_nil, Nat.reduceAdd, Nat.reduceSub, Array.replicate_succ, Array.replicate_zero, List.push_toArray, List.append_toArray, List.nil_append, List.cons_append]
  gi_wp2_with (refine ⟨trivial, ?_⟩; gi_at_call 105; (refine (SV.out _ _).mono ?_); rintro e w' ⟨rfl, rfl⟩)
  go_ret
  exact ⟨rfl, rfl⟩

/-- What a reader of numbers holds between two pieces. -/
structure NI (most : Int) (w W : World) (l : List Int) : Prop where
  row : ∃ v, Go.Boxed W (w.heap.size + 3) 23 v ∧ W.ownsRow (w.heap.size + 1) 2 1 v l.length (vi l) ∧ True
  bound : Go.Boxed W w.heap.size 2 (.int .i64 most)
  r0 : Go.Boxed W (w.heap.size + 1) 23 (.slice none 0 0)
  r1 : Go.Boxed W (w.heap.size + 2) 4 (.bool false)
  low : Below w.heap.size w W
theorem boxed_keep {X Y : World} {B : Nat} {T : TypeId} {v : Value} {row : Option Nat} (h : Go.Boxed X B T v) (hg : X.grownBy Y row) (hr : ∀ r, row = some r → ∃ o : Obj, X.heap[r]? = some o ∧ o.isCells = false) : Go.Boxed Y B T v :=
  boxed_own (β := Unit) B T (fun _ => v) () X Y row h hg hr
theorem NI.own (most : Int) (w : World) {β : Type} (f : β → List Int) {B : Nat} (hB : w.heap.size ≤ B) : OwnFrom B (fun s W => NI most w W (f s)) := fun s X Y row hs hg hr => by
  have hc : ∀ r, row = some r → ∃ o : Obj, X.heap[r]? = some o ∧ o.isCells = false := fun r e => (hr r e).2
  exact ⟨holdsRow_own (w.heap.size + 1) (w.heap.size + 3) 23 2 1 (fun s => (f s).length) (fun s => vi (f s)) (fun _ _ => True) s X Y row hs.row hg hc, boxed_keep hs.bound hg hc, boxed_keep hs.r0 hg hc, boxed_keep hs.r1 hg hc,
    ownFrom_below (β := Unit) (Nat.le_refl _) hB () X Y row hs.low hg hr⟩
theorem NI.step {most : Int} {w X Y : World} {l : List Int} (h : NI most w X l) (st : StB (w.heap.size + 4) X Y) : NI most w Y l := by
  obtain ⟨t, u, ht, rfl⟩ := st
  obtain ⟨⟨v, hv, hrow, _⟩, h2, h3, h4, h5⟩ := h
  exact ⟨⟨v, hv.other (by omega) _, hrow.kept (grownBy_setCell' X (w.heap.size + 4) _) (.inr (ht.not_row (by decide) hrow).symm), trivial⟩, h2.other (by omega) _, h3.other (by omega) _, h4.other (by omega) _, h5.setCell (p := ⟨w.heap.size + 4, 0, none⟩) (by simp) _⟩
theorem NI.below {most : Int} {w X Y : World} {l : List Int} (h : NI most w X l) (hb : Below X.heap.size X Y) : NI most w Y l := by
  obtain ⟨⟨v, hv, hrow, _⟩, h2, h3, h4, h5⟩ := h
  exact ⟨⟨v, kept_obj hb hv, OwnI.below hrow hb, trivial⟩, kept_obj hb h2, kept_obj hb h3, kept_obj hb h4, below_up h5 hb⟩
/-- .. and when a piece was none. -/
structure NX (w W : World) : Prop where
  r0 : Go.Boxed W (w.heap.size + 1) 23 (.slice none 0 0)
  r1 : Go.Boxed W (w.heap.size + 2) 4 (.bool false)
  low : Below w.heap.size w W
theorem NX.own (w : World) {B : Nat} (hB : w.heap.size ≤ B) {X Y : World} {row : Option Nat} (hs : NX w X) (hg : X.grownBy Y row) (hr : ∀ r, row = some r → B ≤ r ∧ ∃ o : Obj, X.heap[r]? = some o ∧ o.isCells = false) : NX w Y := by
  have hc : ∀ r, row = some r → ∃ o : Obj, X.heap[r]? = some o ∧ o.isCells = false := fun r e => (hr r e).2
  exact ⟨boxed_keep hs.r0 hg hc, boxed_keep hs.r1 hg hc, ownFrom_below (β := Unit) (Nat.le_refl _) hB () X Y row hs.low hg hr⟩
theorem boxed_at (w : World) {k : Nat} (hk : w.heap.size = k) (T : TypeId) (v : Value) : Go.Boxed (w.alloc (.cells #[v] T)) k T v := by subst hk; exact Go.Boxed.new w T v
theorem keepsFrom_below {B : Nat} {X Y : World} (hb : Below X.heap.size X Y) : KeepsFrom B X Y := ⟨hb.size, fun k o _ hk _ => kept_obj hb hk⟩
theorem kpB_below {b : Nat} {X Y : World} (hb : Below X.heap.size X Y) : KpB b X Y := fun _ _ _ _ _ _ z => kept_obj hb z

set_option maxRecDepth 100000 in
set_option maxHeartbeats 4000000 in
theorem numbers_any (s : ByteArray) (hs : s.size ≤ 1050000) (most : Int) (hmost : I64 most) (w : World) : Calls Tryz.prog 89 #[.string s, .int .i64 most] w (NumsB (numsOf s most) w) := by
  rw [numsOf_is]
  have SV := Lib.hid (fun n hn w => seq_val s n hn w)
  have IT := Lib.hid (fun n hn b w h0 h1 h2 => split_tells n hn b s hs w h0 h1 h2)
  obtain ⟨i0, hi, hz0, hz1, hz2⟩ := numL.info
  refine (callsIn_wide (n := 4)).1 ?_
  refine callsIn_of_wp_marks Tryz.func89 rfl trivial ?_ rfl
  simp only [Tryz.ntmps89, List.size_toArray, List.length_cons, List.length_nil, Nat.reduceAdd, Nat.reduceSub, Array.replicate_succ, Array.replicate_zero, List.push_toArray, List.append_toArray, List.nil_append, List.cons_append]
  gi_wp2_with (refine ⟨trivial, ?_⟩; gi_at_call 101; (refine (SV.out _ (by omega) _).mono ?_); rintro e w' ⟨rfl, rfl⟩)
  obtain ⟨W0, hW0⟩ : ∃ W0, ((((((w.alloc (.cells #[.int .i64 most] 2)).alloc (.cells #[.slice none 0 0] 23)).alloc (.cells #[.bool false] 4)).alloc (.cells #[.slice none 0 0] 23)).alloc (.cells #[.string s] 9)).alloc (.cells #[.string ⟨#[44]⟩] 9)).alloc (.cells #[.int .i64 0] 3) = W0 := ⟨_, rfl⟩
  have hsz : W0.heap.size = w.heap.size + 7 := by rw [← hW0]; simp
  have c0 : Go.Boxed W0 w.heap.size 2 (.int .i64 most) := by rw [← hW0]; exact (((((((boxed_at w rfl _ _).alloc _).alloc _).alloc _).alloc _).alloc _).alloc _)
  have c1 : Go.Boxed W0 (w.heap.size + 1) 23 (.slice none 0 0) := by rw [← hW0]; exact ((((((boxed_at _ (by simp) _ _).alloc _).alloc _).alloc _).alloc _).alloc _)
  have c2 : Go.Boxed W0 (w.heap.size + 2) 4 (.bool false) := by rw [← hW0]; exact (((((boxed_at _ (by simp) _ _).alloc _).alloc _).alloc _).alloc _)
  have c3 : Go.Boxed W0 (w.heap.size + 3) 23 (.slice none 0 0) := by rw [← hW0]; exact ((((boxed_at _ (by simp) _ _).alloc _).alloc _).alloc _)
  have c4 : TextBox W0 (w.heap.size + 4) s := by rw [← hW0]; exact (((boxed_at _ (by simp) _ _).alloc _).alloc _)
  have c5 : TextBox W0 (w.heap.size + 5) ⟨#[44]⟩ := by rw [← hW0]; exact ((boxed_at _ (by simp) _ _).alloc _)
  have c6 : Go.Boxed W0 (w.heap.size + 6) 3 (.int .i64 0) := by rw [← hW0]; exact (boxed_at _ (by simp) _ _)
  have cb : Below w.heap.size w W0 := by rw [← hW0]; exact bw_alloc (bw_alloc (bw_alloc (bw_alloc (bw_alloc (bw_alloc (bw_alloc (Below.refl _ _) _) _) _) _) _) _) _
  rw [hW0]
  clear SV hW0
  refine range_tells (n := 4) (by omega) (gf := 107) (lb := #[.pointer (some ⟨w.heap.size + 5, 0, none⟩), .pointer (some ⟨w.heap.size + 4, 0, none⟩), .pointer (some ⟨w.heap.size + 6, 0, none⟩)]) rfl (enters_of Tryz.func107 (by kernel_rfl) rfl)
    (IT.out _ (by omega) (w.heap.size + 4) W0 c4 c5 c6) kpB_t kpB_b (fun X Y ⟨t, u, _, e⟩ => by subst e; exact (KeepsOthers.setCell _ _ _).from _) (fun _ => rfl)
    (fun pre W => ∃ l, numsL most (pre.map (·.1)) = some l ∧ l.length = pre.length ∧ NI most w W l)
    (fun pre W => numsL most (pre.map (·.1)) = none ∧ NX w W)
    (fun _ X Y row ⟨l, e1, e2, e3⟩ hg hr => ⟨l, e1, e2, NI.own most w (fun _ : Unit => l) (by omega) () X Y row e3 hg hr⟩)
    (fun _ X Y ⟨l, e1, e2, e3⟩ st => ⟨l, e1, e2, e3.step st⟩)
    (fun _ X Y row ⟨e1, e2⟩ hg hr => ⟨e1, NX.own w (by omega) e2 hg hr⟩)
    ⟨[], rfl, rfl, ⟨_, c3, World.ownsRow_nil _ _ _ _, trivial⟩, c0, c1, c2, cb⟩
    (fun x => { tmps := #[.string s, .int .i64 most, undef, .pointer (some ⟨w.heap.size, 0, none⟩), .pointer (some ⟨w.heap.size + 1, 0, none⟩), .pointer (some ⟨w.heap.size + 2, 0, none⟩), .pointer (some ⟨w.heap.size + 3, 0, none⟩), .string x.1, undef, undef, .string s, .func (.func 107) #[] #[.pointer (some ⟨w.heap.size + 5, 0, none⟩), .pointer (some ⟨w.heap.size + 4, 0, none⟩), .pointer (some ⟨w.heap.size + 6, 0, none⟩)], .string x.1, undef, undef, undef, undef, undef, undef, undef, undef, undef, undef, undef, undef, undef], defers := [] })
    ?assign ?body ?done ?stop
  case assign =>
    intro l x W K hK
    gi_wp2
    exact hK
  case body =>
    rintro l pre x W ⟨q, hq, hql, hN⟩ hlt
    clear IT c0 c1 c2 c3 c4 c5 c6 cb
    have hbd := hN.bound.cell
    have HN := Lib.hid hN
    have HQL := Lib.hid hql
    have hq9 : q.length ≤ 1050000 := by omega
    clear hN hql
    cases hx : numOf x.1 most with
    | none =>
      have NU : Hid (∀ w, Calls Tryz.prog 84 #[.string x.1, .int .i64 most] w fun e w' => e = .returned (.tuple #[.int .i64 0, .bool false]) ∧ Below w.heap.size w w') := fun w => by
        have := number_any x.1 (by have := x.2; omega) most hmost w
        rw [hx] at this; exact this
      have HX : Hid (numsL most ((pre ++ [x]).map (·.1)) = none) := by
        show _ = _; rw [List.map_append, List.map_singleton, numsL_snoc, hq]; simp only []; rw [hx]
      clear hx
      gi_wp2_with (refine ⟨trivial, ?_⟩; gi_at_call 84; refine (CallsIn.inRound l (callsIn_wide.2 (NU.out _))).mono ?_; rintro e w5 ⟨rfl, b5⟩; have N5 := HN.out.below b5; have k1 := N5.r0.cell; have f1 := N5.r0.frozen; have k2 := N5.r1.cell; have f2 := N5.r1.frozen)
      exact ⟨((keepsFrom_below b5).trans ((KeepsOthers.setCell _ _ _).from _)).trans ((KeepsOthers.setCell _ _ _).from _), HX.out, (N5.r0.set _).other (by omega) _, (N5.r1.other (by omega) _).set _, (N5.low.setCell (p := ⟨w.heap.size + 1, 0, none⟩) (by simp) _).setCell (p := ⟨w.heap.size + 2, 0, none⟩) (by simp) _⟩
    | some m =>
      have NU : Hid (∀ w, Calls Tryz.prog 84 #[.string x.1, .int .i64 most] w fun e w' => e = .returned (.tuple #[.int .i64 m, .bool true]) ∧ Below w.heap.size w w') := fun w => by
        have := number_any x.1 (by have := x.2; omega) most hmost w
        rw [hx] at this; exact this
      have HX : Hid (numsL most ((pre ++ [x]).map (·.1)) = some (q ++ [(m : Int)])) := by
        show _ = _; rw [List.map_append, List.map_singleton, numsL_snoc, hq]; simp only []; rw [hx]
      clear hx
      gi_wp2_with (first | (refine ⟨trivial, ?_⟩; gi_at_call 84; refine (CallsIn.inRound l (callsIn_wide.2 (NU.out _))).mono ?_; rintro e w5 ⟨rfl, b5⟩; obtain ⟨⟨v, hv, hrow, _⟩, hb0, hr0, hr1, hlow⟩ := HN.out.below b5; have hc := hv.cell) | (gi_at_builtin; refine wpListIn_append_own _ rfl _ _ 23 rfl (w.heap.size + 1) 2 i0 (.int .i64 0) 1 8 Tryz.underlying23 hi hz0 hz1 hz2 rfl (by decide) _ _ _ rfl (hrow.alloc _) ⟨w5.heap.size, 0, none⟩ 1 1 [.int .i64 (m : Int)] rfl rfl (cell_one_new _ _ _) (by simp [Value.oneCell']) (by unfold maxLen; omega) (by omega) (by have := hv.lt; simp; omega) ?_; intro v' w6 hown' hgrow _; obtain ⟨g', cap', rfl⟩ := ownsRow_succ hown'; obtain ⟨hv1, hv2, hr2, hk2, hb2⟩ := hv.appended (by decide) hrow (by have := hv.lt; omega) (by omega) hown' hgrow; have hc1 := hv1.cell; have hf1 := hv1.frozen))
      refine ⟨(keepsFrom_below b5).trans (hk2.from _), kpB_t (kpB_below b5) (fun B T u hB1 hB2 hT z => ((z.alloc _).kept hgrow (z.not_row hT hrow)).other (by omega) _), q ++ [(m : Int)], HX.out, by rw [List.length_append, List.length_append, HQL.out]; rfl, ⟨_, hv2, ?_, trivial⟩,
        ((hb0.alloc _).kept hgrow (fun e => by have := hrow.lt _ e.symm; omega)).other (by omega) _, ((hr0.alloc _).kept hgrow (hr0.not_row (by decide) hrow)).other (by omega) _, ((hr1.alloc _).kept hgrow (hr1.not_row (by decide) hrow)).other (by omega) _, hlow.trans (hb2.mono (by omega))⟩
      rw [List.length_append]
      unfold vi at hr2 ⊢
      rw [List.map_append]
      exact hr2
  case done =>
    rintro D ys W hD hS ⟨q, hq, hql, ⟨v, hv, hrow, _⟩, hb0, hr0, hr1, hlow⟩ hK
    obtain ⟨a, cp, rfl, hIn, hcp, hcm⟩ := OwnI.slice (l := q) hrow
    have hc : W.cell? ⟨w.heap.size + 1 + 1 + 1, 0, none⟩ = some (.slice a q.length cp) := hv.cell
    have HQL := Lib.hid hql
    clear hql
    have k1 := hr0.cell
    have f1 := hr0.frozen
    have k2 : W.cell? ⟨w.heap.size + 1 + 1, 0, none⟩ = some (.bool false) := hr1.cell
    have f2 : W.frozen? ⟨w.heap.size + 1 + 1, 0, none⟩ = false := hr1.frozen
    clear IT
    gi_wp2
    have hk : ((W.setCell ⟨w.heap.size + 1, 0, none⟩ (.slice a q.length cp)).setCell ⟨w.heap.size + 1 + 1, 0, none⟩ (.bool true)).heap[D]? = some (.deferred (some [])) := ((KeepsOthers.setCell _ _ _).trans (KeepsOthers.setCell _ _ _)).same D _ hK rfl
    have g1 : Go.Boxed ((W.setCell ⟨w.heap.size + 1, 0, none⟩ (.slice a q.length cp)).setCell ⟨w.heap.size + 1 + 1, 0, none⟩ (.bool true)) (w.heap.size + 1) 23 (.slice a q.length cp) := (hr0.set _).other (by omega) _
    have z2 : Go.Boxed (W.setCell ⟨w.heap.size + 1, 0, none⟩ (.slice a q.length cp)) (w.heap.size + 1 + 1) 4 (.bool false) := hr1.other (by omega) _
    have g2 : Go.Boxed ((W.setCell ⟨w.heap.size + 1, 0, none⟩ (.slice a q.length cp)).setCell ⟨w.heap.size + 1 + 1, 0, none⟩ (.bool true)) (w.heap.size + 1 + 1) 4 (.bool true) := z2.set _
    have hl2 : Below w.heap.size w ((W.setCell ⟨w.heap.size + 1, 0, none⟩ (.slice a q.length cp)).setCell ⟨w.heap.size + 1 + 1, 0, none⟩ (.bool true)) := (hlow.setCell (p := ⟨w.heap.size + 1, 0, none⟩) (by simp) _).setCell (p := ⟨w.heap.size + 1 + 1, 0, none⟩) (by simp; omega) _
    have hr9 : OwnI ((W.setCell ⟨w.heap.size + 1, 0, none⟩ (.slice a q.length cp)).setCell ⟨w.heap.size + 1 + 1, 0, none⟩ (.bool true)) 2 (w.heap.size + 1) (.slice a q.length cp) q :=
      World.ownsRow.kept (World.ownsRow.kept hrow (grownBy_setCell' _ (w.heap.size + 1) _) (.inr (hr0.not_row (by decide) hrow).symm)) (grownBy_setCell' _ (w.heap.size + 1 + 1) _) (.inr (Ne.symm (hr1.not_row (by decide) hrow)))
    generalize ((W.setCell ⟨w.heap.size + 1, 0, none⟩ (.slice a q.length cp)).setCell ⟨w.heap.size + 1 + 1, 0, none⟩ (.bool true)) = V at hk g1 g2 hl2 hr9 ⊢
    have p1 : (V.putObj D (.deferred none)).cell? ⟨w.heap.size + 1, 0, none⟩ = some (.slice a q.length cp) := Go.Boxed.cell (t := 23) ((World.putObj_heap_other (by omega)).trans g1)
    have p2 : (V.putObj D (.deferred none)).cell? ⟨w.heap.size + 1 + 1, 0, none⟩ = some (.bool true) := Go.Boxed.cell (t := 4) ((World.putObj_heap_other (by omega)).trans g2)
    have hIn2 : Ints (V.putObj D (.deferred none)) a q := by
      obtain ⟨a', c', e', hI', _⟩ := OwnI.slice (l := q) (ownsRow_putObj hr9 (.deferred none) hk rfl)
      cases e'
      exact hI'
    refine ⟨by simp, .inl ⟨_, _, rfl, run_takeDeferred hk, ?_⟩⟩
    refine ⟨.tuple #[.slice a q.length cp, .bool true], by simp [results, Tryz.results89, go_sem, p1, p2], hl2.trans (belowK_b (w := w) (Nat.le_refl _) V D _ _ (by omega) hk rfl rfl), .inr ⟨q, a, cp, ?_, rfl, hIn2, by rw [HQL.out]; have := congrArg List.length hS; rw [List.length_map] at this; have h3 := prun_len s (s.size + 1); unfold pieces at this; omega⟩⟩
    rw [← hS, hq]
  case stop =>
    rintro D pre W hD hp ⟨hx, ⟨hr0, hr1, hlow⟩⟩ hK
    have k1 := hr0.cell
    have k2 : W.cell? ⟨w.heap.size + 1 + 1, 0, none⟩ = some (.bool false) := hr1.cell
    clear IT
    gi_wp2
    have p1 : (W.putObj D (.deferred none)).cell? ⟨w.heap.size + 1, 0, none⟩ = some (.slice none 0 0) := Go.Boxed.cell (t := 23) ((World.putObj_heap_other (by omega)).trans hr0)
    have p2 : (W.putObj D (.deferred none)).cell? ⟨w.heap.size + 1 + 1, 0, none⟩ = some (.bool false) := Go.Boxed.cell (t := 4) ((World.putObj_heap_other (by omega)).trans hr1)
    refine ⟨by simp, .inl ⟨_, _, rfl, run_takeDeferred hK, ?_⟩⟩
    refine ⟨.tuple #[.slice none 0 0, .bool false], by simp [results, Tryz.results89, go_sem, p1, p2], hlow.trans (belowK_b (w := w) (Nat.le_refl _) W D _ _ (by omega) hK rfl rfl), .inl ⟨numsL_pre most hp hx, rfl⟩⟩
end Go.Proofs.YtlpffgmfgkleiaaGreatDoor

/-
  The walks over the closures that take a number, numbers, or what has a name.
-/
namespace Go.Proofs.YtlpffgmfgkleiaaGreatDoor
open Go.RowKit Go.Maps

def putN (cs : Array Value) (k : Nat) : Option Nat → Array Value
  | some n => cs.setIfInBounds k (.int .i64 n)
  | none => cs
/-- A row that lies in a block that is not below B. -/
def FreshI (B : Nat) (a : Option Addr) (l : List Int) : Prop := l = [] ∨ ∀ g o, a = some ⟨g, o, none⟩ → B ≤ g
theorem FreshI.low {B B' : Nat} {a : Option Addr} {l : List Int} (h : FreshI B a l) (hB : B' ≤ B) : FreshI B' a l := h.imp id (fun q g o e => Nat.le_trans hB (q g o e))
/-- Numbers laid down in a field. -/
def PutL (w : World) (B : Nat) (T : Nat) (TY : TypeId) (cs : Array Value) (k : Nat) : Option (List Int) → Prop
  | some l => ∃ a c, Box w T TY (cs.setIfInBounds k (.slice a l.length c)) ∧ (IsI w a l ∧ FreshI B a l) ∧ Ints w a l ∧ l.length ≤ c ∧ (c : Int) ≤ 9223372036854775807
  | none => Box w T TY cs
theorem nsrun_len (s : ByteArray) (most : Int) : ∀ i l g, nsrun s most i = some (l, g) → l.length ≤ i
  | 0, l, g, h => by simp [nsrun] at h; simp [← h.1]
  | i + 1, l, g, h => by
    rw [nsrun] at h
    cases hq : nsrun s most i with
    | none => rw [hq] at h; cases h
    | some p =>
      obtain ⟨l0, g0⟩ := p
      have ih := nsrun_len s most i l0 g0 hq
      rw [hq] at h
      simp only [] at h
      split at h
      · cases h; omega
      · split at h
        · cases h
        · cases h
          rw [List.length_append]; simp; omega
theorem numsOf_len {s : ByteArray} {most : Int} {l : List Int} (h : numsOf s most = some l) : l.length ≤ s.size + 1 := by
  unfold numsOf at h
  obtain ⟨⟨l0, g⟩, h1, h2⟩ := Option.map_eq_some_iff.1 h
  have := nsrun_len s most _ _ _ h1
  simp only at h2
  rw [← h2]; exact this
theorem nums_none {w w' : World} {e : Ending} (h : NumsB none w e w') : e = .returned (.tuple #[.slice none 0 0, .bool false]) ∧ Below w.heap.size w w' := by
  obtain ⟨b1, ⟨-, rfl⟩ | ⟨l, a, c, hl, -⟩⟩ := h
  · exact ⟨rfl, b1⟩
  · cases hl
theorem nums_some {l : List Int} {n : Nat} (hn : l.length = n) {w w' : World} {e : Ending} (h : NumsB (some l) w e w') : ∃ a c, e = .returned (.tuple #[.slice a n c, .bool true]) ∧ Ints w' a l ∧ Below w.heap.size w w' := by
  obtain ⟨b1, ⟨h0, -⟩ | ⟨l, a, c, hl, rfl, hi, -⟩⟩ := h
  · cases h0
  · cases hl
    subst hn
    exact ⟨a, c, rfl, hi, b1⟩
theorem own_put {w : World} {t : TypeId} {B n c : Nat} {a : Option Addr} {l : List Int} (ht : t = 2 ∨ t = 3) (hn : l.length = n) (ho : OwnI w t B (.slice a n c) l) {T k : Nat} {TY : TypeId} {cs : Array Value} (hT : Box w T TY cs) (hty : TY ≠ 2 ∧ TY ≠ 3) :
    PutL (w.setCell ⟨T, k, none⟩ (.slice a n c)) B T TY cs k (some l) := by
  subst hn
  have hx := ho.isI ht
  obtain ⟨a', c', e', hi', hl', hm'⟩ := ho.slice
  cases e'
  have h2 := ints_two (((Two.refl T T w)).setT (o := k) (.slice a l.length c)) hT hT hty hty hx hi'
  refine ⟨a, c, (blk_set hT _).trans rfl, ⟨h2.1, ?_⟩, h2.2, hl', hm'⟩
  cases l with
  | nil => exact .inl rfl
  | cons x l => exact .inr fun g o e => by subst e; exact (ho.new rfl).1
theorem box_cell {w : World} {T k : Nat} {TY : TypeId} {cs : Array Value} (h : Box w T TY cs) {u : Value} (hu : cs[k]? = some u) : w.cell? ⟨T, k, none⟩ = some u ∧ w.frozen? ⟨T, k, none⟩ = false :=
  ⟨(blk_cell h k).trans hu, blk_free h k⟩

set_option maxRecDepth 100000 in
set_option maxHeartbeats 2000000 in
theorem numI1_any (s : ByteArray) (hs : (s.size : Int) ≤ 9223372036854775807) (most : Int) (hm : I64 most) (mb tb T k : Nat) (TY : TypeId) (cs : Array Value) (u : Value) (w : World) (h1 : w.cell? ⟨mb, 0, none⟩ = some (.int .i64 most)) (h2 : w.cell? ⟨tb, 0, none⟩ = some (.pointer (some ⟨T, k, none⟩))) (h3 : Box w T TY cs) (hu : cs[k]? = some u) :
    Calls Tryz.prog 83 #[.string s, .pointer (some ⟨mb, 0, none⟩), .pointer (some ⟨tb, 0, none⟩)] w fun e w' => e = .returned (.bool (numOf s most).isSome) ∧ Two T T w w' ∧ Box w' T TY (putN cs k (numOf s most)) := by
  have CN := Lib.hid (number_any s hs most hm w)
  have H2 := Lib.hid h2
  have H3 := Lib.hid h3
  cases hn : numOf s most with
  | none =>
    rw [hn] at CN
    go_enter Tryz.func83, Tryz.ntmps83
    go_wp2_with (go_at_call 84; (with_reducible refine CN.out.mono ?_); rintro e w1 ⟨rfl, b1⟩; have B1 := Lib.hid b1; clear b1)
    go_ret
    exact ⟨rfl, Two.of_below B1.out, kept_obj B1.out H3.out⟩
  | some n =>
    rw [hn] at CN
    go_enter Tryz.func83, Tryz.ntmps83
    go_upto_region 3 with (go_at_call 84; (with_reducible refine CN.out.mono ?_); rintro e w1 ⟨rfl, b1⟩; have B1 := Lib.hid b1; clear b1)
    have c2 := kept_cell B1.out H2.out
    have bx := kept_obj B1.out H3.out
    obtain ⟨c3, f3⟩ := box_cell bx hu
    have HX := Lib.hid bx
    clear bx
    go_wp2_with fail
    go_ret
    exact ⟨rfl, (Two.of_below B1.out).setT _, (blk_set HX.out _).trans rfl⟩

set_option maxRecDepth 100000 in
set_option maxHeartbeats 2000000 in
theorem numQ1_any (s : ByteArray) (hs : (s.size : Int) ≤ 9223372036854775807) (most : Int) (hm : I64 most) (mb tb T k : Nat) (TY : TypeId) (cs : Array Value) (u : Value) (w : World) (h1 : w.cell? ⟨mb, 0, none⟩ = some (.int .i64 most)) (h2 : w.cell? ⟨tb, 0, none⟩ = some (.pointer (some ⟨T, k, none⟩))) (h3 : Box w T TY cs) (hu : cs[k]? = some u) :
    Calls Tryz.prog 87 #[.string s, .pointer (some ⟨mb, 0, none⟩), .pointer (some ⟨tb, 0, none⟩)] w fun e w' => e = .returned (.bool (numOf s most).isSome) ∧ Two T T w w' ∧ Box w' T TY (putN cs k (numOf s most)) := by
  have CN := Lib.hid (number_any s hs most hm w)
  have H2 := Lib.hid h2
  have H3 := Lib.hid h3
  cases hn : numOf s most with
  | none =>
    rw [hn] at CN
    go_enter Tryz.func87, Tryz.ntmps87
    go_wp2_with (go_at_call 84; (with_reducible refine CN.out.mono ?_); rintro e w1 ⟨rfl, b1⟩; have B1 := Lib.hid b1; clear b1)
    go_ret
    exact ⟨rfl, Two.of_below B1.out, kept_obj B1.out H3.out⟩
  | some n =>
    rw [hn] at CN
    go_enter Tryz.func87, Tryz.ntmps87
    go_upto_region 3 with (go_at_call 84; (with_reducible refine CN.out.mono ?_); rintro e w1 ⟨rfl, b1⟩; have B1 := Lib.hid b1; clear b1)
    have c2 := kept_cell B1.out H2.out
    have bx := kept_obj B1.out H3.out
    obtain ⟨c3, f3⟩ := box_cell bx hu
    have HX := Lib.hid bx
    clear bx
    go_wp2_with fail
    go_ret
    exact ⟨rfl, (Two.of_below B1.out).setT _, (blk_set HX.out _).trans rfl⟩

set_option maxRecDepth 100000 in
set_option maxHeartbeats 2000000 in
theorem numsQ1_any (s : ByteArray) (hs : s.size ≤ 1050000) (most : Int) (hm : I64 most) (mb tb T k : Nat) (TY : TypeId) (cs : Array Value) (u : Value) (w : World) (h1 : w.cell? ⟨mb, 0, none⟩ = some (.int .i64 most)) (h2 : w.cell? ⟨tb, 0, none⟩ = some (.pointer (some ⟨T, k, none⟩))) (h3 : Box w T TY cs) (hu : cs[k]? = some u) (ht : TY ≠ 2 ∧ TY ≠ 3) :
    Calls Tryz.prog 88 #[.string s, .pointer (some ⟨mb, 0, none⟩), .pointer (some ⟨tb, 0, none⟩)] w fun e w' => e = .returned (.bool (numsOf s most).isSome) ∧ Two T T w w' ∧ PutL w' w.heap.size T TY cs k (numsOf s most) := by
  have CN := Lib.hid (numbers_any s hs most hm w)
  have H2 := Lib.hid h2
  have H3 := Lib.hid h3
  have HLN : Hid (∀ l, numsOf s most = some l → l.length ≤ 1100000) := fun l e => by have := numsOf_len e; omega
  cases hn : numsOf s most with
  | none =>
    rw [hn] at CN
    have CN2 := Lib.hid (CN.out.mono fun _ _ h => nums_none h)
    clear CN
    go_enter Tryz.func88, Tryz.ntmps88
    go_wp2_with (go_at_call 89; (with_reducible refine CN2.out.mono ?_); rintro e w1 ⟨rfl, b1⟩; have B1 := Lib.hid b1; clear b1)
    go_ret
    exact ⟨rfl, Two.of_below B1.out, kept_obj B1.out H3.out⟩
  | some l0 =>
    have hll := HLN.out l0 hn
    obtain ⟨n, hnl⟩ : ∃ n, l0.length = n := ⟨_, rfl⟩
    rw [hnl] at hll
    rw [hn] at CN
    have CN2 := Lib.hid (CN.out.mono fun _ _ h => nums_some hnl h)
    go_enter Tryz.func88, Tryz.ntmps88
    go_upto_region 3 with (go_at_call 89; (with_reducible refine CN2.out.mono ?_); rintro e w1 ⟨a, c, rfl, hi, b1⟩; have B1 := Lib.hid b1; have HI := Lib.hid hi; clear b1 hi)
    have c2 := kept_cell B1.out H2.out
    have BX := Lib.hid (kept_obj B1.out H3.out)
    have HNL := Lib.hid hnl
    have CA : Hid (∀ v, Below w1.heap.size w1 v → Calls Tryz.prog 90 #[.slice a n c] v (AsBack 2 l0 n v)) := fun v hb => as_qq a n c l0 HNL.out (by omega) v (HI.out.below hb)
    clear hnl hn CN CN2
    go_region_law (go_simp; (with_reducible refine (CA.out _ (by repeat (first | exact Below.refl _ _ | (with_reducible assumption) | refine bw_alloc ?_ _ | refine bw_drew ?_))).mono ?_); rintro e w5 ⟨a5, k5, rfl, o5, b5⟩; have B5 := Lib.hid (below_up ((by repeat (first | exact Below.refl _ _ | (with_reducible assumption) | refine bw_alloc ?_ _ | refine bw_drew ?_)) : Below w1.heap.size w1 _) b5); have O5 := Lib.hid (o5.low (Nat.le_trans B1.out.size (((by repeat (first | exact Below.refl _ _ | (with_reducible assumption) | refine bw_alloc ?_ _ | refine bw_drew ?_)) : Below w1.heap.size w1 _).size))); have c5 := kept_cell B5.out c2; have BX5 := Lib.hid (kept_obj B5.out BX.out); obtain ⟨c3, f3⟩ := box_cell BX5.out hu; clear b5 o5)
    all_goals
      go_wp2_with fail
      go_ret
      exact ⟨rfl, ((Two.of_below B1.out).then B5.out).setT _, own_put (by first | exact .inl rfl | exact .inr rfl) HNL.out O5.out BX5.out ht⟩

set_option maxRecDepth 100000 in
set_option maxHeartbeats 2000000 in
theorem numsI1_any (s : ByteArray) (hs : s.size ≤ 1050000) (most : Int) (hm : I64 most) (mb tb T k : Nat) (TY : TypeId) (cs : Array Value) (u : Value) (w : World) (h1 : w.cell? ⟨mb, 0, none⟩ = some (.int .i64 most)) (h2 : w.cell? ⟨tb, 0, none⟩ = some (.pointer (some ⟨T, k, none⟩))) (h3 : Box w T TY cs) (hu : cs[k]? = some u) (ht : TY ≠ 2 ∧ TY ≠ 3) :
    Calls Tryz.prog 91 #[.string s, .pointer (some ⟨mb, 0, none⟩), .pointer (some ⟨tb, 0, none⟩)] w fun e w' => e = .returned (.bool (numsOf s most).isSome) ∧ Two T T w w' ∧ PutL w' w.heap.size T TY cs k (numsOf s most) := by
  have CN := Lib.hid (numbers_any s hs most hm w)
  have H2 := Lib.hid h2
  have H3 := Lib.hid h3
  have HLN : Hid (∀ l, numsOf s most = some l → l.length ≤ 1100000) := fun l e => by have := numsOf_len e; omega
  cases hn : numsOf s most with
  | none =>
    rw [hn] at CN
    have CN2 := Lib.hid (CN.out.mono fun _ _ h => nums_none h)
    clear CN
    go_enter Tryz.func91, Tryz.ntmps91
    go_wp2_with (go_at_call 89; (with_reducible refine CN2.out.mono ?_); rintro e w1 ⟨rfl, b1⟩; have B1 := Lib.hid b1; clear b1)
    go_ret
    exact ⟨rfl, Two.of_below B1.out, kept_obj B1.out H3.out⟩
  | some l0 =>
    have hll := HLN.out l0 hn
    obtain ⟨n, hnl⟩ : ∃ n, l0.length = n := ⟨_, rfl⟩
    rw [hnl] at hll
    rw [hn] at CN
    have CN2 := Lib.hid (CN.out.mono fun _ _ h => nums_some hnl h)
    go_enter Tryz.func91, Tryz.ntmps91
    go_upto_region 3 with (go_at_call 89; (with_reducible refine CN2.out.mono ?_); rintro e w1 ⟨a, c, rfl, hi, b1⟩; have B1 := Lib.hid b1; have HI := Lib.hid hi; clear b1 hi)
    have c2 := kept_cell B1.out H2.out
    have BX := Lib.hid (kept_obj B1.out H3.out)
    have HNL := Lib.hid hnl
    have CA : Hid (∀ v, Below w1.heap.size w1 v → Calls Tryz.prog 92 #[.slice a n c] v (AsBack 3 l0 n v)) := fun v hb => as_iq a n c l0 HNL.out (by omega) v (HI.out.below hb)
    clear hnl hn CN CN2
    go_region_law (go_simp; (with_reducible refine (CA.out _ (by repeat (first | exact Below.refl _ _ | (with_reducible assumption) | refine bw_alloc ?_ _ | refine bw_drew ?_))).mono ?_); rintro e w5 ⟨a5, k5, rfl, o5, b5⟩; have B5 := Lib.hid (below_up ((by repeat (first | exact Below.refl _ _ | (with_reducible assumption) | refine bw_alloc ?_ _ | refine bw_drew ?_)) : Below w1.heap.size w1 _) b5); have O5 := Lib.hid (o5.low (Nat.le_trans B1.out.size (((by repeat (first | exact Below.refl _ _ | (with_reducible assumption) | refine bw_alloc ?_ _ | refine bw_drew ?_)) : Below w1.heap.size w1 _).size))); have c5 := kept_cell B5.out c2; have BX5 := Lib.hid (kept_obj B5.out BX.out); obtain ⟨c3, f3⟩ := box_cell BX5.out hu; clear b5 o5)
    all_goals
      go_wp2_with fail
      go_ret
      exact ⟨rfl, ((Two.of_below B1.out).then B5.out).setT _, own_put (by first | exact .inl rfl | exact .inr rfl) HNL.out O5.out BX5.out ht⟩
end Go.Proofs.YtlpffgmfgkleiaaGreatDoor

/-
  The walks over what takes a word of a name.
-/
namespace Go.Proofs.YtlpffgmfgkleiaaGreatDoor
open Go.RowKit Go.Maps

set_option maxRecDepth 100000 in
theorem named_any (name : ByteArray) (say : Value) (w : World) (hsay : ∃ f a b, say = .func f a b) : Calls Tryz.prog 67 #[.string name, say] w fun e w' => ∃ nb sb, e = .returned (.func (.func 85) #[] #[.pointer (some ⟨nb, 0, none⟩), .pointer (some ⟨sb, 0, none⟩)]) ∧ w'.cell? ⟨nb, 0, none⟩ = some (.string name) ∧ w'.cell? ⟨sb, 0, none⟩ = some say ∧ Below w.heap.size w w' := by
  have hmf : ∀ (fn : Fn) (first cap : Array Value) (w : World), (Instr.makeFunc fn first cap).run Tryz.prog w = .ok (.func fn first cap) w := fun _ _ _ _ => rfl
  obtain ⟨f, a, b, rfl⟩ := hsay
  go_enter Tryz.func67, Tryz.ntmps67
  go_wp2
  go_ret
  exact ⟨w.heap.size, w.heap.size + 1, rfl, (new_first w _ _ _ 0).trans rfl, (new_second w _ _ _ 0).trans rfl, bw_alloc (bw_alloc (Below.refl _ _) _) _⟩
theorem enters_named1 (args : Array Value) (w : World) : (callFunc 85 args).run Tryz.prog w = .ok (.enter 85 args) w := by
  go_simp
theorem named_of_pair {s x y name : ByteArray} {b : Bool} (h : PairIs s x y b) : namedV s name = if b = true ∧ x = name then some y else none := by
  rcases pairOf_is h with ⟨rfl, rfl, rfl, hp⟩ | ⟨rfl, hp⟩
  · unfold namedV; rw [hp, if_neg (fun q => by cases q.1)]
  · unfold namedV; rw [hp]
    by_cases e : x = name
    · rw [if_pos ⟨rfl, e⟩]; simp only []; rw [if_pos e]
    · rw [if_neg (fun q => e q.2)]; simp only []; rw [if_neg e]
set_option maxRecDepth 100000 in
set_option maxHeartbeats 2000000 in
theorem named1_none (s name : ByteArray) (hs : (s.size : Int) ≤ 9223372036854775807) (say : Value) (nb sb : Nat) (w : World) (h1 : w.cell? ⟨nb, 0, none⟩ = some (.string name)) (h2 : w.cell? ⟨sb, 0, none⟩ = some say) (hn : namedV s name = none) :
    Calls Tryz.prog 85 #[.string s, .pointer (some ⟨nb, 0, none⟩), .pointer (some ⟨sb, 0, none⟩)] w fun e w' => e = .returned (.bool false) ∧ Below w.heap.size w w' := by
  have CP := Lib.hid (pair_any s hs w)
  have H1 := Lib.hid h1
  have HN := Lib.hid hn
  clear h1 h2 hn
  go_enter Tryz.func85, Tryz.ntmps85
  go_upto_region 2 with (go_at_call 86; (with_reducible refine CP.out.mono ?_); rintro e w1 ⟨x, y, b, rfl, hp, b1⟩; have HP := Lib.hid hp; have B1 := Lib.hid b1; clear hp b1)
  have c1 := kept_cell B1.out H1.out
  have hq := HN.out
  rw [named_of_pair HP.out] at hq
  cases b with
  | false =>
    clear hq
    go_wp2_with fail
    go_ret
    exact ⟨rfl, B1.out⟩
  | true =>
    have hne : ¬ x = name := fun q => by rw [if_pos ⟨rfl, q⟩] at hq; cases hq
    have d1 : (x.toList == name.toList) = false := by rw [beq_bytes, decide_eq_false hne]
    clear hq hne
    go_wp2_with fail
    go_ret
    exact ⟨rfl, B1.out⟩
set_option maxRecDepth 100000 in
set_option maxHeartbeats 2000000 in
theorem named1_some (s name : ByteArray) (hs : (s.size : Int) ≤ 9223372036854775807) (say : Value) (nb sb T : Nat) (w : World) (h1 : w.cell? ⟨nb, 0, none⟩ = some (.string name)) (h2 : w.cell? ⟨sb, 0, none⟩ = some say) (z : ByteArray) (hn : namedV s name = some z) (ok : Bool) (C : World → Prop)
    (hsay : ∀ v, Below w.heap.size w v → Says say v T z ok C) :
    Calls Tryz.prog 85 #[.string s, .pointer (some ⟨nb, 0, none⟩), .pointer (some ⟨sb, 0, none⟩)] w fun e w' => e = .returned (.bool ok) ∧ Two T T w w' ∧ C w' := by
  have CP := Lib.hid (pair_any s hs w)
  have H1 := Lib.hid h1
  have H2 := Lib.hid h2
  have HN := Lib.hid hn
  have HS : Hid (∀ v, Below w.heap.size w v → Says say v T z ok C) := hsay
  clear h1 h2 hn hsay
  go_enter Tryz.func85, Tryz.ntmps85
  go_upto_region 2 with (go_at_call 86; (with_reducible refine CP.out.mono ?_); rintro e w1 ⟨x, y, b, rfl, hp, b1⟩; have HP := Lib.hid hp; have B1 := Lib.hid b1; clear hp b1)
  have c1 := kept_cell B1.out H1.out
  have c2 := kept_cell B1.out H2.out
  have hq := HN.out
  rw [named_of_pair HP.out] at hq
  have hb : b = true ∧ x = name := by
    by_cases q : b = true ∧ x = name
    · exact q
    · rw [if_neg q] at hq; cases hq
  rw [if_pos hb] at hq
  obtain ⟨rfl, rfl⟩ := hb
  obtain rfl : y = z := Option.some.inj hq
  have d1 : (x.toList == x.toList) = true := by rw [beq_bytes, decide_eq_true rfl]
  obtain ⟨F, caps, rfl, henter, hcall⟩ := HS.out w1 B1.out
  have HC := Lib.hid hcall
  clear hcall hq HS HN
  go_wp2_with (go_at_fn F; (with_reducible refine HC.out.mono ?_); rintro e w2 ⟨rfl, t2, k2⟩; have T2 := Lib.hid t2; have K2 := Lib.hid k2; clear t2 k2)
  go_ret
  exact ⟨rfl, (Two.of_below B1.out).trans T2.out, K2.out⟩
end Go.Proofs.YtlpffgmfgkleiaaGreatDoor

/-
  The walks over a row's next word: one that may stand there, one that must, none.
-/
namespace Go.Proofs.YtlpffgmfgkleiaaGreatDoor
open Go.RowKit Go.Maps

theorem row_cells {w : World} {R N : Nat} {e : Int} {x : WV} {l : List WV} (h : Left w R N e (x :: l)) : ∃ g o c, w.cell? ⟨R, 0, none⟩ = some (.slice (some ⟨g, o, none⟩) (l.length + 1) c) ∧ w.cell? ⟨R, 1, none⟩ = some (.int .i64 e) ∧ Box w R RowT #[.slice (some ⟨g, o, none⟩) (l.length + 1) c, .int .i64 e] ∧ WAt w g o x ∧ g < N ∧ WIn w N (some ⟨g, o, none⟩) (x :: l) ∧ l.length + 1 ≤ c ∧ (c : Int) ≤ 9223372036854775807 := by
  obtain ⟨a, c, hb, hw, hl, hc⟩ := h
  have hw0 := hw
  rcases hw with q | ⟨g, o, rfl, hg, hv⟩
  · cases q
  · refine ⟨g, o, c, blk_cell hb 0, blk_cell hb 1, hb, ⟨hv 0 _ rfl, hv 1 _ rfl, hv 2 _ rfl⟩, hg, hw0, by simpa using hl, hc⟩
theorem win_tail {w : World} {N g o : Nat} {x : WV} {l : List WV} (h : WIn w N (some ⟨g, o, none⟩) (x :: l)) : WIn w N (some ⟨g, o + 3, none⟩) l := by
  rcases h with q | ⟨g', o', e, hg, hv⟩
  · cases q
  · cases e
    refine .inr ⟨_, _, rfl, hg, fun j u hj => ?_⟩
    have := hv (3 + j) u (by rw [wflat, List.getElem?_append_right (by rw [wcells_len]; omega), wcells_len]; rw [show 3 + j - 3 = j by omega]; exact hj)
    rwa [← Nat.add_assoc] at this
theorem wAt_below {w w' : World} {g o N : Nat} {x : WV} (h : WAt w g o x) (hb : Below N w w') (hg : g < N) : WAt w' g o x :=
  ⟨kept_cellB hb hg h.c0, kept_cellB hb hg h.c1, kept_cellB hb hg h.c2⟩

set_option maxRecDepth 100000 in
set_option maxHeartbeats 2000000 in
theorem may_nil {R N : Nat} {e : Int} {w : World} (say : Value) (h : Left w R N e []) : Calls Tryz.prog 69 #[.pointer (some ⟨R, 0, none⟩), say] w fun x w' => x = .returned (.bool false) ∧ w' = w := by
  obtain ⟨a, c, hb, hw, hl, hc⟩ := h
  have c0 := blk_cell hb 0
  simp only [List.length_nil] at c0
  have c0' : w.cell? ⟨R, 0, none⟩ = some (.slice a 0 c) := c0
  clear c0 hb
  go_enter Tryz.func69, Tryz.ntmps69
  go_wp2
  go_ret
  exact ⟨rfl, rfl⟩

set_option maxRecDepth 100000 in
set_option maxHeartbeats 4000000 in
theorem may_word {R N T : Nat} {e : Int} {w : World} {x : WV} {l : List WV} {say : Value} {ok : Bool} {C : World → Prop} (h : Left w R N e (x :: l)) (hR : N ≤ R) (hT : N ≤ T) (hN : N ≤ w.heap.size) (hne : R ≠ T) (hx : I64 x.at_) (hsz : (x.tx.size : Int) ≤ 9223372036854775807)
    (hs : Says say w T x.tx ok C) (hC : ∀ v v' cs, Box v R RowT cs → C v → Two R R v v' → C v') :
    Calls Tryz.prog 69 #[.pointer (some ⟨R, 0, none⟩), say] w fun y w' => y = .returned (.bool ok) ∧ Two R T w w' ∧ C w' ∧ Left w' R N (if ok = true then endOf x else e) (if ok = true then l else x :: l) := by
  obtain ⟨g, o, c, c0, c1, hb, ⟨z0, z1, z2⟩, hg, hv, hlc, hcm⟩ := row_cells h
  obtain ⟨F, caps, rfl, henter, hcall⟩ := hs
  have HC := Lib.hid hcall
  have HST : Hid (∀ v v' cs, Box v R RowT cs → C v → Two R R v v' → C v') := hC
  have HBX := Lib.hid hb
  have HV := Lib.hid hv
  have HL := Lib.hid h
  obtain ⟨n, hn⟩ : ∃ n, l.length = n := ⟨_, rfl⟩
  have HLN := Lib.hid hn
  rw [hn] at c0 hlc
  have hn1 : ¬ ((n + 1 : Nat) : Int) = 0 := by omega
  have hn2 : (0 : Int) < ((n + 1 : Nat) : Int) := by omega
  clear hcall hC hb hv h hn
  go_enter Tryz.func69, Tryz.ntmps69
  cases ok with
  | false =>
    go_wp2_with (go_at_fn F; (with_reducible refine HC.out.mono ?_); rintro y w2 ⟨rfl, t2, k2⟩; have T2 := Lib.hid t2; have K2 := Lib.hid k2; clear t2 k2)
    go_ret
    exact ⟨rfl, Two.ofT T2.out, K2.out, HL.out.two T2.out hN hT hne⟩
  | true =>
    go_upto_region 3 with (go_at_fn F; (with_reducible refine HC.out.mono ?_); rintro y w2 ⟨rfl, t2, k2⟩; have T2 := Lib.hid t2; have K2 := Lib.hid k2; clear t2 k2)
    have HB2 : Hid (Below N w w2) := T2.out.below hT hT hN
    have bx2 := T2.out.box HBX.out hne hne
    rw [HLN.out] at bx2
    have d0 : w2.cell? ⟨R, 0, none⟩ = some (.slice (some ⟨g, o, none⟩) (n + 1) c) := blk_cell bx2 0
    have d1 : w2.cell? ⟨R, 1, none⟩ = some (.int .i64 e) := blk_cell bx2 1
    have f0 : w2.frozen? ⟨R, 0, none⟩ = false := blk_free bx2 0
    have f1 : w2.frozen? ⟨R, 1, none⟩ = false := blk_free bx2 1
    have y0 := kept_cellB HB2.out hg z0
    have y2 := kept_cellB HB2.out hg z2
    have HBX2 := Lib.hid bx2
    clear bx2 z0 z1 z2 c0 c1
    go_still_tail 17, (by kernel_rfl)
    go_upto_region 4 with fail
    refine gen_world (fun v => Two R T w v ∧ C v ∧ Box v R RowT #[.slice (some ⟨g, o, none⟩) (n + 1) c, .int .i64 (endOf x)]) ?_ ?_
    · have q : Two R R w2 (w2.setCell ⟨R, 1, none⟩ (.int .i64 (endOf x))).drew := ((Two.refl R R w2).setT _).then (bw_drew (Below.refl _ _))
      exact ⟨(Two.ofT T2.out).trans q.weak, HST.out _ _ _ HBX2.out K2.out q, (blk_set (w := w2) HBX2.out _).trans rfl⟩
    intro w3 ⟨t3, k3, b3⟩
    have T3 := Lib.hid t3
    have K3 := Lib.hid k3
    have BX3 := Lib.hid b3
    have e0 : w3.cell? ⟨R, 0, none⟩ = some (.slice (some ⟨g, o, none⟩) (n + 1) c) := blk_cell b3 0
    have f3 : w3.frozen? ⟨R, 0, none⟩ = false := blk_free b3 0
    clear t3 k3 b3 d0 d1 f0 f1 y0 y2 K2 T2 HC HL HBX HBX2 HB2
    have h1c : (1 : Int) ≤ (c : Int) := by omega
    have h1n : (1 : Int) ≤ ((n + 1 : Nat) : Int) := by omega
    have HF : Hid (∀ (a : Option Addr) (c' : Nat), WIn w3 N a l → n ≤ c' → (c' : Int) ≤ 9223372036854775807 → Two R T w (w3.setCell ⟨R, 0, none⟩ (.slice a n c')) ∧ C (w3.setCell ⟨R, 0, none⟩ (.slice a n c')) ∧ Left (w3.setCell ⟨R, 0, none⟩ (.slice a n c')) R N (endOf x) l) := fun a c' hw hl hm => by
      have q : Two R R w3 (w3.setCell ⟨R, 0, none⟩ (.slice a n c')) := (Two.refl R R w3).setT _
      have hN3 : N ≤ w3.heap.size := Nat.le_trans hN T3.out.size
      exact ⟨T3.out.setR _, HST.out _ _ _ BX3.out K3.out q, a, c', by rw [HLN.out]; exact (blk_set BX3.out _).trans rfl, hw.below (q.below hR hR hN3), by rw [HLN.out]; exact hl, hm⟩
    have HVT : Hid (WIn w3 N (some ⟨g, o + 3, none⟩) l) := win_tail (HV.out.below (T3.out.below hR hT hN))
    by_cases hc1 : c = 1
    · subst hc1
      have hn0 : n = 0 := by omega
      have hl0 : l = [] := List.length_eq_zero_iff.1 (HLN.out.trans hn0)
      have HF2 := Lib.hid (HF.out (some ⟨g, o, none⟩) 0 (.inl hl0) (by omega) (by omega))
      subst hn0
      clear HF HST HV hl0 HVT
      go_wp2_with fail
      go_ret
      exact ⟨rfl, HF2.out.1, HF2.out.2.1, HF2.out.2.2⟩
    · have HF2 := Lib.hid (HF.out (some ⟨g, o + 3, none⟩) (c - 1) HVT.out (by omega) (by omega))
      have hcn : ¬ (1 : Int) = (c : Int) := by omega
      have hcn2 : ((c : Int) - 1).toNat = c - 1 := by omega
      clear HF HST HV HVT
      go_wp2_with fail
      go_ret
      exact ⟨rfl, HF2.out.1, HF2.out.2.1, HF2.out.2.2⟩
end Go.Proofs.YtlpffgmfgkleiaaGreatDoor

/-
  The walks over what must stand in a row, and over its end.
-/
namespace Go.Proofs.YtlpffgmfgkleiaaGreatDoor
open Go.RowKit Go.Maps

set_option maxRecDepth 100000 in
set_option maxHeartbeats 2000000 in
theorem fail_word {R N : Nat} {e : Int} {w : World} {x : WV} {l : List WV} (h : Left w R N e (x :: l)) : Calls Tryz.prog 81 #[.pointer (some ⟨R, 0, none⟩)] w fun y w' => Panics x.at_ 10 y ∧ w' = w := by
  obtain ⟨g, o, c, c0, c1, hb, ⟨z0, z1, z2⟩, hg, hv, hlc, hcm⟩ := row_cells h
  have hn2 : (0 : Int) < ((l.length + 1 : Nat) : Int) := by omega
  clear hb hv h
  go_enter Tryz.func81, Tryz.ntmps81
  go_wp2
  exact ⟨rfl, rfl, rfl⟩
set_option maxRecDepth 100000 in
set_option maxHeartbeats 2000000 in
theorem fail_nil {R N : Nat} {e : Int} {w : World} (h : Left w R N e []) : Calls Tryz.prog 81 #[.pointer (some ⟨R, 0, none⟩)] w fun y w' => Panics e 10 y ∧ w' = w := by
  obtain ⟨a, c, hb, hw, hl, hc⟩ := h
  have c0 : w.cell? ⟨R, 0, none⟩ = some (.slice a 0 c) := blk_cell hb 0
  have c1 : w.cell? ⟨R, 1, none⟩ = some (.int .i64 e) := blk_cell hb 1
  clear hb
  go_enter Tryz.func81, Tryz.ntmps81
  go_wp2
  exact ⟨rfl, rfl, rfl⟩
set_option maxRecDepth 100000 in
set_option maxHeartbeats 2000000 in
theorem over_nil {R N : Nat} {e : Int} {w : World} (h : Left w R N e []) : Calls Tryz.prog 72 #[.pointer (some ⟨R, 0, none⟩)] w fun y w' => y = .returned (.tuple #[]) ∧ w' = w := by
  obtain ⟨a, c, hb, hw, hl, hc⟩ := h
  have c0 : w.cell? ⟨R, 0, none⟩ = some (.slice a 0 c) := blk_cell hb 0
  clear hb
  go_enter Tryz.func72, Tryz.ntmps72
  go_wp2
  go_end0
  exact ⟨rfl, rfl⟩
set_option maxRecDepth 100000 in
set_option maxHeartbeats 2000000 in
theorem over_word {R N : Nat} {e : Int} {w : World} {x : WV} {l : List WV} (h : Left w R N e (x :: l)) : Calls Tryz.prog 72 #[.pointer (some ⟨R, 0, none⟩)] w fun y w' => Panics x.at_ 10 y ∧ w' = w := by
  obtain ⟨g, o, c, c0, c1, hb, -, hg, hv, hlc, hcm⟩ := row_cells h
  have hn2 : (0 : Int) < ((l.length + 1 : Nat) : Int) := by omega
  have CF := Lib.hid (fail_word h)
  clear hb hv h
  go_enter Tryz.func72, Tryz.ntmps72
  go_wp2_with (go_at_call 81; (with_reducible refine CF.out.mono ?_); rintro y w2 ⟨rfl, rfl⟩)
  exact ⟨rfl, rfl, rfl⟩
set_option maxRecDepth 100000 in
set_option maxHeartbeats 2000000 in
theorem must_nil {R N : Nat} {e : Int} {w : World} (say : Value) (h : Left w R N e []) : Calls Tryz.prog 64 #[.pointer (some ⟨R, 0, none⟩), say] w fun y w' => Panics e 10 y ∧ w' = w := by
  have CM := Lib.hid (may_nil say h)
  have CF := Lib.hid (fail_nil h)
  go_enter Tryz.func64, Tryz.ntmps64
  go_wp2_with (first
    | (go_at_call 69; (with_reducible refine CM.out.mono ?_); rintro y w2 ⟨rfl, rfl⟩)
    | (go_at_call 81; (with_reducible refine CF.out.mono ?_); rintro y w2 ⟨rfl, rfl⟩))
  exact ⟨rfl, rfl, rfl⟩
/-- What a word that must stand there does. -/
def MustIs (R N T : Nat) (e : Int) (x : WV) (l : List WV) (ok : Bool) (C : World → Prop) (w : World) (y : Ending) (w' : World) : Prop :=
  if ok = true then y = .returned (.tuple #[]) ∧ Two R T w w' ∧ C w' ∧ Left w' R N (endOf x) l else Panics x.at_ 10 y ∧ Two R T w w'
set_option maxRecDepth 100000 in
set_option maxHeartbeats 2000000 in
theorem must_word {R N T : Nat} {e : Int} {w : World} {x : WV} {l : List WV} {say : Value} {ok : Bool} {C : World → Prop} (h : Left w R N e (x :: l)) (hR : N ≤ R) (hT : N ≤ T) (hN : N ≤ w.heap.size) (hne : R ≠ T) (hx : I64 x.at_) (hsz : (x.tx.size : Int) ≤ 9223372036854775807)
    (hs : Says say w T x.tx ok C) (hC : ∀ v v' cs, Box v R RowT cs → C v → Two R R v v' → C v') :
    Calls Tryz.prog 64 #[.pointer (some ⟨R, 0, none⟩), say] w (MustIs R N T e x l ok C w) := by
  have CM := Lib.hid (may_word h hR hT hN hne hx hsz hs hC)
  unfold MustIs
  clear h hs hC
  cases ok with
  | false =>
    go_enter Tryz.func64, Tryz.ntmps64
    go_wp2_with (first
      | (go_at_call 69; (with_reducible refine CM.out.mono ?_); rintro y w2 ⟨rfl, t2, -, l2⟩; have T2 := Lib.hid t2; have L2 := Lib.hid l2; clear t2 l2)
      | (go_at_call 81; (with_reducible refine (fail_word L2.out).mono ?_); rintro y w3 ⟨rfl, rfl⟩))
    exact ⟨rfl, rfl, T2.out⟩
  | true =>
    go_enter Tryz.func64, Tryz.ntmps64
    go_wp2_with (go_at_call 69; (with_reducible refine CM.out.mono ?_); rintro y w2 ⟨rfl, t2, k2, l2⟩; have T2 := Lib.hid t2; have K2 := Lib.hid k2; have L2 := Lib.hid l2; clear t2 k2 l2)
    go_end0
    exact ⟨rfl, T2.out, K2.out, L2.out⟩
end Go.Proofs.YtlpffgmfgkleiaaGreatDoor

/-
  What must, or may, stand at a place of a row: what is taken there.
-/
namespace Go.Proofs.YtlpffgmfgkleiaaGreatDoor
open Go.RowKit Go.Maps

theorem drop_some {W : List WV} {i : Nat} {x : WV} (h : W[i]? = some x) : W.drop i = x :: W.drop (i + 1) := by
  obtain ⟨h2, h3⟩ := List.getElem?_eq_some_iff.1 h
  rw [List.drop_eq_getElem_cons h2, h3]
theorem drop_none {W : List WV} {i : Nat} (h : W[i]? = none) : W.drop i = [] := List.drop_eq_nil_iff.2 (List.getElem?_eq_none_iff.1 h)
/-- Words whose places and sizes are no greater than a machine has. -/
def WordsOk (W : List WV) : Prop := ∀ x ∈ W, I64 x.at_ ∧ x.tx.size ≤ 1050000
def MustAt (W : List WV) (R N T i : Nat) (ok : Bool) (C : World → Prop) (w : World) (y : Ending) (w' : World) : Prop :=
  if ok = true then y = .returned (.tuple #[]) ∧ Two R T w w' ∧ C w' ∧ Left w' R N (endAt W (i + 1)) (W.drop (i + 1)) else Panics (placeAt W i) 10 y ∧ Two R T w w'
theorem must_at {W : List WV} {R N T i : Nat} {w : World} {say : Value} {ok : Bool} {C : World → Prop} (hW : WordsOk W) (hi : i ≤ W.length) (h : Left w R N (endAt W i) (W.drop i)) (hR : N ≤ R) (hT : N ≤ T) (hN : N ≤ w.heap.size) (hne : R ≠ T)
    (hno : W[i]? = none → ok = false) (hs : ∀ x, W[i]? = some x → Says say w T x.tx ok C) (hC : ∀ v v' cs, Box v R RowT cs → C v → Two R R v v' → C v') :
    Calls Tryz.prog 64 #[.pointer (some ⟨R, 0, none⟩), say] w (MustAt W R N T i ok C w) := by
  cases hx : W[i]? with
  | none =>
    have hi2 : i = W.length := by have := List.getElem?_eq_none_iff.1 hx; omega
    rw [drop_none hx] at h
    obtain rfl := hno hx
    refine (must_nil say h).mono fun y w' ⟨h1, h2⟩ => ?_
    unfold MustAt
    rw [if_neg (by decide)]
    subst h2
    refine ⟨?_, Two.refl _ _ _⟩
    rw [placeAt_none (by omega), ← hi2]
    exact h1
  | some x =>
    rw [drop_some hx] at h
    obtain ⟨q1, q2⟩ := hW x (List.mem_of_getElem? hx)
    refine (must_word h hR hT hN hne q1 (by omega) (hs x hx) hC).mono fun y w' hm => ?_
    unfold MustIs at hm
    unfold MustAt
    rw [placeAt_some hx, endAt_succ hx]
    exact hm
theorem may_at {W : List WV} {R N T i : Nat} {w : World} {say : Value} {ok : Bool} {C : World → Prop} (hW : WordsOk W) (h : Left w R N (endAt W i) (W.drop i)) (hR : N ≤ R) (hT : N ≤ T) (hN : N ≤ w.heap.size) (hne : R ≠ T)
    (hno : W[i]? = none → ok = false ∧ C w) (hs : ∀ x, W[i]? = some x → Says say w T x.tx ok C) (hC : ∀ v v' cs, Box v R RowT cs → C v → Two R R v v' → C v') :
    Calls Tryz.prog 69 #[.pointer (some ⟨R, 0, none⟩), say] w fun y w' => y = .returned (.bool ok) ∧ Two R T w w' ∧ C w' ∧ Left w' R N (endAt W (if ok = true then i + 1 else i)) (W.drop (if ok = true then i + 1 else i)) := by
  cases hx : W[i]? with
  | none =>
    obtain ⟨rfl, hc⟩ := hno hx
    have h0 := h
    rw [drop_none hx] at h0
    refine (may_nil say h0).mono fun y w' ⟨h1, h2⟩ => ?_
    subst h2
    exact ⟨h1, Two.refl _ _ _, hc, h⟩
  | some x =>
    have h0 := h
    rw [drop_some hx] at h0
    obtain ⟨q1, q2⟩ := hW x (List.mem_of_getElem? hx)
    refine (may_word h0 hR hT hN hne q1 (by omega) (hs x hx) hC).mono fun y w' ⟨h1, h2, h3, h4⟩ => ⟨h1, h2, h3, ?_⟩
    cases ok with
    | true =>
      rw [if_pos rfl, if_pos rfl] at h4
      rw [if_pos rfl, endAt_succ hx]; exact h4
    | false =>
      rw [if_neg (by decide), if_neg (by decide)] at h4
      rw [if_neg (by decide), drop_some hx]; exact h4

/-! ### what is said of a word -/
theorem says_text {w : World} {b T : Nat} {t s : ByteArray} (h : w.cell? ⟨b, 0, none⟩ = some (.string t)) {C : World → Prop} (hc : C w) : Says (.func (.func 82) #[] #[.pointer (some ⟨b, 0, none⟩)]) w T s (decide (s = t)) C :=
  ⟨_, _, rfl, enters_text1, (text1_any s t b w h).mono fun e w' ⟨h1, h2⟩ => ⟨by rw [h1, beq_bytes], by rw [h2]; exact Two.refl _ _ _, by rw [h2]; exact hc⟩⟩
theorem putL_two {R T k : Nat} {TY : TypeId} {v v' : World} {cs c1 : Array Value} {B : Nat} {o : Option (List Int)} (hne : T ≠ R) (hty : TY ≠ 2 ∧ TY ≠ 3) (hR : Box v R RowT c1) (h : PutL v B T TY cs k o) (h2 : Two R R v v') : PutL v' B T TY cs k o := by
  cases o with
  | none => exact h2.box h hne hne
  | some l =>
    obtain ⟨a, c, hb, ⟨hi, hn⟩, hv, hl, hm⟩ := h
    have q := ints_two h2 hR hR (by decide) (by decide) hi hv
    exact ⟨a, c, h2.box hb hne hne, ⟨q.1, hn⟩, q.2, hl, hm⟩
theorem putL_low {B B' T k : Nat} {TY : TypeId} {v : World} {cs : Array Value} {o : Option (List Int)} (h : PutL v B T TY cs k o) (hB : B' ≤ B) : PutL v B' T TY cs k o := by
  cases o with
  | none => exact h
  | some l =>
    obtain ⟨a, c, hb, ⟨hi, hn⟩, r⟩ := h
    exact ⟨a, c, hb, ⟨hi, hn.low hB⟩, r⟩

theorem says_numI {w : World} {v : Value} {T k : Nat} {TY : TypeId} {cs : Array Value} {u : Value} {most : Int} {s : ByteArray} (h : TakesAt 83 v w ⟨T, k, none⟩ most) (hm : I64 most) (hs : s.size ≤ 1050000) (hb : Box w T TY cs) (hu : cs[k]? = some u) :
    Says v w T s (numOf s most).isSome (fun w' => Box w' T TY (putN cs k (numOf s most))) := by
  obtain ⟨mb, tb, rfl, h1, h2⟩ := h
  exact ⟨_, _, rfl, enters_numI1, numI1_any s (by omega) most hm mb tb T k TY cs u w h1 h2 hb hu⟩
theorem says_named_numI {w : World} {v : Value} {nb sb T k : Nat} {TY : TypeId} {cs : Array Value} {u : Value} {most : Int} {s name : ByteArray} (hn : w.cell? ⟨nb, 0, none⟩ = some (.string name)) (hsb : w.cell? ⟨sb, 0, none⟩ = some v)
    (h : TakesAt 83 v w ⟨T, k, none⟩ most) (hm : I64 most) (hs : s.size ≤ 1050000) (hb : Box w T TY cs) (hu : cs[k]? = some u) :
    Says (.func (.func 85) #[] #[.pointer (some ⟨nb, 0, none⟩), .pointer (some ⟨sb, 0, none⟩)]) w T s ((namedV s name).bind fun z => numOf z most).isSome (fun w' => Box w' T TY (putN cs k ((namedV s name).bind fun z => numOf z most))) := by
  refine ⟨_, _, rfl, enters_named1, ?_⟩
  cases hq : namedV s name with
  | none => exact (named1_none s name (by omega) v nb sb w hn hsb hq).mono fun e w' ⟨h1, h2⟩ => ⟨h1, Two.of_below h2, kept_obj h2 hb⟩
  | some z =>
    have hz := namedV_size hq
    exact named1_some s name (by omega) v nb sb T w hn hsb z hq _ _ fun w2 hb2 => says_numI (h.below hb2) hm (by omega) (kept_obj hb2 hb) hu

theorem says_numQ {w : World} {v : Value} {T k : Nat} {TY : TypeId} {cs : Array Value} {u : Value} {most : Int} {s : ByteArray} (h : TakesAt 87 v w ⟨T, k, none⟩ most) (hm : I64 most) (hs : s.size ≤ 1050000) (hb : Box w T TY cs) (hu : cs[k]? = some u) :
    Says v w T s (numOf s most).isSome (fun w' => Box w' T TY (putN cs k (numOf s most))) := by
  obtain ⟨mb, tb, rfl, h1, h2⟩ := h
  exact ⟨_, _, rfl, enters_numQ1, numQ1_any s (by omega) most hm mb tb T k TY cs u w h1 h2 hb hu⟩
theorem says_named_numQ {w : World} {v : Value} {nb sb T k : Nat} {TY : TypeId} {cs : Array Value} {u : Value} {most : Int} {s name : ByteArray} (hn : w.cell? ⟨nb, 0, none⟩ = some (.string name)) (hsb : w.cell? ⟨sb, 0, none⟩ = some v)
    (h : TakesAt 87 v w ⟨T, k, none⟩ most) (hm : I64 most) (hs : s.size ≤ 1050000) (hb : Box w T TY cs) (hu : cs[k]? = some u) :
    Says (.func (.func 85) #[] #[.pointer (some ⟨nb, 0, none⟩), .pointer (some ⟨sb, 0, none⟩)]) w T s ((namedV s name).bind fun z => numOf z most).isSome (fun w' => Box w' T TY (putN cs k ((namedV s name).bind fun z => numOf z most))) := by
  refine ⟨_, _, rfl, enters_named1, ?_⟩
  cases hq : namedV s name with
  | none => exact (named1_none s name (by omega) v nb sb w hn hsb hq).mono fun e w' ⟨h1, h2⟩ => ⟨h1, Two.of_below h2, kept_obj h2 hb⟩
  | some z =>
    have hz := namedV_size hq
    exact named1_some s name (by omega) v nb sb T w hn hsb z hq _ _ fun w2 hb2 => says_numQ (h.below hb2) hm (by omega) (kept_obj hb2 hb) hu

theorem says_named_numsI {w : World} {v : Value} {nb sb T k : Nat} {TY : TypeId} {cs : Array Value} {u : Value} {most : Int} {s name : ByteArray} (hn : w.cell? ⟨nb, 0, none⟩ = some (.string name)) (hsb : w.cell? ⟨sb, 0, none⟩ = some v)
    (h : TakesAt 91 v w ⟨T, k, none⟩ most) (hm : I64 most) (hs : s.size ≤ 1050000) (hb : Box w T TY cs) (hu : cs[k]? = some u) (hty : TY ≠ 2 ∧ TY ≠ 3) {B : Nat} (hB : B ≤ w.heap.size) :
    Says (.func (.func 85) #[] #[.pointer (some ⟨nb, 0, none⟩), .pointer (some ⟨sb, 0, none⟩)]) w T s ((namedV s name).bind fun z => numsOf z most).isSome (fun w' => PutL w' B T TY cs k ((namedV s name).bind fun z => numsOf z most)) := by
  refine ⟨_, _, rfl, enters_named1, ?_⟩
  cases hq : namedV s name with
  | none => exact (named1_none s name (by omega) v nb sb w hn hsb hq).mono fun e w' ⟨h1, h2⟩ => ⟨h1, Two.of_below h2, kept_obj h2 hb⟩
  | some z =>
    have hz := namedV_size hq
    refine named1_some s name (by omega) v nb sb T w hn hsb z hq _ _ fun w2 hb2 => ?_
    obtain ⟨mb, tb, rfl, h1, h2⟩ := h.below hb2
    exact ⟨_, _, rfl, enters_numsI1, (numsI1_any z (by omega) most hm mb tb T k TY cs u w2 h1 h2 (kept_obj hb2 hb) hu hty).mono fun e w' ⟨q1, q2, q3⟩ => ⟨q1, q2, putL_low q3 (Nat.le_trans hB hb2.size)⟩⟩

theorem says_named_numsQ {w : World} {v : Value} {nb sb T k : Nat} {TY : TypeId} {cs : Array Value} {u : Value} {most : Int} {s name : ByteArray} (hn : w.cell? ⟨nb, 0, none⟩ = some (.string name)) (hsb : w.cell? ⟨sb, 0, none⟩ = some v)
    (h : TakesAt 88 v w ⟨T, k, none⟩ most) (hm : I64 most) (hs : s.size ≤ 1050000) (hb : Box w T TY cs) (hu : cs[k]? = some u) (hty : TY ≠ 2 ∧ TY ≠ 3) {B : Nat} (hB : B ≤ w.heap.size) :
    Says (.func (.func 85) #[] #[.pointer (some ⟨nb, 0, none⟩), .pointer (some ⟨sb, 0, none⟩)]) w T s ((namedV s name).bind fun z => numsOf z most).isSome (fun w' => PutL w' B T TY cs k ((namedV s name).bind fun z => numsOf z most)) := by
  refine ⟨_, _, rfl, enters_named1, ?_⟩
  cases hq : namedV s name with
  | none => exact (named1_none s name (by omega) v nb sb w hn hsb hq).mono fun e w' ⟨h1, h2⟩ => ⟨h1, Two.of_below h2, kept_obj h2 hb⟩
  | some z =>
    have hz := namedV_size hq
    refine named1_some s name (by omega) v nb sb T w hn hsb z hq _ _ fun w2 hb2 => ?_
    obtain ⟨mb, tb, rfl, h1, h2⟩ := h.below hb2
    exact ⟨_, _, rfl, enters_numsQ1, (numsQ1_any z (by omega) most hm mb tb T k TY cs u w2 h1 h2 (kept_obj hb2 hb) hu hty).mono fun e w' ⟨q1, q2, q3⟩ => ⟨q1, q2, putL_low q3 (Nat.le_trans hB hb2.size)⟩⟩
end Go.Proofs.YtlpffgmfgkleiaaGreatDoor

/-
  The stages of a row that is read: what each word of it leaves behind.
-/
namespace Go.Proofs.YtlpffgmfgkleiaaGreatDoor
open Go.RowKit Go.Maps

/-- Where a row that is read stands: at that place, with that laid down. -/
structure Stg (W : List WV) (R N : Nat) (w0 : World) (TY : TypeId) (i : Nat) (cs : Array Value) (w : World) : Prop where
  two : Two R R w0 w
  left : Left w R N (endAt W i) (W.drop i)
  box : Box w w0.heap.size TY cs
/-- A block that was new from the start may turn. -/
theorem Two.news {R : Nat} {w0 w w' : World} (h : Two R R w0 w) (k : Two R w0.heap.size w w') : Two R R w0 w' :=
  ⟨k.os.trans h.os, k.tape.trans h.tape, k.output.trans h.output, Nat.le_trans h.size k.size, fun b hb h1 _ => (k.block b (Nat.lt_of_lt_of_le hb h.size) h1 (Nat.ne_of_lt hb)).trans (h.block b hb h1 h1)⟩
/-- What does not change while a row is read. -/
structure Fix (W : List WV) (R N : Nat) (w0 : World) : Prop where
  words : WordsOk W
  hR : N ≤ R
  lt : R < w0.heap.size
theorem Fix.hN {W : List WV} {R N : Nat} {w0 : World} (h : Fix W R N w0) : N ≤ w0.heap.size := Nat.le_trans h.hR (Nat.le_of_lt h.lt)
theorem Fix.ne {W : List WV} {R N : Nat} {w0 : World} (h : Fix W R N w0) : R ≠ w0.heap.size := Nat.ne_of_lt h.lt
theorem Stg.below {W : List WV} {R N : Nat} {w0 w w' : World} {TY : TypeId} {i : Nat} {cs : Array Value} (h : Stg W R N w0 TY i cs w) (hf : Fix W R N w0) (hb : Below w.heap.size w w') : Stg W R N w0 TY i cs w' :=
  ⟨h.two.then hb, h.left.below hb (Nat.le_trans hf.hN h.two.size), kept_obj hb h.box⟩
theorem box_row {R T : Nat} {TY : TypeId} {cs : Array Value} (hne : T ≠ R) : ∀ (v v' : World) (c1 : Array Value), Box v R RowT c1 → Box v T TY cs → Two R R v v' → Box v' T TY cs := fun _ _ _ _ hb h2 => h2.box hb hne hne
/-- What one step of a row does: it goes on, or panics at that place. -/
def StepIs (W : List WV) (R N : Nat) (w0 : World) (TY : TypeId) (i : Nat) (o : Option (Array Value)) (y : Ending) (w' : World) : Prop := match o with
  | some cs => y = .returned (.tuple #[]) ∧ Stg W R N w0 TY (i + 1) cs w'
  | none => Panics (placeAt W i) 10 y ∧ Two R R w0 w'
theorem step_text {W : List WV} {R N b i : Nat} {w0 w w' : World} {TY : TypeId} {cs : Array Value} {t : ByteArray} (hf : Fix W R N w0) (h : Stg W R N w0 TY i cs w) (hi : i ≤ W.length) (hb : Below w.heap.size w w') (hc : w'.cell? ⟨b, 0, none⟩ = some (.string t)) :
    Calls Tryz.prog 64 #[.pointer (some ⟨R, 0, none⟩), .func (.func 82) #[] #[.pointer (some ⟨b, 0, none⟩)]] w' (StepIs W R N w0 TY i (if wordAt W i = some t then some cs else none)) := by
  have h1 := h.below hf hb
  refine (must_at (T := w0.heap.size) (ok := decide (wordAt W i = some t)) (C := fun v => Box v w0.heap.size TY cs) hf.words hi h1.left hf.hR hf.hN (Nat.le_trans hf.hN h1.two.size) hf.ne ?_ ?_ (box_row hf.ne.symm)).mono ?_
  · intro hx
    rw [decide_eq_false]
    unfold wordAt; rw [hx]; simp
  · intro x hx
    have e : decide (wordAt W i = some t) = decide (x.tx = t) := by rw [wordAt_some hx]; simp
    rw [e]
    exact says_text hc h1.box
  · intro y w2 hm
    unfold MustAt at hm
    unfold StepIs
    by_cases q : wordAt W i = some t
    · rw [if_pos (by rw [decide_eq_true q])] at hm
      rw [if_pos q]
      exact ⟨hm.1, h1.two.news hm.2.1, hm.2.2.2, hm.2.2.1⟩
    · rw [if_neg (by rw [decide_eq_false q]; decide)] at hm
      rw [if_neg q]
      exact ⟨hm.1, h1.two.news hm.2⟩

theorem step_numI {W : List WV} {R N i k : Nat} {w0 w w' : World} {TY : TypeId} {cs : Array Value} {u v : Value} {most : Int} (hf : Fix W R N w0) (h : Stg W R N w0 TY i cs w) (hi : i ≤ W.length) (hb : Below w.heap.size w w') (ht : TakesAt 83 v w' ⟨w0.heap.size, k, none⟩ most) (hm : I64 most) (hu : cs[k]? = some u) :
    Calls Tryz.prog 64 #[.pointer (some ⟨R, 0, none⟩), v] w' (StepIs W R N w0 TY i ((((wordAt W i).bind fun s => numOf s most) : Option Nat).map fun (n : Nat) => cs.setIfInBounds k (.int .i64 n))) := by
  have h1 := h.below hf hb
  obtain ⟨o, ho⟩ : ∃ o, ((wordAt W i).bind fun s => numOf s most) = o := ⟨_, rfl⟩
  rw [ho]
  refine (must_at (T := w0.heap.size) (ok := o.isSome) (C := fun v => Box v w0.heap.size TY (putN cs k o)) hf.words hi h1.left hf.hR hf.hN (Nat.le_trans hf.hN h1.two.size) hf.ne ?_ ?_ (box_row hf.ne.symm)).mono ?_
  · intro hx
    rw [← ho]
    unfold wordAt; rw [hx]; rfl
  · intro x hx
    obtain ⟨-, q2⟩ := hf.words x (List.mem_of_getElem? hx)
    have e : numOf x.tx most = o := by rw [← ho]; rw [wordAt_some hx]; rfl
    rw [← e]
    exact says_numI ht hm q2 h1.box hu
  · intro y w2 hm
    unfold MustAt at hm
    unfold StepIs
    cases o with
    | some n =>
      rw [if_pos (show (some n).isSome = true from rfl)] at hm
      exact ⟨hm.1, h1.two.news hm.2.1, hm.2.2.2, hm.2.2.1⟩
    | none =>
      rw [if_neg (show ¬ (none : Option Nat).isSome = true by decide)] at hm
      exact ⟨hm.1, h1.two.news hm.2⟩

theorem step_numQ {W : List WV} {R N i k : Nat} {w0 w w' : World} {TY : TypeId} {cs : Array Value} {u v : Value} {most : Int} (hf : Fix W R N w0) (h : Stg W R N w0 TY i cs w) (hi : i ≤ W.length) (hb : Below w.heap.size w w') (ht : TakesAt 87 v w' ⟨w0.heap.size, k, none⟩ most) (hm : I64 most) (hu : cs[k]? = some u) :
    Calls Tryz.prog 64 #[.pointer (some ⟨R, 0, none⟩), v] w' (StepIs W R N w0 TY i ((((wordAt W i).bind fun s => numOf s most) : Option Nat).map fun (n : Nat) => cs.setIfInBounds k (.int .i64 n))) := by
  have h1 := h.below hf hb
  obtain ⟨o, ho⟩ : ∃ o, ((wordAt W i).bind fun s => numOf s most) = o := ⟨_, rfl⟩
  rw [ho]
  refine (must_at (T := w0.heap.size) (ok := o.isSome) (C := fun v => Box v w0.heap.size TY (putN cs k o)) hf.words hi h1.left hf.hR hf.hN (Nat.le_trans hf.hN h1.two.size) hf.ne ?_ ?_ (box_row hf.ne.symm)).mono ?_
  · intro hx
    rw [← ho]
    unfold wordAt; rw [hx]; rfl
  · intro x hx
    obtain ⟨-, q2⟩ := hf.words x (List.mem_of_getElem? hx)
    have e : numOf x.tx most = o := by rw [← ho]; rw [wordAt_some hx]; rfl
    rw [← e]
    exact says_numQ ht hm q2 h1.box hu
  · intro y w2 hm
    unfold MustAt at hm
    unfold StepIs
    cases o with
    | some n =>
      rw [if_pos (show (some n).isSome = true from rfl)] at hm
      exact ⟨hm.1, h1.two.news hm.2.1, hm.2.2.2, hm.2.2.1⟩
    | none =>
      rw [if_neg (show ¬ (none : Option Nat).isSome = true by decide)] at hm
      exact ⟨hm.1, h1.two.news hm.2⟩

theorem step_named_numI {W : List WV} {R N i k nb sb : Nat} {w0 w w' : World} {TY : TypeId} {cs : Array Value} {u v : Value} {most : Int} {name : ByteArray} (hf : Fix W R N w0) (h : Stg W R N w0 TY i cs w) (hi : i ≤ W.length) (hb : Below w.heap.size w w') (hn : w'.cell? ⟨nb, 0, none⟩ = some (.string name)) (hsb : w'.cell? ⟨sb, 0, none⟩ = some v) (ht : TakesAt 83 v w' ⟨w0.heap.size, k, none⟩ most) (hm : I64 most) (hu : cs[k]? = some u) :
    Calls Tryz.prog 64 #[.pointer (some ⟨R, 0, none⟩), .func (.func 85) #[] #[.pointer (some ⟨nb, 0, none⟩), .pointer (some ⟨sb, 0, none⟩)]] w' (StepIs W R N w0 TY i ((numAt W i name most : Option Nat).map fun (n : Nat) => cs.setIfInBounds k (.int .i64 n))) := by
  have h1 := h.below hf hb
  obtain ⟨o, ho⟩ : ∃ o, numAt W i name most = o := ⟨_, rfl⟩
  rw [ho]
  refine (must_at (T := w0.heap.size) (ok := o.isSome) (C := fun v => Box v w0.heap.size TY (putN cs k o)) hf.words hi h1.left hf.hR hf.hN (Nat.le_trans hf.hN h1.two.size) hf.ne ?_ ?_ (box_row hf.ne.symm)).mono ?_
  · intro hx
    rw [← ho]
    unfold numAt valAt wordAt; rw [hx]; rfl
  · intro x hx
    obtain ⟨-, q2⟩ := hf.words x (List.mem_of_getElem? hx)
    have e : ((namedV x.tx name).bind fun z => numOf z most) = o := by rw [← ho]; unfold numAt valAt; rw [wordAt_some hx]; rfl
    rw [← e]
    exact says_named_numI hn hsb ht hm q2 h1.box hu
  · intro y w2 hm
    unfold MustAt at hm
    unfold StepIs
    cases o with
    | some n =>
      rw [if_pos (show (some n).isSome = true from rfl)] at hm
      exact ⟨hm.1, h1.two.news hm.2.1, hm.2.2.2, hm.2.2.1⟩
    | none =>
      rw [if_neg (show ¬ (none : Option Nat).isSome = true by decide)] at hm
      exact ⟨hm.1, h1.two.news hm.2⟩

theorem step_named_numQ {W : List WV} {R N i k nb sb : Nat} {w0 w w' : World} {TY : TypeId} {cs : Array Value} {u v : Value} {most : Int} {name : ByteArray} (hf : Fix W R N w0) (h : Stg W R N w0 TY i cs w) (hi : i ≤ W.length) (hb : Below w.heap.size w w') (hn : w'.cell? ⟨nb, 0, none⟩ = some (.string name)) (hsb : w'.cell? ⟨sb, 0, none⟩ = some v) (ht : TakesAt 87 v w' ⟨w0.heap.size, k, none⟩ most) (hm : I64 most) (hu : cs[k]? = some u) :
    Calls Tryz.prog 64 #[.pointer (some ⟨R, 0, none⟩), .func (.func 85) #[] #[.pointer (some ⟨nb, 0, none⟩), .pointer (some ⟨sb, 0, none⟩)]] w' (StepIs W R N w0 TY i ((numAt W i name most : Option Nat).map fun (n : Nat) => cs.setIfInBounds k (.int .i64 n))) := by
  have h1 := h.below hf hb
  obtain ⟨o, ho⟩ : ∃ o, numAt W i name most = o := ⟨_, rfl⟩
  rw [ho]
  refine (must_at (T := w0.heap.size) (ok := o.isSome) (C := fun v => Box v w0.heap.size TY (putN cs k o)) hf.words hi h1.left hf.hR hf.hN (Nat.le_trans hf.hN h1.two.size) hf.ne ?_ ?_ (box_row hf.ne.symm)).mono ?_
  · intro hx
    rw [← ho]
    unfold numAt valAt wordAt; rw [hx]; rfl
  · intro x hx
    obtain ⟨-, q2⟩ := hf.words x (List.mem_of_getElem? hx)
    have e : ((namedV x.tx name).bind fun z => numOf z most) = o := by rw [← ho]; unfold numAt valAt; rw [wordAt_some hx]; rfl
    rw [← e]
    exact says_named_numQ hn hsb ht hm q2 h1.box hu
  · intro y w2 hm
    unfold MustAt at hm
    unfold StepIs
    cases o with
    | some n =>
      rw [if_pos (show (some n).isSome = true from rfl)] at hm
      exact ⟨hm.1, h1.two.news hm.2.1, hm.2.2.2, hm.2.2.1⟩
    | none =>
      rw [if_neg (show ¬ (none : Option Nat).isSome = true by decide)] at hm
      exact ⟨hm.1, h1.two.news hm.2⟩

/-- Numbers laid down, or none. -/
def LaidL (w : World) (B : Nat) (T : Nat) (TY : TypeId) (cs : Array Value) (k : Nat) (l : List Int) : Prop :=
  ∃ a c, Box w T TY (cs.setIfInBounds k (.slice a l.length c)) ∧ (IsI w a l ∧ FreshI B a l) ∧ Ints w a l ∧ l.length ≤ c ∧ (c : Int) ≤ 9223372036854775807
theorem putL_laid {w : World} {B T k : Nat} {TY : TypeId} {cs : Array Value} {o : Option (List Int)} (h : PutL w B T TY cs k o) (hk : cs.setIfInBounds k (.slice none 0 0) = cs) : LaidL w B T TY cs k (o.getD []) := by
  cases o with
  | some l => exact h
  | none => exact ⟨none, 0, by show Box w T TY (cs.setIfInBounds k (.slice none 0 0)); rw [hk]; exact h, ⟨.inl rfl, .inl rfl⟩, .inl rfl, Nat.le_refl _, by omega⟩

theorem step_numsI {W : List WV} {R N i k nb sb : Nat} {w0 w w' : World} {TY : TypeId} {cs : Array Value} {u v : Value} {most : Int} {name : ByteArray} (hf : Fix W R N w0) (h : Stg W R N w0 TY i cs w) (hb : Below w.heap.size w w') (hn : w'.cell? ⟨nb, 0, none⟩ = some (.string name)) (hsb : w'.cell? ⟨sb, 0, none⟩ = some v) (ht : TakesAt 91 v w' ⟨w0.heap.size, k, none⟩ most) (hm : I64 most) (hu : cs[k]? = some u) (hk : cs.setIfInBounds k (.slice none 0 0) = cs) (hty : TY ≠ 2 ∧ TY ≠ 3) (o : Option (List Int)) (ho : numsAt W i name most = o) (j : Nat) (hj : (if o.isSome = true then i + 1 else i) = j) :
    Calls Tryz.prog 69 #[.pointer (some ⟨R, 0, none⟩), .func (.func 85) #[] #[.pointer (some ⟨nb, 0, none⟩), .pointer (some ⟨sb, 0, none⟩)]] w' (fun y w2 => y = .returned (.bool o.isSome) ∧ Two R w0.heap.size w w2 ∧ Two R R w0 w2 ∧ Left w2 R N (endAt W j) (W.drop j) ∧ LaidL w2 w0.heap.size w0.heap.size TY cs k (o.getD [])) := by
  have h1 := h.below hf hb
  refine (may_at (T := w0.heap.size) (ok := o.isSome) (C := fun v => PutL v w0.heap.size w0.heap.size TY cs k o) hf.words h1.left hf.hR hf.hN (Nat.le_trans hf.hN h1.two.size) hf.ne ?_ ?_ (fun _ _ _ hb hc h2 => putL_two hf.ne.symm hty hb hc h2)).mono ?_
  · intro hx
    have e : o = none := by rw [← ho]; unfold numsAt valAt wordAt; rw [hx]; rfl
    subst e
    exact ⟨rfl, h1.box⟩
  · intro x hx
    obtain ⟨-, q2⟩ := hf.words x (List.mem_of_getElem? hx)
    have e : ((namedV x.tx name).bind fun z => numsOf z most) = o := by rw [← ho]; unfold numsAt valAt; rw [wordAt_some hx]; rfl
    rw [← e]
    exact says_named_numsI hn hsb ht hm q2 h1.box hu hty h1.two.size
  · intro y w2 ⟨m1, m2, m3, m4⟩
    rw [hj] at m4
    exact ⟨m1, (Two.of_below hb).trans m2, h1.two.news m2, m4, putL_laid m3 hk⟩

theorem step_numsQ {W : List WV} {R N i k nb sb : Nat} {w0 w w' : World} {TY : TypeId} {cs : Array Value} {u v : Value} {most : Int} {name : ByteArray} (hf : Fix W R N w0) (h : Stg W R N w0 TY i cs w) (hb : Below w.heap.size w w') (hn : w'.cell? ⟨nb, 0, none⟩ = some (.string name)) (hsb : w'.cell? ⟨sb, 0, none⟩ = some v) (ht : TakesAt 88 v w' ⟨w0.heap.size, k, none⟩ most) (hm : I64 most) (hu : cs[k]? = some u) (hk : cs.setIfInBounds k (.slice none 0 0) = cs) (hty : TY ≠ 2 ∧ TY ≠ 3) (o : Option (List Int)) (ho : numsAt W i name most = o) (j : Nat) (hj : (if o.isSome = true then i + 1 else i) = j) :
    Calls Tryz.prog 69 #[.pointer (some ⟨R, 0, none⟩), .func (.func 85) #[] #[.pointer (some ⟨nb, 0, none⟩), .pointer (some ⟨sb, 0, none⟩)]] w' (fun y w2 => y = .returned (.bool o.isSome) ∧ Two R w0.heap.size w w2 ∧ Two R R w0 w2 ∧ Left w2 R N (endAt W j) (W.drop j) ∧ LaidL w2 w0.heap.size w0.heap.size TY cs k (o.getD [])) := by
  have h1 := h.below hf hb
  refine (may_at (T := w0.heap.size) (ok := o.isSome) (C := fun v => PutL v w0.heap.size w0.heap.size TY cs k o) hf.words h1.left hf.hR hf.hN (Nat.le_trans hf.hN h1.two.size) hf.ne ?_ ?_ (fun _ _ _ hb hc h2 => putL_two hf.ne.symm hty hb hc h2)).mono ?_
  · intro hx
    have e : o = none := by rw [← ho]; unfold numsAt valAt wordAt; rw [hx]; rfl
    subst e
    exact ⟨rfl, h1.box⟩
  · intro x hx
    obtain ⟨-, q2⟩ := hf.words x (List.mem_of_getElem? hx)
    have e : ((namedV x.tx name).bind fun z => numsOf z most) = o := by rw [← ho]; unfold numsAt valAt; rw [wordAt_some hx]; rfl
    rw [← e]
    exact says_named_numsQ hn hsb ht hm q2 h1.box hu hty h1.two.size
  · intro y w2 ⟨m1, m2, m3, m4⟩
    rw [hj] at m4
    exact ⟨m1, (Two.of_below hb).trans m2, h1.two.news m2, m4, putL_laid m3 hk⟩
end Go.Proofs.YtlpffgmfgkleiaaGreatDoor

/-
  The walks over a row that says a cache, or a task.
-/
namespace Go.Proofs.YtlpffgmfgkleiaaGreatDoor
open Go.RowKit Go.Maps

theorem takes_func {F : Nat} {v : Value} {w : World} {p : Addr} {most : Int} (h : TakesAt F v w p most) : ∃ f a b, v = .func f a b := let ⟨_, _, q, _⟩ := h; ⟨_, _, _, q⟩
theorem Two.setNew {R b o : Nat} {w0 w : World} (h : Two R R w0 w) (hb : w0.heap.size ≤ b) (v : Value) : Two R R w0 (w.setCell ⟨b, o, none⟩ v) :=
  ⟨h.os, h.tape, h.output, by simp [World.setCell]; exact h.size, fun k hk h1 h2 => (blk_far (a := ⟨b, o, none⟩) (by show k ≠ b; omega) v).trans (h.block k hk h1 h2)⟩
theorem bind_lt {α : Type} {W : List WV} {i : Nat} {f : ByteArray → Option α} {n : α} (h : (wordAt W i).bind f = some n) : i < W.length := by
  rcases Nat.lt_or_ge i W.length with q | q
  · exact q
  · rw [wordAt_none q] at h; cases h
theorem word_lt {W : List WV} {i : Nat} {t : ByteArray} (h : wordAt W i = some t) : i < W.length := by
  rcases Nat.lt_or_ge i W.length with q | q
  · exact q
  · rw [wordAt_none q] at h; cases h
theorem cache_first {W : List WV} (h : wordAt W 0 ≠ some bCache) : cacheOf W = .error (placeAt W 0) := by unfold cacheOf; rw [if_pos h]
theorem cache_sets {W : List WV} (h : wordAt W 0 = some bCache) (h1 : setsOf W = none) : cacheOf W = .error (placeAt W 1) := by unfold cacheOf; rw [if_neg (fun q => q h), h1]
theorem cache_rel {W : List WV} (h : wordAt W 0 = some bCache) {s : Nat} (h1 : setsOf W = some s) (h2 : relOf W = none) : cacheOf W = .error (placeAt W 2) := by
  unfold cacheOf; rw [if_neg (fun q => q h), h1]; simp only []; rw [h2]
theorem cache_over {W : List WV} (h : wordAt W 0 = some bCache) {s r : Nat} (h1 : setsOf W = some s) (h2 : relOf W = some r) (h3 : 3 < W.length) : cacheOf W = .error (placeAt W 3) := by
  unfold cacheOf; rw [if_neg (fun q => q h), h1]; simp only []; rw [h2]; simp only []; rw [if_pos h3]
theorem cache_ok {W : List WV} (h : wordAt W 0 = some bCache) {s r : Nat} (h1 : setsOf W = some s) (h2 : relOf W = some r) (h3 : ¬ 3 < W.length) : cacheOf W = .ok (s, r) := by
  unfold cacheOf; rw [if_neg (fun q => q h), h1]; simp only []; rw [h2]; simp only []; rw [if_neg h3]
theorem w_zeroSys (w : World) : (zeroValue SysT).run Tryz.prog w = .ok (.agg #[.int .i64 0, .int .i64 0, .slice none 0 0]) w := by kernel_rfl
/-- What a row that says a cache does. -/
def CacheIs (W : List WV) (R : Nat) (w0 : World) (y : Ending) (w' : World) : Prop := match cacheOf W with
  | .error p => Panics p 10 y ∧ Two R R w0 w'
  | .ok (s, r) => y = .returned (.agg #[.int .i64 s, .int .i64 r, .slice none 0 0]) ∧ Two R R w0 w'

set_option maxRecDepth 100000 in
set_option maxHeartbeats 4000000 in
theorem cache_any {W : List WV} {R N : Nat} {w0 : World} (hf : Fix W R N w0) (h : Left w0 R N 0 W) : Calls Tryz.prog 59 #[.pointer (some ⟨R, 0, none⟩)] w0 (CacheIs W R w0) := by
  have hz := w_zeroSys
  go_enter Tryz.func59, Tryz.ntmps59
  go_upto_region 1 with fail
  refine gen_world (Stg W R N w0 SysT 0 #[.int .i64 0, .int .i64 0, .slice none 0 0]) ⟨Two.of_below (bw_alloc (Below.refl _ _) _), h.below (bw_alloc (Below.refl _ _) _) hf.hN, heap_alloc_new w0 _⟩ ?_
  intro u0 h0
  have H0 := Lib.hid h0
  clear h0 h
  by_cases e0 : wordAt W 0 = some bCache
  rotate_left
  · have HB : Hid (cacheOf W = .error (placeAt W 0)) := cache_first e0
    have M : Hid (∀ b v, Below u0.heap.size u0 v → v.cell? ⟨b, 0, none⟩ = some (.string bCache) → Calls Tryz.prog 64 #[.pointer (some ⟨R, 0, none⟩), .func (.func 82) #[] #[.pointer (some ⟨b, 0, none⟩)]] v (StepIs W R N w0 SysT 0 none)) := fun b v hb hc => by have := step_text hf H0.out (Nat.zero_le _) hb hc; rwa [if_neg e0] at this
    clear e0
    go_wp2_with (first
      | (go_at_call 65; (with_reducible refine (text_any _ _).mono ?_); rintro e wt ⟨b, rfl, hc, bt⟩; have HC := Lib.hid hc; have BT := Lib.hid bt; clear hc bt)
      | (go_at_call 64; (with_reducible refine (M.out _ _ BT.out HC.out).mono ?_); rintro y ux ⟨rfl, tw⟩; have TW := Lib.hid tw; clear tw))
    all_goals
      refine ⟨rfl, ?_⟩
      unfold CacheIs
      rw [HB.out]
      exact ⟨rfl, TW.out⟩
  have M : Hid (∀ b v, Below u0.heap.size u0 v → v.cell? ⟨b, 0, none⟩ = some (.string bCache) → Calls Tryz.prog 64 #[.pointer (some ⟨R, 0, none⟩), .func (.func 82) #[] #[.pointer (some ⟨b, 0, none⟩)]] v (StepIs W R N w0 SysT 0 (some (#[.int .i64 0, .int .i64 0, .slice none 0 0])))) := fun b v hb hc => by have := step_text hf H0.out (Nat.zero_le _) hb hc; rwa [if_pos e0] at this
  go_upto_region 2 with (first
    | (go_at_call 65; (with_reducible refine (text_any _ _).mono ?_); rintro e wt ⟨b, rfl, hc, bt⟩; have HC := Lib.hid hc; have BT := Lib.hid bt; clear hc bt)
    | (go_at_call 64; (with_reducible refine (M.out _ _ BT.out HC.out).mono ?_); rintro y u1 ⟨rfl, st⟩; have H1 := Lib.hid st; clear st))
  clear M H0
  clear HC BT
  obtain e1 | ⟨n1, e1⟩ : setsOf W = none ∨ ∃ n, setsOf W = some n := by cases h : setsOf W <;> simp
  · have HB : Hid (cacheOf W = .error (placeAt W 1)) := cache_sets e0 e1
    have M : Hid (∀ v z, Below u1.heap.size u1 z → TakesAt 83 v z ⟨w0.heap.size, 0, none⟩ 256 → Calls Tryz.prog 64 #[.pointer (some ⟨R, 0, none⟩), v] z (StepIs W R N w0 SysT 1 none)) := fun v z hb ht => by have := step_numI hf H1.out (word_lt e0) hb ht (by unfold I64; omega) (u := _) rfl; rw [show ((wordAt W 1).bind fun s => numOf s 256) = _ from e1] at this; exact this
    clear e1
    go_wp2_with (first
      | (go_at_call 66; (with_reducible refine (numI_any _ _ _).mono ?_); rintro e wn ⟨v, rfl, hv, bn⟩; have HV := Lib.hid hv; have BN := Lib.hid bn; have hfun : ∃ f a b, v = .func f a b := takes_func hv; clear hv bn)
      | (go_at_call 64; (with_reducible refine (M.out _ _ BN.out HV.out).mono ?_); rintro y ux ⟨rfl, tw⟩; have TW := Lib.hid tw; clear tw))
    all_goals
      refine ⟨rfl, ?_⟩
      unfold CacheIs
      rw [HB.out]
      exact ⟨rfl, TW.out⟩
  have M : Hid (∀ v z, Below u1.heap.size u1 z → TakesAt 83 v z ⟨w0.heap.size, 0, none⟩ 256 → Calls Tryz.prog 64 #[.pointer (some ⟨R, 0, none⟩), v] z (StepIs W R N w0 SysT 1 (some ((#[.int .i64 0, .int .i64 0, .slice none 0 0] : Array Value).setIfInBounds 0 (.int .i64 n1))))) := fun v z hb ht => by have := step_numI hf H1.out (word_lt e0) hb ht (by unfold I64; omega) (u := _) rfl; rw [show ((wordAt W 1).bind fun s => numOf s 256) = _ from e1] at this; exact this
  go_upto_region 3 with (first
    | (go_at_call 66; (with_reducible refine (numI_any _ _ _).mono ?_); rintro e wn ⟨v, rfl, hv, bn⟩; have HV := Lib.hid hv; have BN := Lib.hid bn; have hfun : ∃ f a b, v = .func f a b := takes_func hv; clear hv bn)
    | (go_at_call 64; (with_reducible refine (M.out _ _ BN.out HV.out).mono ?_); rintro y u2 ⟨rfl, st⟩; have H2 := Lib.hid st; clear st))
  clear M H1
  clear HV BN hfun
  obtain e2 | ⟨n2, e2⟩ : relOf W = none ∨ ∃ n, relOf W = some n := by cases h : relOf W <;> simp
  · have HB : Hid (cacheOf W = .error (placeAt W 2)) := cache_rel e0 e1 e2
    have M : Hid (∀ v z, Below u2.heap.size u2 z → TakesAt 87 v z ⟨w0.heap.size, 1, none⟩ 1000 → Calls Tryz.prog 64 #[.pointer (some ⟨R, 0, none⟩), v] z (StepIs W R N w0 SysT 2 none)) := fun v z hb ht => by have := step_numQ hf H2.out (bind_lt e1) hb ht (by unfold I64; omega) (u := _) rfl; rw [show ((wordAt W 2).bind fun s => numOf s 1000) = _ from e2] at this; exact this
    clear e2
    go_wp2_with (first
      | (go_at_call 68; (with_reducible refine (numQ_any _ _ _).mono ?_); rintro e wn ⟨v, rfl, hv, bn⟩; have HV := Lib.hid hv; have BN := Lib.hid bn; have hfun : ∃ f a b, v = .func f a b := takes_func hv; clear hv bn)
      | (go_at_call 64; (with_reducible refine (M.out _ _ BN.out HV.out).mono ?_); rintro y ux ⟨rfl, tw⟩; have TW := Lib.hid tw; clear tw))
    all_goals
      refine ⟨rfl, ?_⟩
      unfold CacheIs
      rw [HB.out]
      exact ⟨rfl, TW.out⟩
  have M : Hid (∀ v z, Below u2.heap.size u2 z → TakesAt 87 v z ⟨w0.heap.size, 1, none⟩ 1000 → Calls Tryz.prog 64 #[.pointer (some ⟨R, 0, none⟩), v] z (StepIs W R N w0 SysT 2 (some (((#[.int .i64 0, .int .i64 0, .slice none 0 0] : Array Value).setIfInBounds 0 (.int .i64 n1)).setIfInBounds 1 (.int .i64 n2))))) := fun v z hb ht => by have := step_numQ hf H2.out (bind_lt e1) hb ht (by unfold I64; omega) (u := _) rfl; rw [show ((wordAt W 2).bind fun s => numOf s 1000) = _ from e2] at this; exact this
  go_upto_region 4 with (first
    | (go_at_call 68; (with_reducible refine (numQ_any _ _ _).mono ?_); rintro e wn ⟨v, rfl, hv, bn⟩; have HV := Lib.hid hv; have BN := Lib.hid bn; have hfun : ∃ f a b, v = .func f a b := takes_func hv; clear hv bn)
    | (go_at_call 64; (with_reducible refine (M.out _ _ BN.out HV.out).mono ?_); rintro y u3 ⟨rfl, st⟩; have H3 := Lib.hid st; clear st))
  clear M H2
  clear HV BN hfun
  have hl3 : 3 ≤ W.length := bind_lt e2
  by_cases ho : 3 < W.length
  · have HB : Hid (cacheOf W = .error (placeAt W 3)) := cache_over e0 e1 e2 ho
    have hx : W[3]? = some W[3] := by simp [ho]
    have hl := H3.out.left
    rw [drop_some hx] at hl
    have M := Lib.hid (over_word hl)
    have TW := Lib.hid H3.out.two
    rw [← placeAt_some hx] at M
    clear hl hx
    go_wp2_with (go_at_call 72; (with_reducible refine M.out.mono ?_); rintro y ux ⟨rfl, rfl⟩)
    all_goals
      refine ⟨rfl, ?_⟩
      unfold CacheIs
      rw [HB.out]
      exact ⟨rfl, TW.out⟩
  · have HB : Hid (cacheOf W = .ok (n1, n2)) := cache_ok e0 e1 e2 ho
    have hl := H3.out.left
    rw [List.drop_of_length_le (by omega)] at hl
    have M := Lib.hid (over_nil hl)
    go_upto_region 5 with (go_at_call 72; (with_reducible refine M.out.mono ?_); rintro y ux ⟨rfl, rfl⟩)
    have hb : Box ux w0.heap.size SysT #[.int .i64 n1, .int .i64 n2, .slice none 0 0] := H3.out.box
    have HBX := Lib.hid hb
    have r0 : ux.cell? ⟨w0.heap.size, 0, none⟩ = some (.int .i64 n1) := blk_cell hb 0
    have r1 : ux.cell? ⟨w0.heap.size, 1, none⟩ = some (.int .i64 n2) := blk_cell hb 1
    have r2 : ux.cell? ⟨w0.heap.size, 2, none⟩ = some (.slice none 0 0) := blk_cell hb 2
    have f0 := blk_free hb 0
    have f1 := blk_free hb 1
    have f2 := blk_free hb 2
    have hr := lt_of_block hb
    have TW := Lib.hid H3.out.two
    clear hb hl M H3
    go_wp2_with fail
    refine bodyPost_ret (v := .agg #[.int .i64 n1, .int .i64 n2, .slice none 0 0]) (by simp [results, Tryz.results59, go_sem, r0, r1, r2, hr]) rfl ?_
    unfold CacheIs
    rw [HB.out]
    exact ⟨rfl, ((TW.out.setNew (Nat.le_refl _) _).setNew (Nat.le_refl _) _).setNew (Nat.le_refl _) _⟩
end Go.Proofs.YtlpffgmfgkleiaaGreatDoor

/-
  The walk over a row that says a task.
-/
namespace Go.Proofs.YtlpffgmfgkleiaaGreatDoor
open Go.RowKit Go.Maps

theorem y_zeroTask (w : World) : (zeroValue TT).run Tryz.prog w = .ok (.agg #[.int .i64 0, .int .i64 0, .int .i64 0, .int .i64 0, .int .i64 0, .slice none 0 0, .slice none 0 0]) w := by kernel_rfl
/-- What a row that says a task does. -/
def TaskIs (W : List WV) (R : Nat) (w0 : World) (y : Ending) (w' : World) : Prop := match lineOf W with
  | .error p => Panics p 10 y ∧ Two R R w0 w'
  | .ok t => ∃ x : TV, y = .returned x.val ∧ x.tk = t ∧ x.ok w' ∧ (IsI w' x.a1 x.ch ∧ FreshI w0.heap.size x.a1 x.ch) ∧ (IsI w' x.a2 x.us ∧ FreshI w0.heap.size x.a2 x.us) ∧ Two R R w0 w' ∧ ∃ v, Box w' R RowT #[v, .int .i64 (endAt W W.length)]
theorem numK_lt {W : List WV} {k : Nat} {n : Nat} (h : numK W k = some n) : 2 + k < W.length := numAt_lt h
theorem lt4 {W : List WV} {k : Nat} (h : k < 4) (f : ∀ j, j < 4 → j < k → ∃ n, numK W j = some n) : ∀ j, j < k → ∃ n, numK W j = some n := fun j hj => f j (by omega) hj

set_option maxRecDepth 100000 in
set_option maxHeartbeats 4000000 in
theorem task_row {W : List WV} {R N : Nat} {w0 : World} (hf : Fix W R N w0) (h : Left w0 R N 0 W) : Calls Tryz.prog 47 #[.pointer (some ⟨R, 0, none⟩)] w0 (TaskIs W R w0) := by
  have hz := y_zeroTask
  go_enter Tryz.func47, Tryz.ntmps47
  go_upto_region 1 with fail
  refine gen_world (Stg W R N w0 TT 0 #[.int .i64 0, .int .i64 0, .int .i64 0, .int .i64 0, .int .i64 0, .slice none 0 0, .slice none 0 0]) ⟨Two.of_below (bw_alloc (Below.refl _ _) _), h.below (bw_alloc (Below.refl _ _) _) hf.hN, heap_alloc_new w0 _⟩ ?_
  intro u0 h0
  have H0 := Lib.hid h0
  clear h0 h
  by_cases e0 : wordAt W 0 = some bTask
  rotate_left
  · have HB : Hid (lineOf W = .error (placeAt W 0)) := line_first e0
    have M : Hid (∀ b v, Below u0.heap.size u0 v → v.cell? ⟨b, 0, none⟩ = some (.string bTask) → Calls Tryz.prog 64 #[.pointer (some ⟨R, 0, none⟩), .func (.func 82) #[] #[.pointer (some ⟨b, 0, none⟩)]] v (StepIs W R N w0 TT 0 none)) := fun b v hb hc => by have := step_text hf H0.out (Nat.zero_le _) hb hc; rwa [if_neg e0] at this
    clear e0
    go_wp2_with (first
      | (go_at_call 65; (with_reducible refine (text_any _ _).mono ?_); rintro e wt ⟨b, rfl, hc, bt⟩; have HC := Lib.hid hc; have BT := Lib.hid bt; clear hc bt)
      | (go_at_call 64; (with_reducible refine (M.out _ _ BT.out HC.out).mono ?_); rintro y ux ⟨rfl, tw⟩; have TW := Lib.hid tw; clear tw))
    all_goals
      refine ⟨rfl, ?_⟩
      unfold TaskIs
      rw [HB.out]
      exact ⟨rfl, TW.out⟩
  have M : Hid (∀ b v, Below u0.heap.size u0 v → v.cell? ⟨b, 0, none⟩ = some (.string bTask) → Calls Tryz.prog 64 #[.pointer (some ⟨R, 0, none⟩), .func (.func 82) #[] #[.pointer (some ⟨b, 0, none⟩)]] v (StepIs W R N w0 TT 0 (some (#[.int .i64 0, .int .i64 0, .int .i64 0, .int .i64 0, .int .i64 0, .slice none 0 0, .slice none 0 0])))) := fun b v hb hc => by have := step_text hf H0.out (Nat.zero_le _) hb hc; rwa [if_pos e0] at this
  go_upto_region 2 with (first
    | (go_at_call 65; (with_reducible refine (text_any _ _).mono ?_); rintro e wt ⟨b, rfl, hc, bt⟩; have HC := Lib.hid hc; have BT := Lib.hid bt; clear hc bt)
    | (go_at_call 64; (with_reducible refine (M.out _ _ BT.out HC.out).mono ?_); rintro y u1 ⟨rfl, st⟩; have H1 := Lib.hid st; clear st))
  clear M H0
  clear HC BT
  obtain e1 | ⟨n1, e1⟩ : idOf W = none ∨ ∃ n, idOf W = some n := by cases h : idOf W <;> simp
  · have HB : Hid (lineOf W = .error (placeAt W 1)) := line_id e0 e1
    have M : Hid (∀ v z, Below u1.heap.size u1 z → TakesAt 83 v z ⟨w0.heap.size, 0, none⟩ 99 → Calls Tryz.prog 64 #[.pointer (some ⟨R, 0, none⟩), v] z (StepIs W R N w0 TT 1 none)) := fun v z hb ht => by have := step_numI hf H1.out (word_lt e0) hb ht (by unfold I64; omega) (u := _) rfl; rw [show ((wordAt W 1).bind fun s => numOf s 99) = _ from e1] at this; exact this
    clear e1
    go_wp2_with (first
      | (go_at_call 66; (with_reducible refine (numI_any _ _ _).mono ?_); rintro e wn ⟨v, rfl, hv, bn⟩; have HV := Lib.hid hv; have BN := Lib.hid bn; have hfun : ∃ f a b, v = .func f a b := takes_func hv; clear hv bn)
      | (go_at_call 64; (with_reducible refine (M.out _ _ BN.out HV.out).mono ?_); rintro y ux ⟨rfl, tw⟩; have TW := Lib.hid tw; clear tw))
    all_goals
      refine ⟨rfl, ?_⟩
      unfold TaskIs
      rw [HB.out]
      exact ⟨rfl, TW.out⟩
  have M : Hid (∀ v z, Below u1.heap.size u1 z → TakesAt 83 v z ⟨w0.heap.size, 0, none⟩ 99 → Calls Tryz.prog 64 #[.pointer (some ⟨R, 0, none⟩), v] z (StepIs W R N w0 TT 1 (some (#[.int .i64 n1, .int .i64 0, .int .i64 0, .int .i64 0, .int .i64 0, .slice none 0 0, .slice none 0 0])))) := fun v z hb ht => by have := step_numI hf H1.out (word_lt e0) hb ht (by unfold I64; omega) (u := _) rfl; rw [show ((wordAt W 1).bind fun s => numOf s 99) = _ from e1] at this; exact this
  go_upto_region 3 with (first
    | (go_at_call 66; (with_reducible refine (numI_any _ _ _).mono ?_); rintro e wn ⟨v, rfl, hv, bn⟩; have HV := Lib.hid hv; have BN := Lib.hid bn; have hfun : ∃ f a b, v = .func f a b := takes_func hv; clear hv bn)
    | (go_at_call 64; (with_reducible refine (M.out _ _ BN.out HV.out).mono ?_); rintro y u2 ⟨rfl, st⟩; have H2 := Lib.hid st; clear st))
  clear M H1
  clear HV BN hfun
  obtain e2 | ⟨n2, e2⟩ : numK W 0 = none ∨ ∃ n, numK W 0 = some n := by cases h : numK W 0 <;> simp
  · have HB : Hid (lineOf W = .error (placeAt W 2)) := line_bad (k := 0) e0 e1 (by omega) (fun j hj => absurd hj (Nat.not_lt_zero _)) e2
    have M : Hid (∀ v nb sb z, Below u2.heap.size u2 z → z.cell? ⟨nb, 0, none⟩ = some (.string bC) → z.cell? ⟨sb, 0, none⟩ = some v → TakesAt 87 v z ⟨w0.heap.size, 1, none⟩ 1073741824 → Calls Tryz.prog 64 #[.pointer (some ⟨R, 0, none⟩), .func (.func 85) #[] #[.pointer (some ⟨nb, 0, none⟩), .pointer (some ⟨sb, 0, none⟩)]] z (StepIs W R N w0 TT 2 none)) := fun v nb sb z hb hn hs ht => by have := step_named_numQ hf H2.out (bind_lt e1) hb hn hs ht (by unfold I64; omega) (u := _) rfl; rw [show numAt W 2 bC 1073741824 = _ from e2] at this; exact this
    clear e2
    go_wp2_with (first
      | (go_at_call 68; (with_reducible refine (numQ_any _ _ _).mono ?_); rintro e wn ⟨v, rfl, hv, bn⟩; have HV := Lib.hid hv; have BN := Lib.hid bn; have hfun : ∃ f a b, v = .func f a b := takes_func hv; clear hv bn)
      | (go_at_call 67; (with_reducible refine (named_any _ _ _ hfun).mono ?_); rintro e wd ⟨nb, sb, rfl, hn, hs, bd⟩; have HN := Lib.hid hn; have HS := Lib.hid hs; have HV2 := Lib.hid (HV.out.below bd); have BB := Lib.hid (below_up BN.out bd); clear hn hs bd)
      | (go_at_call 64; (with_reducible refine (M.out _ _ _ _ BB.out HN.out HS.out HV2.out).mono ?_); rintro y ux ⟨rfl, tw⟩; have TW := Lib.hid tw; clear tw))
    all_goals
      refine ⟨rfl, ?_⟩
      unfold TaskIs
      rw [HB.out]
      exact ⟨rfl, TW.out⟩
  have M : Hid (∀ v nb sb z, Below u2.heap.size u2 z → z.cell? ⟨nb, 0, none⟩ = some (.string bC) → z.cell? ⟨sb, 0, none⟩ = some v → TakesAt 87 v z ⟨w0.heap.size, 1, none⟩ 1073741824 → Calls Tryz.prog 64 #[.pointer (some ⟨R, 0, none⟩), .func (.func 85) #[] #[.pointer (some ⟨nb, 0, none⟩), .pointer (some ⟨sb, 0, none⟩)]] z (StepIs W R N w0 TT 2 (some (#[.int .i64 n1, .int .i64 n2, .int .i64 0, .int .i64 0, .int .i64 0, .slice none 0 0, .slice none 0 0])))) := fun v nb sb z hb hn hs ht => by have := step_named_numQ hf H2.out (bind_lt e1) hb hn hs ht (by unfold I64; omega) (u := _) rfl; rw [show numAt W 2 bC 1073741824 = _ from e2] at this; exact this
  go_upto_region 4 with (first
    | (go_at_call 68; (with_reducible refine (numQ_any _ _ _).mono ?_); rintro e wn ⟨v, rfl, hv, bn⟩; have HV := Lib.hid hv; have BN := Lib.hid bn; have hfun : ∃ f a b, v = .func f a b := takes_func hv; clear hv bn)
    | (go_at_call 67; (with_reducible refine (named_any _ _ _ hfun).mono ?_); rintro e wd ⟨nb, sb, rfl, hn, hs, bd⟩; have HN := Lib.hid hn; have HS := Lib.hid hs; have HV2 := Lib.hid (HV.out.below bd); have BB := Lib.hid (below_up BN.out bd); clear hn hs bd)
    | (go_at_call 64; (with_reducible refine (M.out _ _ _ _ BB.out HN.out HS.out HV2.out).mono ?_); rintro y u3 ⟨rfl, st⟩; have H3 := Lib.hid st; clear st))
  clear M H2
  clear HV BN hfun HN HS HV2 BB
  obtain e3 | ⟨n3, e3⟩ : numK W 1 = none ∨ ∃ n, numK W 1 = some n := by cases h : numK W 1 <;> simp
  · have HB : Hid (lineOf W = .error (placeAt W 3)) := line_bad (k := 1) e0 e1 (by omega) (fun j hj => by match j, hj with | 0, _ => exact ⟨_, e2⟩) e3
    have M : Hid (∀ v nb sb z, Below u3.heap.size u3 z → z.cell? ⟨nb, 0, none⟩ = some (.string bD) → z.cell? ⟨sb, 0, none⟩ = some v → TakesAt 87 v z ⟨w0.heap.size, 2, none⟩ 1073741824 → Calls Tryz.prog 64 #[.pointer (some ⟨R, 0, none⟩), .func (.func 85) #[] #[.pointer (some ⟨nb, 0, none⟩), .pointer (some ⟨sb, 0, none⟩)]] z (StepIs W R N w0 TT 3 none)) := fun v nb sb z hb hn hs ht => by have := step_named_numQ hf H3.out (numK_lt e2) hb hn hs ht (by unfold I64; omega) (u := _) rfl; rw [show numAt W 3 bD 1073741824 = _ from e3] at this; exact this
    clear e3
    go_wp2_with (first
      | (go_at_call 68; (with_reducible refine (numQ_any _ _ _).mono ?_); rintro e wn ⟨v, rfl, hv, bn⟩; have HV := Lib.hid hv; have BN := Lib.hid bn; have hfun : ∃ f a b, v = .func f a b := takes_func hv; clear hv bn)
      | (go_at_call 67; (with_reducible refine (named_any _ _ _ hfun).mono ?_); rintro e wd ⟨nb, sb, rfl, hn, hs, bd⟩; have HN := Lib.hid hn; have HS := Lib.hid hs; have HV2 := Lib.hid (HV.out.below bd); have BB := Lib.hid (below_up BN.out bd); clear hn hs bd)
      | (go_at_call 64; (with_reducible refine (M.out _ _ _ _ BB.out HN.out HS.out HV2.out).mono ?_); rintro y ux ⟨rfl, tw⟩; have TW := Lib.hid tw; clear tw))
    all_goals
      refine ⟨rfl, ?_⟩
      unfold TaskIs
      rw [HB.out]
      exact ⟨rfl, TW.out⟩
  have M : Hid (∀ v nb sb z, Below u3.heap.size u3 z → z.cell? ⟨nb, 0, none⟩ = some (.string bD) → z.cell? ⟨sb, 0, none⟩ = some v → TakesAt 87 v z ⟨w0.heap.size, 2, none⟩ 1073741824 → Calls Tryz.prog 64 #[.pointer (some ⟨R, 0, none⟩), .func (.func 85) #[] #[.pointer (some ⟨nb, 0, none⟩), .pointer (some ⟨sb, 0, none⟩)]] z (StepIs W R N w0 TT 3 (some (#[.int .i64 n1, .int .i64 n2, .int .i64 n3, .int .i64 0, .int .i64 0, .slice none 0 0, .slice none 0 0])))) := fun v nb sb z hb hn hs ht => by have := step_named_numQ hf H3.out (numK_lt e2) hb hn hs ht (by unfold I64; omega) (u := _) rfl; rw [show numAt W 3 bD 1073741824 = _ from e3] at this; exact this
  go_upto_region 5 with (first
    | (go_at_call 68; (with_reducible refine (numQ_any _ _ _).mono ?_); rintro e wn ⟨v, rfl, hv, bn⟩; have HV := Lib.hid hv; have BN := Lib.hid bn; have hfun : ∃ f a b, v = .func f a b := takes_func hv; clear hv bn)
    | (go_at_call 67; (with_reducible refine (named_any _ _ _ hfun).mono ?_); rintro e wd ⟨nb, sb, rfl, hn, hs, bd⟩; have HN := Lib.hid hn; have HS := Lib.hid hs; have HV2 := Lib.hid (HV.out.below bd); have BB := Lib.hid (below_up BN.out bd); clear hn hs bd)
    | (go_at_call 64; (with_reducible refine (M.out _ _ _ _ BB.out HN.out HS.out HV2.out).mono ?_); rintro y u4 ⟨rfl, st⟩; have H4 := Lib.hid st; clear st))
  clear M H3
  clear HV BN hfun HN HS HV2 BB
  obtain e4 | ⟨n4, e4⟩ : numK W 2 = none ∨ ∃ n, numK W 2 = some n := by cases h : numK W 2 <;> simp
  · have HB : Hid (lineOf W = .error (placeAt W 4)) := line_bad (k := 2) e0 e1 (by omega) (fun j hj => by match j, hj with | 0, _ => exact ⟨_, e2⟩ | 1, _ => exact ⟨_, e3⟩) e4
    have M : Hid (∀ v nb sb z, Below u4.heap.size u4 z → z.cell? ⟨nb, 0, none⟩ = some (.string bT) → z.cell? ⟨sb, 0, none⟩ = some v → TakesAt 87 v z ⟨w0.heap.size, 3, none⟩ 1073741824 → Calls Tryz.prog 64 #[.pointer (some ⟨R, 0, none⟩), .func (.func 85) #[] #[.pointer (some ⟨nb, 0, none⟩), .pointer (some ⟨sb, 0, none⟩)]] z (StepIs W R N w0 TT 4 none)) := fun v nb sb z hb hn hs ht => by have := step_named_numQ hf H4.out (numK_lt e3) hb hn hs ht (by unfold I64; omega) (u := _) rfl; rw [show numAt W 4 bT 1073741824 = _ from e4] at this; exact this
    clear e4
    go_wp2_with (first
      | (go_at_call 68; (with_reducible refine (numQ_any _ _ _).mono ?_); rintro e wn ⟨v, rfl, hv, bn⟩; have HV := Lib.hid hv; have BN := Lib.hid bn; have hfun : ∃ f a b, v = .func f a b := takes_func hv; clear hv bn)
      | (go_at_call 67; (with_reducible refine (named_any _ _ _ hfun).mono ?_); rintro e wd ⟨nb, sb, rfl, hn, hs, bd⟩; have HN := Lib.hid hn; have HS := Lib.hid hs; have HV2 := Lib.hid (HV.out.below bd); have BB := Lib.hid (below_up BN.out bd); clear hn hs bd)
      | (go_at_call 64; (with_reducible refine (M.out _ _ _ _ BB.out HN.out HS.out HV2.out).mono ?_); rintro y ux ⟨rfl, tw⟩; have TW := Lib.hid tw; clear tw))
    all_goals
      refine ⟨rfl, ?_⟩
      unfold TaskIs
      rw [HB.out]
      exact ⟨rfl, TW.out⟩
  have M : Hid (∀ v nb sb z, Below u4.heap.size u4 z → z.cell? ⟨nb, 0, none⟩ = some (.string bT) → z.cell? ⟨sb, 0, none⟩ = some v → TakesAt 87 v z ⟨w0.heap.size, 3, none⟩ 1073741824 → Calls Tryz.prog 64 #[.pointer (some ⟨R, 0, none⟩), .func (.func 85) #[] #[.pointer (some ⟨nb, 0, none⟩), .pointer (some ⟨sb, 0, none⟩)]] z (StepIs W R N w0 TT 4 (some (#[.int .i64 n1, .int .i64 n2, .int .i64 n3, .int .i64 n4, .int .i64 0, .slice none 0 0, .slice none 0 0])))) := fun v nb sb z hb hn hs ht => by have := step_named_numQ hf H4.out (numK_lt e3) hb hn hs ht (by unfold I64; omega) (u := _) rfl; rw [show numAt W 4 bT 1073741824 = _ from e4] at this; exact this
  go_upto_region 6 with (first
    | (go_at_call 68; (with_reducible refine (numQ_any _ _ _).mono ?_); rintro e wn ⟨v, rfl, hv, bn⟩; have HV := Lib.hid hv; have BN := Lib.hid bn; have hfun : ∃ f a b, v = .func f a b := takes_func hv; clear hv bn)
    | (go_at_call 67; (with_reducible refine (named_any _ _ _ hfun).mono ?_); rintro e wd ⟨nb, sb, rfl, hn, hs, bd⟩; have HN := Lib.hid hn; have HS := Lib.hid hs; have HV2 := Lib.hid (HV.out.below bd); have BB := Lib.hid (below_up BN.out bd); clear hn hs bd)
    | (go_at_call 64; (with_reducible refine (M.out _ _ _ _ BB.out HN.out HS.out HV2.out).mono ?_); rintro y u5 ⟨rfl, st⟩; have H5 := Lib.hid st; clear st))
  clear M H4
  clear HV BN hfun HN HS HV2 BB
  obtain e5 | ⟨n5, e5⟩ : numK W 3 = none ∨ ∃ n, numK W 3 = some n := by cases h : numK W 3 <;> simp
  · have HB : Hid (lineOf W = .error (placeAt W 5)) := line_bad (k := 3) e0 e1 (by omega) (fun j hj => by match j, hj with | 0, _ => exact ⟨_, e2⟩ | 1, _ => exact ⟨_, e3⟩ | 2, _ => exact ⟨_, e4⟩) e5
    have M : Hid (∀ v nb sb z, Below u5.heap.size u5 z → z.cell? ⟨nb, 0, none⟩ = some (.string bP) → z.cell? ⟨sb, 0, none⟩ = some v → TakesAt 83 v z ⟨w0.heap.size, 4, none⟩ 99 → Calls Tryz.prog 64 #[.pointer (some ⟨R, 0, none⟩), .func (.func 85) #[] #[.pointer (some ⟨nb, 0, none⟩), .pointer (some ⟨sb, 0, none⟩)]] z (StepIs W R N w0 TT 5 none)) := fun v nb sb z hb hn hs ht => by have := step_named_numI hf H5.out (numK_lt e4) hb hn hs ht (by unfold I64; omega) (u := _) rfl; rw [show numAt W 5 bP 99 = _ from e5] at this; exact this
    clear e5
    go_wp2_with (first
      | (go_at_call 66; (with_reducible refine (numI_any _ _ _).mono ?_); rintro e wn ⟨v, rfl, hv, bn⟩; have HV := Lib.hid hv; have BN := Lib.hid bn; have hfun : ∃ f a b, v = .func f a b := takes_func hv; clear hv bn)
      | (go_at_call 67; (with_reducible refine (named_any _ _ _ hfun).mono ?_); rintro e wd ⟨nb, sb, rfl, hn, hs, bd⟩; have HN := Lib.hid hn; have HS := Lib.hid hs; have HV2 := Lib.hid (HV.out.below bd); have BB := Lib.hid (below_up BN.out bd); clear hn hs bd)
      | (go_at_call 64; (with_reducible refine (M.out _ _ _ _ BB.out HN.out HS.out HV2.out).mono ?_); rintro y ux ⟨rfl, tw⟩; have TW := Lib.hid tw; clear tw))
    all_goals
      refine ⟨rfl, ?_⟩
      unfold TaskIs
      rw [HB.out]
      exact ⟨rfl, TW.out⟩
  have M : Hid (∀ v nb sb z, Below u5.heap.size u5 z → z.cell? ⟨nb, 0, none⟩ = some (.string bP) → z.cell? ⟨sb, 0, none⟩ = some v → TakesAt 83 v z ⟨w0.heap.size, 4, none⟩ 99 → Calls Tryz.prog 64 #[.pointer (some ⟨R, 0, none⟩), .func (.func 85) #[] #[.pointer (some ⟨nb, 0, none⟩), .pointer (some ⟨sb, 0, none⟩)]] z (StepIs W R N w0 TT 5 (some (#[.int .i64 n1, .int .i64 n2, .int .i64 n3, .int .i64 n4, .int .i64 n5, .slice none 0 0, .slice none 0 0])))) := fun v nb sb z hb hn hs ht => by have := step_named_numI hf H5.out (numK_lt e4) hb hn hs ht (by unfold I64; omega) (u := _) rfl; rw [show numAt W 5 bP 99 = _ from e5] at this; exact this
  go_upto_region 7 with (first
    | (go_at_call 66; (with_reducible refine (numI_any _ _ _).mono ?_); rintro e wn ⟨v, rfl, hv, bn⟩; have HV := Lib.hid hv; have BN := Lib.hid bn; have hfun : ∃ f a b, v = .func f a b := takes_func hv; clear hv bn)
    | (go_at_call 67; (with_reducible refine (named_any _ _ _ hfun).mono ?_); rintro e wd ⟨nb, sb, rfl, hn, hs, bd⟩; have HN := Lib.hid hn; have HS := Lib.hid hs; have HV2 := Lib.hid (HV.out.below bd); have BB := Lib.hid (below_up BN.out bd); clear hn hs bd)
    | (go_at_call 64; (with_reducible refine (M.out _ _ _ _ BB.out HN.out HS.out HV2.out).mono ?_); rintro y u6 ⟨rfl, st⟩; have H6 := Lib.hid st; clear st))
  clear M H5
  clear HV BN hfun HN HS HV2 BB
  have hl6 : 6 ≤ W.length := numK_lt e5
  obtain ⟨o6, e6⟩ : ∃ o, chAt W = o := ⟨_, rfl⟩
  obtain ⟨j6, hj6⟩ : ∃ j, plus1 W = j := ⟨_, rfl⟩
  have hj6' : (if o6.isSome = true then 6 + 1 else 6) = j6 := by rw [← e6]; exact hj6
  have M6 : Hid (∀ v nb sb z, Below u6.heap.size u6 z → z.cell? ⟨nb, 0, none⟩ = some (.string bChunks) → z.cell? ⟨sb, 0, none⟩ = some v → TakesAt 88 v z ⟨w0.heap.size, 5, none⟩ 1073741824 → Calls Tryz.prog 69 #[.pointer (some ⟨R, 0, none⟩), .func (.func 85) #[] #[.pointer (some ⟨nb, 0, none⟩), .pointer (some ⟨sb, 0, none⟩)]] z (fun y w2 => y = .returned (.bool o6.isSome) ∧ Two R w0.heap.size u6 w2 ∧ Two R R w0 w2 ∧ Left w2 R N (endAt W j6) (W.drop j6) ∧ LaidL w2 w0.heap.size w0.heap.size TT #[.int .i64 n1, .int .i64 n2, .int .i64 n3, .int .i64 n4, .int .i64 n5, .slice none 0 0, .slice none 0 0] 5 (o6.getD []))) :=
    fun v nb sb z hb hn hs ht => step_numsQ hf H6.out hb hn hs ht (by unfold I64; omega) rfl rfl (by decide) o6 e6 j6 hj6'
  go_upto_region 8 with (first
    | (go_at_call 70; (with_reducible refine (numsQ_any _ _ _).mono ?_); rintro e wn ⟨v, rfl, hv, bn⟩; have HV := Lib.hid hv; have BN := Lib.hid bn; have hfun : ∃ f a b, v = .func f a b := takes_func hv; clear hv bn)
    | (go_at_call 67; (with_reducible refine (named_any _ _ _ hfun).mono ?_); rintro e wd ⟨nb, sb, rfl, hn, hs, bd⟩; have HN := Lib.hid hn; have HS := Lib.hid hs; have HV2 := Lib.hid (HV.out.below bd); have BB := Lib.hid (below_up BN.out bd); clear hn hs bd)
    | (go_at_call 69; (with_reducible refine (M6.out _ _ _ _ BB.out HN.out HS.out HV2.out).mono ?_); rintro y u7 ⟨rfl, -, t7, l7, d7⟩; have T7 := Lib.hid t7; have L7 := Lib.hid l7; have D7 := Lib.hid d7; clear t7 l7 d7))
  clear M6 H6 HV BN hfun HN HS HV2 BB
  obtain ⟨ch, hch⟩ : ∃ l, o6.getD [] = l := ⟨_, rfl⟩
  rw [hch] at D7
  obtain ⟨a1, c1, bx7, ⟨i7, n7⟩, v7, l7, m7⟩ := D7.out
  have H7 : Hid (Stg W R N w0 TT j6 (#[.int .i64 n1, .int .i64 n2, .int .i64 n3, .int .i64 n4, .int .i64 n5, .slice a1 ch.length c1, .slice none 0 0]) u7) := ⟨T7.out, L7.out, bx7⟩
  have I7 := Lib.hid i7
  have V7 := Lib.hid v7
  clear T7 L7 D7 bx7 i7 v7
  obtain ⟨o7, e7⟩ : ∃ o, usAt W = o := ⟨_, rfl⟩
  obtain ⟨j7, hj7⟩ : ∃ j, plus2 W = j := ⟨_, rfl⟩
  have hj7' : (if o7.isSome = true then j6 + 1 else j6) = j7 := by rw [← e7, ← hj6]; exact hj7
  have e7' : numsAt W j6 bUse 255 = o7 := by rw [← hj6]; exact e7
  have M7 : Hid (∀ v nb sb z, Below u7.heap.size u7 z → z.cell? ⟨nb, 0, none⟩ = some (.string bUse) → z.cell? ⟨sb, 0, none⟩ = some v → TakesAt 91 v z ⟨w0.heap.size, 6, none⟩ 255 → Calls Tryz.prog 69 #[.pointer (some ⟨R, 0, none⟩), .func (.func 85) #[] #[.pointer (some ⟨nb, 0, none⟩), .pointer (some ⟨sb, 0, none⟩)]] z (fun y w2 => y = .returned (.bool o7.isSome) ∧ Two R w0.heap.size u7 w2 ∧ Two R R w0 w2 ∧ Left w2 R N (endAt W j7) (W.drop j7) ∧ LaidL w2 w0.heap.size w0.heap.size TT (#[.int .i64 n1, .int .i64 n2, .int .i64 n3, .int .i64 n4, .int .i64 n5, .slice a1 ch.length c1, .slice none 0 0]) 6 (o7.getD []))) :=
    fun v nb sb z hb hn hs ht => step_numsI hf H7.out hb hn hs ht (by unfold I64; omega) rfl rfl (by decide) o7 e7' j7 hj7'
  go_upto_region 9 with (first
    | (go_at_call 71; (with_reducible refine (numsI_any _ _ _).mono ?_); rintro e wn ⟨v, rfl, hv, bn⟩; have HV := Lib.hid hv; have BN := Lib.hid bn; have hfun : ∃ f a b, v = .func f a b := takes_func hv; clear hv bn)
    | (go_at_call 67; (with_reducible refine (named_any _ _ _ hfun).mono ?_); rintro e wd ⟨nb, sb, rfl, hn, hs, bd⟩; have HN := Lib.hid hn; have HS := Lib.hid hs; have HV2 := Lib.hid (HV.out.below bd); have BB := Lib.hid (below_up BN.out bd); clear hn hs bd)
    | (go_at_call 69; (with_reducible refine (M7.out _ _ _ _ BB.out HN.out HS.out HV2.out).mono ?_); rintro y u8 ⟨rfl, tw, t8, l8, d8⟩; have TW := Lib.hid tw; have T8 := Lib.hid t8; have L8 := Lib.hid l8; have D8 := Lib.hid d8; clear tw t8 l8 d8))
  clear M7 HV BN hfun HN HS HV2 BB
  obtain ⟨us, hus⟩ : ∃ l, o7.getD [] = l := ⟨_, rfl⟩
  rw [hus] at D8
  obtain ⟨a2, c2, bx8, ⟨i8, n8⟩, v8, l8, m8⟩ := D8.out
  obtain ⟨cR, hcR⟩ := H7.out.left.box
  obtain ⟨k1, k2⟩ := ints_two TW.out hcR H7.out.box (by decide) (by decide) I7.out V7.out
  have hb : Box u8 w0.heap.size TT #[.int .i64 n1, .int .i64 n2, .int .i64 n3, .int .i64 n4, .int .i64 n5, .slice a1 ch.length c1, .slice a2 us.length c2] := bx8
  have hle : j7 ≤ W.length := by rw [← hj7]; exact plus2_le hl6
  by_cases ho : j7 < W.length
  · have HB : Hid (lineOf W = .error (placeAt W j7)) := by show _ = _; rw [← hj7]; exact line_over e0 e1 e2 e3 e4 e5 (by rw [hj7]; exact ho)
    have hx : W[j7]? = some W[j7] := by simp [ho]
    have hl := L8.out
    rw [drop_some hx] at hl
    have M := Lib.hid (over_word hl)
    rw [← placeAt_some hx] at M
    clear hl hx
    go_wp2_with (go_at_call 72; (with_reducible refine M.out.mono ?_); rintro y ux ⟨rfl, rfl⟩)
    all_goals
      refine ⟨rfl, ?_⟩
      unfold TaskIs
      rw [HB.out]
      exact ⟨rfl, T8.out⟩
  · have HB : Hid (lineOf W = .ok ⟨n1, n2, n3, n4, n5, ch, us⟩) := by show _ = _; rw [line_ok e0 e1 e2 e3 e4 e5 (by rw [hj7]; exact ho), e6, e7, hch, hus]
    have hl := L8.out
    have hjl : j7 = W.length := by omega
    rw [List.drop_of_length_le (by omega), hjl] at hl
    have M := Lib.hid (over_nil hl)
    obtain ⟨aR, cR2, bR, -⟩ := hl
    have BR := Lib.hid bR
    have I8 := Lib.hid i8
    have V8 := Lib.hid v8
    have K1 := Lib.hid k1
    have K2 := Lib.hid k2
    have HBX := Lib.hid hb
    clear i8 v8 k1 k2 bR hcR H7 I7 V7 TW L8 D8 bx8 hle hjl ho hj7 hj7' hj6 hj6' e7' e0 e1 e2 e3 e4 e5 e6 e7 hch hus
    go_upto_region 10 with (go_at_call 72; (with_reducible refine M.out.mono ?_); rintro y ux ⟨rfl, rfl⟩)
    have r0 : ux.cell? ⟨w0.heap.size, 0, none⟩ = some (.int .i64 n1) := blk_cell hb 0
    have r1 : ux.cell? ⟨w0.heap.size, 1, none⟩ = some (.int .i64 n2) := blk_cell hb 1
    have r2 : ux.cell? ⟨w0.heap.size, 2, none⟩ = some (.int .i64 n3) := blk_cell hb 2
    have r3 : ux.cell? ⟨w0.heap.size, 3, none⟩ = some (.int .i64 n4) := blk_cell hb 3
    have r4 : ux.cell? ⟨w0.heap.size, 4, none⟩ = some (.int .i64 n5) := blk_cell hb 4
    have r5 : ux.cell? ⟨w0.heap.size, 5, none⟩ = some (.slice a1 ch.length c1) := blk_cell hb 5
    have r6 : ux.cell? ⟨w0.heap.size, 6, none⟩ = some (.slice a2 us.length c2) := blk_cell hb 6
    have f0 := blk_free hb 0
    have f1 := blk_free hb 1
    have f2 := blk_free hb 2
    have f3 := blk_free hb 3
    have f4 := blk_free hb 4
    have f5 := blk_free hb 5
    have f6 := blk_free hb 6
    have hr := lt_of_block hb
    have HF : Hid (∀ y0 y1 y2 y3 y4 y5 y6 : Value, TaskIs W R w0 (.returned (TV.mk n1 n2 n3 n4 n5 a1 ch c1 a2 us c2).val) (((((((ux.setCell ⟨w0.heap.size, 0, none⟩ y0).setCell ⟨w0.heap.size, 1, none⟩ y1).setCell ⟨w0.heap.size, 2, none⟩ y2).setCell ⟨w0.heap.size, 3, none⟩ y3).setCell ⟨w0.heap.size, 4, none⟩ y4).setCell ⟨w0.heap.size, 5, none⟩ y5).setCell ⟨w0.heap.size, 6, none⟩ y6)) := by
      intro y0 y1 y2 y3 y4 y5 y6
      have q : Two w0.heap.size w0.heap.size ux (((((((ux.setCell ⟨w0.heap.size, 0, none⟩ y0).setCell ⟨w0.heap.size, 1, none⟩ y1).setCell ⟨w0.heap.size, 2, none⟩ y2).setCell ⟨w0.heap.size, 3, none⟩ y3).setCell ⟨w0.heap.size, 4, none⟩ y4).setCell ⟨w0.heap.size, 5, none⟩ y5).setCell ⟨w0.heap.size, 6, none⟩ y6) := ((((((((Two.refl _ _ _).setT _).setT _).setT _).setT _).setT _).setT _).setT _)
      have q1 := ints_two q HBX.out HBX.out (by decide) (by decide) K1.out K2.out
      have q2 := ints_two q HBX.out HBX.out (by decide) (by decide) I8.out V8.out
      unfold TaskIs
      rw [HB.out]
      exact ⟨_, rfl, rfl, ⟨q1.2, q2.2, l7, m7, l8, m8⟩, ⟨q1.1, n7⟩, ⟨q2.1, n8⟩, ((((((((T8.out.setNew (Nat.le_refl _) _).setNew (Nat.le_refl _) _).setNew (Nat.le_refl _) _).setNew (Nat.le_refl _) _).setNew (Nat.le_refl _) _).setNew (Nat.le_refl _) _).setNew (Nat.le_refl _) _)), _, q.box BR.out hf.ne hf.ne⟩
    clear hb M HBX K1 K2 I8 V8 HB BR T8
    go_wp2_with fail
    exact bodyPost_ret (v := .agg #[.int .i64 n1, .int .i64 n2, .int .i64 n3, .int .i64 n4, .int .i64 n5, .slice a1 ch.length c1, .slice a2 us.length c2]) (by simp [results, Tryz.results47, go_sem, r0, r1, r2, r3, r4, r5, r6, hr]) rfl (HF.out _ _ _ _ _ _ _)
end Go.Proofs.YtlpffgmfgkleiaaGreatDoor

/-
  Words of texts that are put together, in plain words.
-/
namespace Go.Proofs.YtlpffgmfgkleiaaGreatDoor
open Go.RowKit Go.Maps

theorem byteAt_left (a c : ByteArray) {i : Nat} (h : i < a.size) : byteAt (a ++ c) i = byteAt a i := by
  have h2 : i < (a ++ c).size := by rw [ByteArray.size_append]; omega
  rw [(byteAt_in _ h2).2, (byteAt_in a h).2, ByteArray.getElem_append_left h]
theorem byteAt_right (a c : ByteArray) (i : Nat) : byteAt (a ++ c) (a.size + i) = byteAt c i := by
  rcases Nat.lt_or_ge i c.size with h | h
  · have h2 : a.size + i < (a ++ c).size := by rw [ByteArray.size_append]; omega
    rw [(byteAt_in _ h2).2, (byteAt_in c h).2, ByteArray.getElem_append_right (by omega)]
    simp only [Nat.add_sub_cancel_left]
  · rw [byteAt_end c h, byteAt_end (a ++ c) (by rw [ByteArray.size_append]; omega)]
theorem ba_nil {x : ByteArray} (h : x.size = 0) : x = ByteArray.empty := by
  apply ByteArray.ext
  have : x.data.size = 0 := h
  rw [Array.size_eq_zero_iff.1 this]; rfl
theorem ba_add_nil (x : ByteArray) : x ++ ByteArray.empty = x := by
  apply ByteArray.ext
  rw [ByteArray.data_append]
  show x.data ++ #[] = x.data
  simp
theorem ba_nil_add (x : ByteArray) : ByteArray.empty ++ x = x := by
  apply ByteArray.ext
  rw [ByteArray.data_append]
  show #[] ++ x.data = x.data
  simp
theorem ex_left (a c : ByteArray) {f k : Nat} (h : k ≤ a.size) : (a ++ c).extract f k = a.extract f k := by
  rw [ByteArray.extract_append, show k - a.size = 0 by omega, ba_nil (x := c.extract (f - a.size) 0) (by rw [ByteArray.size_extract]; omega), ba_add_nil]
theorem ex_right (a c : ByteArray) (f k : Nat) : (a ++ c).extract (a.size + f) (a.size + k) = c.extract f k := by
  rw [ByteArray.extract_append, ba_nil (x := a.extract (a.size + f) (a.size + k)) (by rw [ByteArray.size_extract]; omega), ba_nil_add, Nat.add_sub_cancel_left, Nat.add_sub_cancel_left]

/-- What the answer knows at a place depends on the bytes ahead alone. -/
theorem wrun_same (s t : ByteArray) : ∀ i, (∀ j, j < i → byteAt s j = byteAt t j) → (∀ f k, k < i → s.extract f k = t.extract f k) → wrun s i = wrun t i
  | 0, _, _ => rfl
  | i + 1, h, e => by
    rw [wrun, wrun, wrun_same s t i (fun j hj => h j (by omega)) (fun f k hk => e f k (by omega))]
    unfold wstep
    rw [h i (by omega), e _ i (by omega)]
/-- How many lines' ends stand ahead of a place. -/
def ends (s : ByteArray) : Nat → Nat
  | 0 => 0
  | i + 1 => ends s i + if byteAt s i = 10 then 1 else 0
theorem wrun_ln (s : ByteArray) : ∀ i, (wrun s i).ln = 1 + (ends s i : Nat)
  | 0 => rfl
  | i + 1 => by
    rw [wrun, ends]
    have ih := wrun_ln s i
    generalize wrun s i = q at ih ⊢
    unfold wstep
    simp only []
    split
    · simp only []
      split <;> omega
    · rename_i h
      have : ¬ byteAt s i = 10 := fun q => h (.inl q)
      rw [if_neg this]
      simp only []; omega
/-- Behind a line's end nothing is under way. -/
theorem wrun_nl (s : ByteArray) {i : Nat} (h : byteAt s i = 10) : (wrun s (i + 1)).fr = -1 ∧ (wrun s (i + 1)).off = false := by
  rw [wrun]; unfold wstep
  simp only []
  rw [if_pos (.inl h)]
  simp only []
  exact ⟨trivial, by rw [if_pos h]⟩
def shiftW (p : Nat) (k : Int) (x : WV) : WV := ⟨x.at_ + p, x.ln + k, x.tx⟩
/-- What the answer knows behind a first text that ends a line. -/
theorem wrun_on (s b : ByteArray) (p : Nat) (q : LS) (hq : wrun s p = q) (hf : q.fr = -1) (ho : q.off = false) (hb : ∀ j, byteAt s (p + j) = byteAt b j) (he : ∀ f k, s.extract (p + f) (p + k) = b.extract f k) : ∀ j, j ≤ b.size + 1 →
    wrun s (p + j) = ⟨q.out ++ (wrun b j).out.map (shiftW p (q.ln - 1)), q.ln - 1 + (wrun b j).ln, if (wrun b j).fr < 0 then -1 else (wrun b j).fr + p, (wrun b j).off⟩
  | 0, _ => by
    rw [Nat.add_zero, hq]
    obtain ⟨o, l, f, n⟩ := q
    simp only [] at hf ho
    subst hf ho
    simp [wrun]
  | j + 1, hj => by
    rw [← Nat.add_assoc, wrun, wrun_on s b p q hq hf ho hb he j (by omega), wrun]
    have iv := wrun_inv b j (by omega)
    generalize wrun b j = r at iv ⊢
    obtain ⟨o, l, f, n⟩ := r
    simp only [] at iv
    unfold wstep
    rw [hb j]
    simp only []
    by_cases h1 : byteAt b j = 10 ∨ (n || decide (byteAt b j = 35)) = true ∨ byteAt b j = 32 ∨ byteAt b j = 9
    · rw [if_pos h1, if_pos h1]
      simp only [LS.mk.injEq]
      refine ⟨?_, ?_, by rw [if_pos (by omega)], trivial⟩
      · by_cases hneg : f < 0
        · rw [if_pos hneg, if_pos hneg, if_pos (by omega)]
        · rw [if_neg hneg, if_neg hneg, if_neg (by omega), List.map_append, List.append_assoc]
          have e1 : (f + (p : Int)).toNat = p + f.toNat := by omega
          rw [e1, he]
          simp only [List.map_cons, List.map_nil, shiftW]
          congr 2
          congr 2
          omega
      · split <;> omega
    · rw [if_neg h1, if_neg h1]
      simp only [LS.mk.injEq, true_and, and_true]
      by_cases hneg : f < 0
      · rw [if_pos hneg, if_pos hneg, if_pos (by omega), if_neg (by omega)]
        omega
      · rw [if_neg hneg, if_neg hneg, if_neg (by omega), if_neg (by omega)]
def nl : ByteArray := ⟨#[10]⟩
/-- The words of two texts with a line's end between them. -/
theorem words_parts (a b : ByteArray) : wordsOf (a ++ nl ++ b) = wordsOf a ++ (wordsOf b).map (shiftW (a.size + 1) (ends a a.size + 1 : Nat)) := by
  have hn : nl.size = 1 := rfl
  have h1 : wrun (a ++ nl ++ b) (a.size + 1) = wrun a (a.size + 1) := by
    have hs : byteAt (a ++ nl ++ b) a.size = 10 := by
      rw [byteAt_left _ _ (by rw [ByteArray.size_append]; omega)]
      have := byteAt_right a nl 0
      rw [Nat.add_zero] at this
      rw [this]; rfl
    refine wrun_same _ _ _ (fun j hj => ?_) (fun f k hk => ?_)
    · rcases Nat.lt_or_ge j a.size with q | q
      · rw [byteAt_left _ _ (by rw [ByteArray.size_append]; omega), byteAt_left _ _ q]
      · rw [show j = a.size by omega, hs, byteAt_end a (Nat.le_refl _)]
    · rw [ex_left _ _ (by rw [ByteArray.size_append]; omega), ex_left _ _ (by omega)]
  have hz := wrun_nl a (byteAt_end a (Nat.le_refl _))
  have hp : (a ++ nl).size = a.size + 1 := by rw [ByteArray.size_append, hn]
  have hl := wrun_ln a (a.size + 1)
  rw [ends, byteAt_end a (Nat.le_refl _), if_pos rfl] at hl
  have := wrun_on (a ++ nl ++ b) b (a.size + 1) _ h1 hz.1 hz.2 (fun j => by rw [← hp]; exact byteAt_right _ _ j) (fun f k => by rw [← hp]; exact ex_right _ _ f k) (b.size + 1) (by omega)
  unfold wordsOf
  rw [ByteArray.size_append, hp, show a.size + 1 + b.size + 1 = a.size + 1 + (b.size + 1) by omega, this, hl]
  simp only []
  congr 3
  omega
end Go.Proofs.YtlpffgmfgkleiaaGreatDoor

/-
  Words of texts with a note, in plain words.
-/
namespace Go.Proofs.YtlpffgmfgkleiaaGreatDoor
open Go.RowKit Go.Maps

/-- Behind a note's mark nothing counts up to the line's end. -/
theorem wrun_off (s : ByteArray) (p : Nat) (hf : (wrun s p).fr = -1) (ho : (wrun s p).off = true) : ∀ n, (∀ j, j < n → byteAt s (p + j) ≠ 10) → wrun s (p + n) = wrun s p
  | 0, _ => rfl
  | n + 1, h => by
    rw [← Nat.add_assoc, wrun, wrun_off s p hf ho n (fun j hj => h j (by omega))]
    have h10 := h n (by omega)
    generalize wrun s p = q at hf ho ⊢
    obtain ⟨o, l, f, b⟩ := q
    simp only [] at hf ho
    subst hf ho
    unfold wstep
    simp only [Bool.true_or]
    rw [if_pos (.inr (.inl trivial)), if_pos (by omega), if_neg h10, if_neg h10]
/-- The mark of a note. -/
theorem wrun_mark (s : ByteArray) {p : Nat} (h : byteAt s p = 35) : (wrun s (p + 1)).fr = -1 ∧ (wrun s (p + 1)).off = true := by
  rw [wrun]; unfold wstep
  simp only []
  have e : ((wrun s p).off || decide (byteAt s p = 35)) = true := by rw [h]; simp
  rw [if_pos (.inr (.inl e)), e]
  simp only []
  exact ⟨trivial, by rw [if_neg (by omega)]⟩
/-- At the text's end, where no word is under way, nothing is added. -/
theorem words_end (s : ByteArray) (h : (wrun s s.size).fr = -1) : wordsOf s = (wrun s s.size).out := by
  unfold wordsOf
  rw [wrun]; unfold wstep
  simp only []
  rw [if_pos (.inl (byteAt_end s (Nat.le_refl _))), h]
  simp
def mark : ByteArray := ⟨#[35]⟩
def gap : ByteArray := ⟨#[32, 9]⟩
/-- A note behind a text changes no word of it. -/
theorem words_note (x y : ByteArray) (hy : ∀ j, j < y.size → byteAt y j ≠ 10) : wordsOf (x ++ mark ++ y) = (wrun (x ++ mark) (x.size + 1)).out := by
  have hm : mark.size = 1 := rfl
  have hp : (x ++ mark).size = x.size + 1 := by rw [ByteArray.size_append, hm]
  have hz : (x ++ mark ++ y).size = x.size + 1 + y.size := by rw [ByteArray.size_append, hp]
  have h1 : wrun (x ++ mark ++ y) (x.size + 1) = wrun (x ++ mark) (x.size + 1) := by
    refine wrun_same _ _ _ (fun j hj => ?_) (fun f k hk => ?_)
    · rw [byteAt_left _ _ (by omega)]
    · rw [ex_left _ _ (by omega)]
  have hs : byteAt (x ++ mark) x.size = 35 := by
    have := byteAt_right x mark 0
    rw [Nat.add_zero] at this
    rw [this]; rfl
  obtain ⟨f1, f2⟩ := wrun_mark (x ++ mark) hs
  rw [← h1] at f1 f2 ⊢
  have := wrun_off (x ++ mark ++ y) (x.size + 1) f1 f2 y.size (fun j hj => by
    have e := byteAt_right (x ++ mark) y j
    rw [hp] at e
    rw [e]; exact hy j hj)
  rw [words_end, hz, this]
  rw [hz, this]; exact f1
theorem words_note_same (x y : ByteArray) (hy : ∀ j, j < y.size → byteAt y j ≠ 10) : wordsOf (x ++ mark ++ y) = wordsOf (x ++ mark) := by
  rw [words_note x y hy, ← words_note x ByteArray.empty (fun j hj => absurd hj (Nat.not_lt_zero _)), ba_add_nil]
/-- Blanks and a note behind a text change no word of it. -/
theorem words_gap (x y : ByteArray) (hy : ∀ j, j < y.size → byteAt y j ≠ 10) : wordsOf (x ++ gap ++ mark ++ y) = wordsOf x := by
  rw [words_note (x ++ gap) y hy]
  have hg : gap.size = 2 := rfl
  have hm : mark.size = 1 := rfl
  have h0 : wrun (x ++ gap ++ mark) x.size = wrun x x.size := by
    refine wrun_same _ _ _ (fun j hj => ?_) (fun f k hk => ?_)
    · rw [byteAt_left _ _ (by rw [ByteArray.size_append]; omega), byteAt_left _ _ (by omega)]
    · rw [ex_left _ _ (by rw [ByteArray.size_append]; omega), ex_left _ _ (by omega)]
  have hs : (x ++ gap).size = x.size + 2 := by rw [ByteArray.size_append, hg]
  have hex : ∀ f, (x ++ gap ++ mark).extract f x.size = x.extract f x.size := fun f => by
    rw [ex_left _ _ (by omega), ex_left _ _ (by omega)]
  have b0 : byteAt (x ++ gap ++ mark) x.size = 32 := by
    rw [byteAt_left _ _ (by omega)]
    have := byteAt_right x gap 0
    rw [Nat.add_zero] at this
    rw [this]; rfl
  have b1 : byteAt (x ++ gap ++ mark) (x.size + 1) = 9 := by
    rw [byteAt_left _ _ (by omega), byteAt_right x gap 1]; rfl
  have b2 : byteAt (x ++ gap ++ mark) (x.size + 1 + 1) = 35 := by
    have := byteAt_right (x ++ gap) mark 0
    rw [hs, Nat.add_zero] at this
    rw [this]; rfl
  have be := byteAt_end x (Nat.le_refl x.size)
  rw [hs]
  unfold wordsOf
  rw [show x.size + 2 + 1 = x.size + 1 + 1 + 1 by omega]
  simp only [wrun]
  rw [h0]
  generalize wrun x x.size = q
  obtain ⟨o, l, f, b⟩ := q
  unfold wstep
  rw [b0, b1, b2, be, hex]
  simp
/-- A text without a line's end. -/
theorem ends_none (s : ByteArray) : ∀ i, (∀ j, j < i → byteAt s j ≠ 10) → ends s i = 0
  | 0, _ => rfl
  | i + 1, h => by rw [ends, ends_none s i (fun j hj => h j (by omega)), if_neg (h i (by omega))]
end Go.Proofs.YtlpffgmfgkleiaaGreatDoor
