/-
  Runes of a text against its bytes, in plain words: what the words are at each rune.
-/
import Derived.Test.YtbipjilpogbicaaDoorLNum
import Derived.Lib.DecodeN
import Derived.Laws.RangeAny
namespace Go.Proofs.YtbipjilpogbicaaDoor
open Go.RowKit Go.Maps

theorem get_byte (s : ByteArray) {j : Nat} (h : j < s.size) : (s.get! j).toNat = byteAt s j := by
  rw [(byteAt_in s h).2]
  have := get_at s j h
  rw [Nat.add_zero] at this
  rw [this]
/-- A rune that is longer than a byte is made of bytes that are none of the marks. -/
theorem dec_high (s : ByteArray) (p : Nat) (h : p < s.size) (hb : 128 ≤ byteAt s p) :
    128 ≤ (Utf8.decode s p).1 ∧ 1 ≤ (Utf8.decode s p).2 ∧ p + (Utf8.decode s p).2 ≤ s.size ∧ ∀ j, p ≤ j → j < p + (Utf8.decode s p).2 → 128 ≤ byteAt s j := by
  have hd := decode_high s p h (by rw [← (byteAt_in s h).2]; exact hb)
  refine ⟨hd.1, hd.2, ?_⟩
  have key : (Utf8.decode s p).2 = 1 ∨ ((Utf8.decode s p).2 = 2 ∧ p + 1 < s.size ∧ (s.get! (p + 1)).toNat / 64 = 2) ∨ ((Utf8.decode s p).2 = 3 ∧ p + 2 < s.size ∧ (s.get! (p + 1)).toNat / 64 = 2 ∧ (s.get! (p + 2)).toNat / 64 = 2) ∨
      ((Utf8.decode s p).2 = 4 ∧ p + 3 < s.size ∧ (s.get! (p + 1)).toNat / 64 = 2 ∧ (s.get! (p + 2)).toNat / 64 = 2 ∧ (s.get! (p + 3)).toNat / 64 = 2) := by
    rw [Lib.decode_at]
    generalize (s.get! p).toNat = b0
    generalize (s.get! (p + 1)).toNat = b1
    generalize (s.get! (p + 2)).toNat = b2
    generalize (s.get! (p + 3)).toNat = b3
    unfold Lib.decodeN
    split
    · exact .inl rfl
    · split
      · rename_i _ h1
        split
        · exact .inr (.inl ⟨rfl, by omega, h1.2.2⟩)
        · exact .inl rfl
      · split
        · rename_i _ _ h1
          split
          · exact .inr (.inr (.inl ⟨rfl, by omega, h1.2.1.2, h1.2.2.2⟩))
          · exact .inl rfl
        · split
          · rename_i _ _ _ h1
            split
            · exact .inr (.inr (.inr ⟨rfl, by omega, h1.2.1.2, h1.2.2.1.2, h1.2.2.2.2⟩))
            · exact .inl rfl
          · exact .inl rfl
  rcases key with e | ⟨e, hl, h1⟩ | ⟨e, hl, h1, h2⟩ | ⟨e, hl, h1, h2, h3⟩
  · rw [e]
    refine ⟨by omega, fun j hj1 hj2 => ?_⟩
    obtain rfl : j = p := by omega
    exact hb
  · rw [get_byte s (by omega)] at h1
    rw [e]
    refine ⟨by omega, fun j hj1 hj2 => ?_⟩
    rcases (show j = p ∨ j = p + 1 by omega) with rfl | rfl
    · exact hb
    · omega
  · rw [get_byte s (by omega)] at h1 h2
    rw [e]
    refine ⟨by omega, fun j hj1 hj2 => ?_⟩
    rcases (show j = p ∨ j = p + 1 ∨ j = p + 2 by omega) with rfl | rfl | rfl
    · exact hb
    · omega
    · omega
  · rw [get_byte s (by omega)] at h1 h2 h3
    rw [e]
    refine ⟨by omega, fun j hj1 hj2 => ?_⟩
    rcases (show j = p ∨ j = p + 1 ∨ j = p + 2 ∨ j = p + 3 by omega) with rfl | rfl | rfl | rfl
    · exact hb
    · omega
    · omega
    · omega
theorem dec_low (s : ByteArray) (p : Nat) (h : p < s.size) (hb : byteAt s p < 128) : Utf8.decode s p = (byteAt s p, 1) := by
  rw [(byteAt_in s h).2] at hb ⊢
  exact decode_ascii s p h hb

/-- Behind a note's mark no word has begun. -/
theorem wrun_rem (s : ByteArray) : ∀ i, (wrun s i).off = true → (wrun s i).fr = -1
  | 0, h => by simp [wrun] at h
  | i + 1, h => by
    rw [wrun] at h ⊢
    have ih := wrun_rem s i
    generalize wrun s i = q at h ih ⊢
    unfold wstep at h ⊢
    simp only [] at h ⊢
    split
    · rfl
    · rename_i hn
      rw [if_neg hn] at h
      simp only [] at h
      exact absurd (.inr (.inl (by rw [h]; rfl))) hn
theorem wrun_high (s : ByteArray) (p : Nat) : ∀ w, (∀ j, p ≤ j → j < p + w + 1 → 128 ≤ byteAt s j) →
    wrun s (p + w + 1) = if (wrun s p).off = true then wrun s p else ⟨(wrun s p).out, (wrun s p).ln, if (wrun s p).fr < 0 then (p : Int) else (wrun s p).fr, false⟩
  | 0, hb => by
    have h := hb p (by omega) (by omega)
    have ho := wrun_rem s p
    rw [Nat.add_zero, wrun]
    generalize wrun s p = q at ho ⊢
    obtain ⟨out, ln, fr, off⟩ := q
    unfold wstep
    simp only [] at ho ⊢
    cases off with
    | true =>
      have := ho rfl
      subst this
      simp [show ¬ byteAt s p = 10 by omega]
    | false =>
      simp [show ¬ byteAt s p = 10 by omega, show ¬ byteAt s p = 35 by omega, show ¬ byteAt s p = 32 by omega, show ¬ byteAt s p = 9 by omega]
  | w + 1, hb => by
    have ih := wrun_high s p w (fun j h1 h2 => hb j h1 (by omega))
    have h := hb (p + w + 1) (by omega) (by omega)
    have ho := wrun_rem s p
    have hf := (wrun_inv s p)
    rw [show p + (w + 1) + 1 = (p + w + 1) + 1 by omega, wrun, ih]
    generalize wrun s p = q at ho ⊢
    obtain ⟨out, ln, fr, off⟩ := q
    simp only [] at ho ⊢
    cases off with
    | true =>
      have := ho rfl
      subst this
      unfold wstep
      simp [show ¬ byteAt s (p + w + 1) = 10 by omega]
    | false =>
      unfold wstep
      by_cases hfr : fr < 0
      · simp [hfr, show ¬ byteAt s (p + w + 1) = 10 by omega, show ¬ byteAt s (p + w + 1) = 35 by omega, show ¬ byteAt s (p + w + 1) = 32 by omega, show ¬ byteAt s (p + w + 1) = 9 by omega]
        omega
      · simp [hfr, show ¬ byteAt s (p + w + 1) = 10 by omega, show ¬ byteAt s (p + w + 1) = 35 by omega, show ¬ byteAt s (p + w + 1) = 32 by omega, show ¬ byteAt s (p + w + 1) = 9 by omega]

/-- What has been told when a word ends at a place. -/
def told (s : ByteArray) (p : Nat) (q : LS) : List WV := if q.fr < 0 then q.out else q.out ++ [⟨q.fr, q.ln, s.extract q.fr.toNat p⟩]
/-- A rune further. -/
theorem rune_step (s : ByteArray) (p : Nat) (h : p < s.size) {r w : Nat} (hd : Utf8.decode s p = (r, w)) {q : LS} (hq : wrun s p = q) :
    1 ≤ w ∧ p + w ≤ s.size ∧
    (r = 10 → wrun s (p + w) = ⟨told s p q, q.ln + 1, -1, false⟩) ∧
    (r ≠ 10 → (q.off = true ∨ r = 35) → wrun s (p + w) = ⟨told s p q, q.ln, -1, true⟩) ∧
    (q.off = false → (r = 32 ∨ r = 9) → wrun s (p + w) = ⟨told s p q, q.ln, -1, false⟩) ∧
    (q.off = false → r ≠ 10 → r ≠ 35 → r ≠ 32 → r ≠ 9 → wrun s (p + w) = ⟨q.out, q.ln, if q.fr < 0 then (p : Int) else q.fr, false⟩) := by
  have ho := wrun_rem s p
  rw [hq] at ho
  by_cases hb : byteAt s p < 128
  · have := dec_low s p h hb
    rw [hd] at this
    injection this with h1 h2
    subst h2
    have hs : wrun s (p + 1) = wstep s p q := by rw [wrun, hq]
    refine ⟨by omega, by omega, ?_, ?_, ?_, ?_⟩
    · intro e
      have h10 : byteAt s p = 10 := by omega
      rw [hs]; unfold wstep told; simp [h10]
    · intro e1 e2
      have h10 : ¬ byteAt s p = 10 := by omega
      have hoff : (q.off || decide (byteAt s p = 35)) = true := by
        rcases e2 with e2 | e2
        · rw [e2]; rfl
        · rw [show byteAt s p = 35 by omega]; simp
      rw [hs]; unfold wstep told; simp only [hoff]; simp [h10]
    · intro e1 e2
      have h10 : ¬ byteAt s p = 10 := by omega
      have hoff : (q.off || decide (byteAt s p = 35)) = false := by
        rw [e1]; simp; omega
      have hbl : byteAt s p = 32 ∨ byteAt s p = 9 := by omega
      rw [hs]; unfold wstep told; simp only [hoff]; simp [h10, hbl]
    · intro e1 e2 e3 e4 e5
      have hoff : (q.off || decide (byteAt s p = 35)) = false := by
        rw [e1]; simp; omega
      have h10 : ¬ byteAt s p = 10 := by omega
      have h32 : ¬ byteAt s p = 32 := by omega
      have h9 : ¬ byteAt s p = 9 := by omega
      rw [hs]; unfold wstep; simp only [hoff]; simp [h10, h32, h9, e1]
  · obtain ⟨d1, d2, d3, d4⟩ := dec_high s p h (by omega)
    rw [hd] at d1 d2 d3 d4
    simp only [] at d1 d2 d3 d4
    have hr := wrun_high s p (w - 1) (fun j h1 h2 => d4 j h1 (by omega))
    rw [show p + (w - 1) + 1 = p + w by omega, hq] at hr
    refine ⟨d2, d3, fun e => by omega, ?_, fun _ e => by omega, ?_⟩
    · intro _ e2
      have e2 : q.off = true := by rcases e2 with e2 | e2
                                   · exact e2
                                   · omega
      rw [hr, if_pos e2]
      have hfr := ho e2
      obtain ⟨out, ln, fr, off⟩ := q
      have e3 : off = true := e2
      have e4 : fr = -1 := hfr
      subst e3
      subst e4
      simp [told]
    · intro e1 _ _ _ _
      rw [hr, if_neg (by rw [e1]; simp)]
/-- At the text's end. -/
theorem rune_end (s : ByteArray) {q : LS} (hq : wrun s s.size = q) : wordsOf s = told s s.size q := by
  unfold wordsOf
  rw [wrun, hq]
  unfold wstep told
  simp only []
  rw [if_pos (.inl (byteAt_end s (Nat.le_refl _)))]
end Go.Proofs.YtbipjilpogbicaaDoor
