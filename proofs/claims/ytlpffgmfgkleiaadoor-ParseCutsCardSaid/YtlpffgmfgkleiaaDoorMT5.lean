/- Texts of this claim, put together: YWds, LP4, YTx2, LP2, LP3, YTx3, YTx4, YLine, YPrg, YRow, YMust, YStep, YStage, YCache. -/
import Derived.Test.YtlpffgmfgkleiaaDoorMT4
set_option linter.unusedVariables false
set_option linter.unusedSimpArgs false

/-
  The words of a task's text, in plain words.
-/
namespace Go.Proofs.YtlpffgmfgkleiaaDoor
open Go.RowKit Go.Maps

abbrev tC : ByteArray := ⟨#[99, 61]⟩
abbrev tD : ByteArray := ⟨#[100, 61]⟩
abbrev tT : ByteArray := ⟨#[116, 61]⟩
abbrev tP : ByteArray := ⟨#[112, 61]⟩
abbrev tChunks : ByteArray := ⟨#[99, 104, 117, 110, 107, 115, 61]⟩
abbrev tUse : ByteArray := ⟨#[117, 115, 101, 61]⟩
def sixOf (t : Tk) : List ByteArray := [bTask, digOf t.id, tC ++ digOf t.c, tD ++ digOf t.d, tT ++ digOf t.t, tP ++ digOf t.p]
def chZ (t : Tk) : List ByteArray := if t.ch = [] then [] else [tChunks ++ joinOf t.ch]
def usZ (t : Tk) : List ByteArray := if t.us = [] then [] else [tUse ++ joinOf t.us]
theorem sTask_is : sTask = bTask ++ ⟨#[32]⟩ := rfl
theorem sC_is : sC = ⟨#[32]⟩ ++ tC := rfl
theorem sD_is : sD = ⟨#[32]⟩ ++ tD := rfl
theorem sT_is : sT = ⟨#[32]⟩ ++ tT := rfl
theorem sP_is : sP = ⟨#[32]⟩ ++ tP := rfl
theorem sChunks_is : sChunks = ⟨#[32]⟩ ++ tChunks := rfl
theorem sUse_is : sUse = ⟨#[32]⟩ ++ tUse := rfl
theorem whole_words (t : Tk) : wholeOf t = joinZ (sixOf t ++ chZ t ++ usZ t) := by
  unfold wholeOf midOf headOf chZ usZ sixOf
  by_cases h1 : t.ch = []
  · by_cases h2 : t.us = []
    · simp only [if_pos h1, if_pos h2, List.append_nil, joinZ, sTask_is, sC_is, sD_is, sT_is, sP_is, ByteArray.append_assoc]
    · simp only [if_pos h1, if_neg h2, List.append_nil, List.cons_append, List.nil_append, joinZ, sTask_is, sC_is, sD_is, sT_is, sP_is, sUse_is, ByteArray.append_assoc]
  · by_cases h2 : t.us = []
    · simp only [if_neg h1, if_pos h2, List.append_nil, List.cons_append, List.nil_append, joinZ, sTask_is, sC_is, sD_is, sT_is, sP_is, sChunks_is, ByteArray.append_assoc]
    · simp only [if_neg h1, if_neg h2, List.append_nil, List.cons_append, List.nil_append, joinZ, sTask_is, sC_is, sD_is, sT_is, sP_is, sChunks_is, sUse_is, ByteArray.append_assoc]
end Go.Proofs.YtlpffgmfgkleiaaDoor

/-
  Numbers that are read from their digits, in plain words.
-/
namespace Go.Proofs.YtlpffgmfgkleiaaDoor
open Go.RowKit Go.Maps

theorem nrun_same (s t : ByteArray) : ∀ i, (∀ j, j < i → byteAt s j = byteAt t j) → nrun s i = nrun t i
  | 0, _ => rfl
  | i + 1, h => by
    rw [nrun, nrun, nrun_same s t i (fun j hj => h j (by omega)), h i (by omega)]
theorem byte_one (c : UInt8) : byteAt ⟨#[c]⟩ 0 = c.toNat := (byteAt_in ⟨#[c]⟩ (i := 0) (show (0 : Nat) < 1 by omega)).2
theorem dig_nat {d : Nat} (h : d < 10) : (UInt8.ofNat (48 + d)).toNat = 48 + d := by rw [UInt8.toNat_ofNat']; omega
/-- What the digits of a number are. -/
structure DigsOf (s : ByteArray) (n : Nat) : Prop where
  has : 0 < s.size
  run : nrun s s.size = some n
  lead : 1 < s.size → byteAt s 0 ≠ 48
  pos : 0 < n → byteAt s 0 ≠ 48
  dig : ∀ j, j < s.size → 48 ≤ byteAt s j ∧ byteAt s j ≤ 57
theorem upOf_digs : ∀ n : Nat, n ≤ 9223372036854775807 → DigsOf (upOf n) n := by
  intro n
  induction n using Nat.strongRecOn with
  | ind n ih =>
    intro hn
    by_cases h : n < 10
    · rw [upOf_small h]
      have hb := byte_one (UInt8.ofNat (48 + n))
      rw [dig_nat h] at hb
      refine ⟨show (0 : Nat) < 1 by omega, ?_, fun z => absurd z (show ¬ (1 : Nat) < 1 by omega), fun _ => by omega, fun j hj => ?_⟩
      · show nrun _ (0 + 1) = _
        simp only [nrun, hb]
        rw [if_neg (by omega)]
        congr 1; omega
      · have : j = 0 := by
          have e : (⟨#[UInt8.ofNat (48 + n)]⟩ : ByteArray).size = 1 := rfl
          omega
        subst this; omega
    · have q := ih (n / 10) (by omega) (by omega)
      rw [upOf_more h]
      generalize upOf (n / 10) = u at q ⊢
      obtain ⟨q1, q2, q3, q4, q5⟩ := q
      have he : (⟨#[UInt8.ofNat (48 + n % 10)]⟩ : ByteArray).size = 1 := rfl
      have hb := byte_one (UInt8.ofNat (48 + n % 10))
      rw [dig_nat (by omega)] at hb
      have hl := byteAt_right u ⟨#[UInt8.ofNat (48 + n % 10)]⟩ 0
      rw [hb, Nat.add_zero] at hl
      have h0 := byteAt_left u ⟨#[UInt8.ofNat (48 + n % 10)]⟩ q1
      have hz := q4 (by omega)
      have hsz : (u ++ ⟨#[UInt8.ofNat (48 + n % 10)]⟩).size = u.size + 1 := by rw [ByteArray.size_append, he]
      refine ⟨by omega, ?_, fun _ => by rw [h0]; exact hz, fun _ => by rw [h0]; exact hz, fun j hj => ?_⟩
      · rw [hsz, nrun, nrun_same _ u u.size (fun j hj => byteAt_left _ _ hj), q2]
        simp only [hl]
        rw [if_neg (by omega)]
        congr 1; omega
      · rcases Nat.lt_or_ge j u.size with g | g
        · rw [byteAt_left _ _ g]; exact q5 j g
        · have : j = u.size := by omega
          subst this
          rw [hl]; omega
theorem digOf_digs {n : Int} (h0 : 0 ≤ n) (h : I64 n) : DigsOf (digOf n) n.toNat := by
  unfold digOf
  rw [if_neg (by omega), show n.natAbs = n.toNat by omega]
  exact upOf_digs _ (by unfold I64 at h; omega)
/-- A number is read from its digits, up to a bound. -/
theorem DigsOf.num {s : ByteArray} {n : Nat} (h : DigsOf s n) (most : Int) : numOf s most = if most < (n : Int) then none else some n := by
  unfold numOf
  have h1 := h.has
  rw [if_neg (by rintro (z | ⟨z1, z2⟩); omega; exact h.lead z1 z2), h.run]
/-- With a byte behind it that is no digit it is none. -/
theorem DigsOf.more {s : ByteArray} {n : Nat} (h : DigsOf s n) (most : Int) (c : UInt8) (hc : c.toNat < 48) : numOf (s ++ ⟨#[c]⟩) most = none := by
  have h1 := h.has
  have he : (⟨#[c]⟩ : ByteArray).size = 1 := rfl
  have hl := byteAt_right s ⟨#[c]⟩ 0
  rw [byte_one, Nat.add_zero] at hl
  unfold numOf
  rw [ByteArray.size_append, he]
  have e : nrun (s ++ ⟨#[c]⟩) (s.size + 1) = none := by
    rw [nrun, nrun_same _ s s.size (fun j hj => byteAt_left _ _ hj), h.run]
    simp only [hl]
    rw [if_pos (.inl hc)]
  rw [e]
  split <;> rfl

theorem nsrun_same (s t : ByteArray) (most : Int) : ∀ i, i ≤ s.size → i ≤ t.size → (∀ j, j < i → byteAt s j = byteAt t j) → (∀ f k, k < i → s.extract f k = t.extract f k) → nsrun s most i = nsrun t most i
  | 0, _, _, _, _ => rfl
  | i + 1, hs, ht, h, e => by
    rw [nsrun, nsrun, nsrun_same s t most i (by omega) (by omega) (fun j hj => h j (by omega)) (fun f k hk => e f k (by omega))]
    have c : (i < s.size ∧ byteAt s i ≠ 44) ↔ (i < t.size ∧ byteAt t i ≠ 44) := by rw [h i (by omega)]; constructor <;> rintro ⟨_, q⟩ <;> exact ⟨by omega, q⟩
    cases nsrun t most i with
    | none => rfl
    | some p =>
      obtain ⟨l, f⟩ := p
      simp only []
      by_cases g : i < t.size ∧ byteAt t i ≠ 44
      · rw [if_pos g, if_pos (c.2 g)]
      · rw [if_neg g, if_neg (fun z => g (c.1 z)), e f i (by omega)]
theorem nsrun_stay (s : ByteArray) (most : Int) (i : Nat) (l : List Int) (f : Nat) (h : nsrun s most i = some (l, f)) : ∀ n, (∀ j, j < n → i + j < s.size ∧ byteAt s (i + j) ≠ 44) → nsrun s most (i + n) = some (l, f)
  | 0, _ => h
  | n + 1, g => by
    rw [← Nat.add_assoc, nsrun, nsrun_stay s most i l f h n (fun j hj => g j (by omega))]
    simp only []
    rw [if_pos (g n (by omega))]
def comma : ByteArray := ⟨#[44]⟩
def MostOf : Int := 9223372036854775807
/-- What is known behind the first numbers of a row that was joined. -/
theorem joined (l : List Int) (hl : ∀ x ∈ l, 0 ≤ x ∧ I64 x) : ∀ k, k < l.length → ∃ f, f ≤ (jrun l (k + 1)).size ∧ nsrun (jrun l (k + 1)) MostOf (jrun l (k + 1)).size = some (l.take k, f) ∧ (jrun l (k + 1)).extract f (jrun l (k + 1)).size = digOf (l[k]?.getD 0)
  | 0, h => by
    obtain ⟨x, hx⟩ := nth_of (rfl : l.length = l.length) h
    have ⟨h0, hi⟩ := hl x (List.mem_of_getElem? hx)
    have D := digOf_digs h0 hi
    have e : jrun l (0 + 1) = digOf x := by
      rw [jrun, if_pos rfl, hx]
      exact ba_nil_add _
    rw [e, hx]
    show ∃ f, f ≤ (digOf x).size ∧ _ ∧ (digOf x).extract f (digOf x).size = digOf x
    generalize digOf x = d at D ⊢
    refine ⟨0, by omega, ?_, ?_⟩
    · have := nsrun_stay d MostOf 0 [] 0 rfl d.size (fun j hj => ⟨by omega, by rw [Nat.zero_add]; have := D.dig j hj; omega⟩)
      rw [Nat.zero_add] at this
      rw [this]; rfl
    · apply ByteArray.ext
      rw [ByteArray.data_extract]
      exact Array.extract_size
  | k + 1, h => by
    obtain ⟨f, hf, h1, h2⟩ := joined l hl k (by omega)
    obtain ⟨y, hy⟩ := nth_of (rfl : l.length = l.length) (show k < l.length by omega)
    obtain ⟨x, hx⟩ := nth_of (rfl : l.length = l.length) h
    have ⟨h0, hi⟩ := hl x (List.mem_of_getElem? hx)
    have ⟨g0, gi⟩ := hl y (List.mem_of_getElem? hy)
    have D := digOf_digs h0 hi
    have E := digOf_digs g0 gi
    have e : jrun l (k + 1 + 1) = jrun l (k + 1) ++ comma ++ digOf x := by
      rw [jrun, if_neg (by omega), hx]; rfl
    rw [e, hx]
    rw [hy] at h2
    change _ = digOf y at h2
    show ∃ f, _ ∧ _ ∧ _ = digOf x
    generalize jrun l (k + 1) = t at hf h1 h2 ⊢
    generalize digOf x = d at D ⊢
    have hcs : comma.size = 1 := rfl
    have htc : (t ++ comma).size = t.size + 1 := by rw [ByteArray.size_append, hcs]
    have hz : (t ++ comma ++ d).size = t.size + 1 + d.size := by rw [ByteArray.size_append, htc]
    have s1 : nsrun (t ++ comma ++ d) MostOf t.size = some (l.take k, f) := by
      rw [nsrun_same _ t MostOf t.size (by omega) (Nat.le_refl _) (fun j hj => by rw [byteAt_left _ _ (by omega), byteAt_left _ _ hj]) (fun f k hk => by rw [ex_left _ _ (by omega), ex_left _ _ (by omega)]), h1]
    have b44 : byteAt (t ++ comma ++ d) t.size = 44 := by
      rw [byteAt_left _ _ (by omega)]
      have := byteAt_right t comma 0
      rw [Nat.add_zero] at this
      rw [this]; rfl
    have htk : l.take (k + 1) = l.take k ++ [y] := by rw [List.take_add_one, hy]; rfl
    have s2 : nsrun (t ++ comma ++ d) MostOf (t.size + 1) = some (l.take (k + 1), t.size + 1) := by
      rw [nsrun, s1]
      simp only []
      rw [if_neg (by rintro ⟨_, z⟩; exact z b44), ex_left _ _ (by omega), ex_left _ _ (by omega), h2, E.num, if_neg (by unfold MostOf; unfold I64 at gi; omega), htk]
      simp only []
      rw [show ((y.toNat : Nat) : Int) = y by omega]
    refine ⟨t.size + 1, by omega, ?_, ?_⟩
    · rw [hz]
      exact nsrun_stay _ _ _ _ _ s2 d.size (fun j hj => ⟨by omega, by
        have e := byteAt_right (t ++ comma) d j
        rw [htc] at e
        rw [e]; have := D.dig j hj; omega⟩)
    · rw [hz]
      have := ex_right (t ++ comma) d 0 d.size
      rw [htc, Nat.add_zero] at this
      rw [this]
      apply ByteArray.ext
      rw [ByteArray.data_extract]
      exact Array.extract_size
/-- A row of numbers is read from what it was joined to. -/
theorem nums_join (l : List Int) (hl : ∀ x ∈ l, 0 ≤ x ∧ I64 x) (h : 0 < l.length) : numsOf (joinOf l) MostOf = some l := by
  obtain ⟨k, hk⟩ : ∃ k, l.length = k + 1 := ⟨l.length - 1, by omega⟩
  obtain ⟨f, hf, h1, h2⟩ := joined l hl k (by omega)
  obtain ⟨y, hy⟩ := nth_of (rfl : l.length = l.length) (show k < l.length by omega)
  have ⟨g0, gi⟩ := hl y (List.mem_of_getElem? hy)
  have E := digOf_digs g0 gi
  rw [hy] at h2
  change _ = digOf y at h2
  unfold numsOf joinOf
  rw [hk]
  generalize jrun l (k + 1) = t at hf h1 h2 ⊢
  have htk : l.take (k + 1) = l.take k ++ [y] := by rw [List.take_add_one, hy]; rfl
  rw [nsrun, h1]
  simp only []
  rw [if_neg (by omega), h2, E.num, if_neg (by unfold MostOf; unfold I64 at gi; omega)]
  simp only [Option.map_some]
  rw [show ((y.toNat : Nat) : Int) = y by omega, ← htk, List.take_of_length_le (by omega)]
theorem nums_join_none : numsOf (joinOf []) MostOf = none := by
  unfold numsOf joinOf jrun
  have e : (⟨#[]⟩ : ByteArray).size = 0 := rfl
  show Option.map _ (nsrun ⟨#[]⟩ MostOf (0 + 1)) = none
  simp only [nsrun]
  rw [if_neg (by rw [e]; omega)]
  have : numOf ((⟨#[]⟩ : ByteArray).extract 0 0) MostOf = none := by
    unfold numOf
    rw [if_pos (.inl (by rw [ByteArray.size_extract]; omega))]
  rw [this]; rfl
end Go.Proofs.YtlpffgmfgkleiaaDoor

/-
  The printed text's lines by their words' texts; texts that are turned, cut or go on.
-/
namespace Go.Proofs.YtlpffgmfgkleiaaDoor
open Go.RowKit Go.Maps

/-- Words with a blank between, behind what was under way. -/
theorem arun_joinZ (d : List (List ByteArray)) : ∀ (l : List ByteArray) (x : ByteArray) (cur : List ByteArray), (∀ w ∈ x :: l, Clean w ∧ 0 < w.size) → ∃ v, 0 < v.size ∧ ∃ c', arun (joinZ (x :: l)) ⟨d, cur, noB, false⟩ = ⟨d, c', v, false⟩ ∧ c' ++ [v] = cur ++ (x :: l)
  | [], x, cur, h => by
    obtain ⟨h1, h2⟩ := h x (List.mem_cons_self ..)
    refine ⟨x, h2, cur, ?_, rfl⟩
    rw [joinZ, arun_clean h1]
    congr 1
  | y :: l, x, cur, h => by
    obtain ⟨h1, h2⟩ := h x (List.mem_cons_self ..)
    obtain ⟨v, hv, c', e1, e2⟩ := arun_joinZ d l y (cur ++ [x]) (fun w hw => h w (List.mem_cons_of_mem _ hw))
    refine ⟨v, hv, c', ?_, by rw [e2, List.append_assoc]; rfl⟩
    rw [joinZ, arun_append, arun_append, arun_clean h1, show noB ++ x = x from ba_nil_add x, arun_byte, sp_close d cur x h2, e1]
/-- A line of words, and its end. -/
theorem arun_line (d : List (List ByteArray)) (x : ByteArray) (l : List ByteArray) (h : ∀ w ∈ x :: l, Clean w ∧ 0 < w.size) : arun (joinZ (x :: l) ++ sNl) (aZ d) = aZ (d ++ [x :: l]) := by
  obtain ⟨v, hv, c', e1, e2⟩ := arun_joinZ d l x [] h
  rw [arun_append, show aZ d = ⟨d, [], noB, false⟩ from rfl, e1]
  show astep ⟨d, c', v, false⟩ 10 = _
  rw [nl_lines d c' v hv, e2]; rfl
theorem aZ_lines (d : List (List ByteArray)) : (aZ d).lines = d := by
  unfold AQ.lines AQ.close aZ
  rw [if_pos (show noB.size = 0 from rfl), if_pos rfl]

/-! ### clean words -/
theorem clean_up : ∀ n : Nat, Clean (upOf n) ∧ 0 < (upOf n).size
  | n => by
    by_cases h : n < 10
    · rw [upOf_small h]
      refine ⟨fun c hc => ?_, show 0 < 1 by omega⟩
      simp only [List.mem_singleton] at hc
      subst hc
      rw [dig_nat h]; omega
    · rw [upOf_more h]
      obtain ⟨h1, h2⟩ := clean_up (n / 10)
      refine ⟨h1.append fun c hc => ?_, by rw [ByteArray.size_append]; omega⟩
      simp only [List.mem_singleton] at hc
      subst hc
      rw [dig_nat (by omega)]; omega
termination_by n => n
theorem clean_dig (n : Int) : Clean (digOf n) ∧ 0 < (digOf n).size := by
  obtain ⟨h1, h2⟩ := clean_up n.natAbs
  unfold digOf
  split
  · refine ⟨Clean.append (fun c hc => ?_) h1, by rw [ByteArray.size_append]; omega⟩
    simp only [List.mem_singleton] at hc
    subst hc
    decide
  · exact ⟨h1, h2⟩
theorem clean_join (l : List Int) : ∀ i, Clean (jrun l i)
  | 0 => fun c hc => by simp [jrun] at hc
  | i + 1 => by
    rw [jrun]
    refine Clean.append ?_ (clean_dig _).1
    split
    · exact clean_join l i
    · refine (clean_join l i).append fun c hc => ?_
      simp only [List.mem_singleton] at hc
      subst hc
      decide
theorem clean_lit (w : ByteArray) (h : w.data.toList.all (fun c => decide (c.toNat ≠ 10 ∧ c.toNat ≠ 35 ∧ c.toNat ≠ 32 ∧ c.toNat ≠ 9)) = true) : Clean w := fun c hc => by
  have := List.all_eq_true.1 h c hc
  exact of_decide_eq_true this
/-- The words of a task's text. -/
def tkTx (t : Tk) : List ByteArray := sixOf t ++ chZ t ++ usZ t
theorem clean_tk (t : Tk) : ∀ w ∈ tkTx t, Clean w ∧ 0 < w.size := by
  have named (n g : ByteArray) (h : Clean n) (hn : 0 < n.size) (k : Clean g) : Clean (n ++ g) ∧ 0 < (n ++ g).size := ⟨h.append k, by rw [ByteArray.size_append]; omega⟩
  intro w hw
  unfold tkTx at hw
  rcases List.mem_append.1 hw with hw | hw
  · rcases List.mem_append.1 hw with hw | hw
    · unfold sixOf at hw
      simp only [List.mem_cons, List.not_mem_nil, or_false] at hw
      rcases hw with rfl | rfl | rfl | rfl | rfl | rfl
      · exact ⟨clean_lit _ (by decide), by decide⟩
      · exact clean_dig _
      · exact named _ _ (clean_lit _ (by decide)) (by decide) (clean_dig _).1
      · exact named _ _ (clean_lit _ (by decide)) (by decide) (clean_dig _).1
      · exact named _ _ (clean_lit _ (by decide)) (by decide) (clean_dig _).1
      · exact named _ _ (clean_lit _ (by decide)) (by decide) (clean_dig _).1
    · unfold chZ at hw
      split at hw
      · cases hw
      · simp only [List.mem_cons, List.not_mem_nil, or_false] at hw
        subst hw
        exact named _ _ (clean_lit _ (by decide)) (by decide) (clean_join _ _)
  · unfold usZ at hw
    split at hw
    · cases hw
    · simp only [List.mem_cons, List.not_mem_nil, or_false] at hw
      subst hw
      exact named _ _ (clean_lit _ (by decide)) (by decide) (clean_join _ _)
/-! ### the printed text -/
def cacheTx (S R : Int) : List ByteArray := [bCache, digOf S, digOf R]
theorem head_run (S R : Int) : arun (headText S R) (aZ []) = aZ [cacheTx S R] := by
  have e : headText S R = joinZ [bCache, digOf S, digOf R] ++ sNl := by
    unfold headText
    rw [show sCache = bCache ++ ⟨#[32]⟩ from rfl]
    simp only [joinZ, ByteArray.append_assoc]
  rw [e, arun_line [] _ _ (fun w hw => by
    simp only [List.mem_cons, List.not_mem_nil, or_false] at hw
    rcases hw with rfl | rfl | rfl
    · exact ⟨clean_lit _ (by decide), by decide⟩
    · exact clean_dig _
    · exact clean_dig _)]
  rfl
theorem line_run (t : Tk) (ht : rightOf t.tv 256 = 0) (d : List (List ByteArray)) : arun (lineText t ++ sNl) (aZ d) = aZ (d ++ [tkTx t]) := by
  unfold lineText
  rw [if_pos ht, whole_words]
  exact arun_line d _ _ (clean_tk t)
theorem print_run : ∀ (l : List Tk) (h : ByteArray) (d : List (List ByteArray)), (∀ t ∈ l, rightOf t.tv 256 = 0) → arun h (aZ []) = aZ d → arun (printRun h l) (aZ []) = aZ (d ++ l.map tkTx)
  | [], h, d, _, e => by rw [printRun, e, List.map_nil, List.append_nil]
  | t :: l, h, d, hr, e => by
    rw [printRun, print_run l _ (d ++ [tkTx t]) (fun x hx => hr x (List.mem_cons_of_mem _ hx)) (by rw [ByteArray.append_assoc, arun_append, e, line_run t (hr t (List.mem_cons_self ..))])]
    simp
/-- What is right beside some sets is right beside all of them. -/
theorem right_up {x : TV} {s : Int} (h : rightOf x s = 0) (hs : s ≤ 256) : rightOf x 256 = 0 := by
  unfold rightOf at h ⊢
  split at h
  · cases h
  · rename_i a1
    split at h
    · cases h
    · rename_i a2
      split at h
      · cases h
      · rename_i a3
        split at h
        · cases h
        · rename_i a4
          rw [if_neg a1, if_neg a2, if_neg a3, if_neg]
          unfold usBad at a4 ⊢
          rintro (q | q)
          · exact a4 (.inl q)
          · refine a4 (.inr ?_)
            rw [List.any_eq_true] at q ⊢
            obtain ⟨y, h1, h2⟩ := q
            refine ⟨y, h1, ?_⟩
            unfold badB at h2 ⊢
            simp only [decide_eq_true_eq, Bool.or_eq_true] at h2 ⊢
            omega
theorem tv_tk (t : Tk) : t.tv.tk = t := rfl
/-- The printed text, byte after byte. -/
theorem text_run {S R : Int} {l : List Tk} (h : checkT S R l = 0) : arun (printText S R l) (aZ []) = aZ (cacheTx S R :: l.map tkTx) := by
  have q := check_pass h
  unfold printText
  rw [if_pos h, print_run l _ [cacheTx S R] (fun t ht => right_up (q.all t.tv (List.mem_map_of_mem ht)) q.s.2) (head_run S R)]
  rfl
theorem text_lines {S R : Int} {l : List Tk} (h : checkT S R l = 0) : linesTx (printText S R l) = cacheTx S R :: l.map tkTx := by
  unfold linesTx; rw [text_run h, aZ_lines]
end Go.Proofs.YtlpffgmfgkleiaaDoor

/-
  Words of texts with a note, in plain words.
-/
namespace Go.Proofs.YtlpffgmfgkleiaaDoor
open Go.RowKit Go.Maps

/-- Behind a note's mark nothing counts up to the line's end. -/
theorem wrun_off (s : ByteArray) (p : Nat) (hf : (wrun s p).fr = -1) (ho : (wrun s p).off = true) : ∀ n, (∀ j, j < n → byteAt s (p + j) ≠ 10) → wrun s (p + n) = wrun s p
  | 0, _ => rfl
  | n + 1, h => by
    rw [← Nat.add_assoc, wrun, wrun_off s p hf ho n (fun j hj => h j (by omega))]
    have h10 := h n (by omega)
    generalize wrun s p = q at hf ho ⊢
    obtain ⟨o, l, f, b⟩ := q
    simp only [] at hf ho
    subst hf ho
    unfold wstep
    simp only [Bool.true_or]
    rw [if_pos (.inr (.inl trivial)), if_pos (by omega), if_neg h10, if_neg h10]
/-- The mark of a note. -/
theorem wrun_mark (s : ByteArray) {p : Nat} (h : byteAt s p = 35) : (wrun s (p + 1)).fr = -1 ∧ (wrun s (p + 1)).off = true := by
  rw [wrun]; unfold wstep
  simp only []
  have e : ((wrun s p).off || decide (byteAt s p = 35)) = true := by rw [h]; simp
  rw [if_pos (.inr (.inl e)), e]
  simp only []
  exact ⟨trivial, by rw [if_neg (by omega)]⟩
/-- At the text's end, where no word is under way, nothing is added. -/
theorem words_end (s : ByteArray) (h : (wrun s s.size).fr = -1) : wordsOf s = (wrun s s.size).out := by
  unfold wordsOf
  rw [wrun]; unfold wstep
  simp only []
  rw [if_pos (.inl (byteAt_end s (Nat.le_refl _))), h]
  simp
def mark : ByteArray := ⟨#[35]⟩
def gap : ByteArray := ⟨#[32, 9]⟩
/-- A note behind a text changes no word of it. -/
theorem words_note (x y : ByteArray) (hy : ∀ j, j < y.size → byteAt y j ≠ 10) : wordsOf (x ++ mark ++ y) = (wrun (x ++ mark) (x.size + 1)).out := by
  have hm : mark.size = 1 := rfl
  have hp : (x ++ mark).size = x.size + 1 := by rw [ByteArray.size_append, hm]
  have hz : (x ++ mark ++ y).size = x.size + 1 + y.size := by rw [ByteArray.size_append, hp]
  have h1 : wrun (x ++ mark ++ y) (x.size + 1) = wrun (x ++ mark) (x.size + 1) := by
    refine wrun_same _ _ _ (fun j hj => ?_) (fun f k hk => ?_)
    · rw [byteAt_left _ _ (by omega)]
    · rw [ex_left _ _ (by omega)]
  have hs : byteAt (x ++ mark) x.size = 35 := by
    have := byteAt_right x mark 0
    rw [Nat.add_zero] at this
    rw [this]; rfl
  obtain ⟨f1, f2⟩ := wrun_mark (x ++ mark) hs
  rw [← h1] at f1 f2 ⊢
  have := wrun_off (x ++ mark ++ y) (x.size + 1) f1 f2 y.size (fun j hj => by
    have e := byteAt_right (x ++ mark) y j
    rw [hp] at e
    rw [e]; exact hy j hj)
  rw [words_end, hz, this]
  rw [hz, this]; exact f1
theorem words_note_same (x y : ByteArray) (hy : ∀ j, j < y.size → byteAt y j ≠ 10) : wordsOf (x ++ mark ++ y) = wordsOf (x ++ mark) := by
  rw [words_note x y hy, ← words_note x ByteArray.empty (fun j hj => absurd hj (Nat.not_lt_zero _)), ba_add_nil]
/-- Blanks and a note behind a text change no word of it. -/
theorem words_gap (x y : ByteArray) (hy : ∀ j, j < y.size → byteAt y j ≠ 10) : wordsOf (x ++ gap ++ mark ++ y) = wordsOf x := by
  rw [words_note (x ++ gap) y hy]
  have hg : gap.size = 2 := rfl
  have hm : mark.size = 1 := rfl
  have h0 : wrun (x ++ gap ++ mark) x.size = wrun x x.size := by
    refine wrun_same _ _ _ (fun j hj => ?_) (fun f k hk => ?_)
    · rw [byteAt_left _ _ (by rw [ByteArray.size_append]; omega), byteAt_left _ _ (by omega)]
    · rw [ex_left _ _ (by rw [ByteArray.size_append]; omega), ex_left _ _ (by omega)]
  have hs : (x ++ gap).size = x.size + 2 := by rw [ByteArray.size_append, hg]
  have hex : ∀ f, (x ++ gap ++ mark).extract f x.size = x.extract f x.size := fun f => by
    rw [ex_left _ _ (by omega), ex_left _ _ (by omega)]
  have b0 : byteAt (x ++ gap ++ mark) x.size = 32 := by
    rw [byteAt_left _ _ (by omega)]
    have := byteAt_right x gap 0
    rw [Nat.add_zero] at this
    rw [this]; rfl
  have b1 : byteAt (x ++ gap ++ mark) (x.size + 1) = 9 := by
    rw [byteAt_left _ _ (by omega), byteAt_right x gap 1]; rfl
  have b2 : byteAt (x ++ gap ++ mark) (x.size + 1 + 1) = 35 := by
    have := byteAt_right (x ++ gap) mark 0
    rw [hs, Nat.add_zero] at this
    rw [this]; rfl
  have be := byteAt_end x (Nat.le_refl x.size)
  rw [hs]
  unfold wordsOf
  rw [show x.size + 2 + 1 = x.size + 1 + 1 + 1 by omega]
  simp only [wrun]
  rw [h0]
  generalize wrun x x.size = q
  obtain ⟨o, l, f, b⟩ := q
  unfold wstep
  rw [b0, b1, b2, be, hex]
  simp
/-- A text without a line's end. -/
theorem ends_none (s : ByteArray) : ∀ i, (∀ j, j < i → byteAt s j ≠ 10) → ends s i = 0
  | 0, _ => rfl
  | i + 1, h => by rw [ends, ends_none s i (fun j hj => h j (by omega)), if_neg (h i (by omega))]
end Go.Proofs.YtlpffgmfgkleiaaDoor

/-
  Where the words of a text stand, in plain words.
-/
namespace Go.Proofs.YtlpffgmfgkleiaaDoor
open Go.RowKit Go.Maps

/-- A byte that no word has. -/
def Sep (c : Nat) : Prop := c = 10 ∨ c = 35 ∨ c = 32 ∨ c = 9
/-- A word that stands in a text, up to a place. -/
structure Stands (s : ByteArray) (i : Nat) (x : WV) : Prop where
  lo : 0 ≤ x.at_
  hi : x.at_.toNat + x.tx.size ≤ i
  is : x.tx = s.extract x.at_.toNat (x.at_.toNat + x.tx.size)
  some : 0 < x.tx.size
  ln : x.ln = 1 + (ends s x.at_.toNat : Nat)
  no : ∀ k, x.at_.toNat ≤ k → k < x.at_.toNat + x.tx.size → ¬ Sep (byteAt s k)
def WV.till (x : WV) : Nat := x.at_.toNat + x.tx.size
/-- Blanks and tabs alone. -/
def Blank (s : ByteArray) (f k : Nat) : Prop := ∀ j, f ≤ j → j < k → byteAt s j = 32 ∨ byteAt s j = 9
/-- What stands between a word and the next one. -/
structure Next (s : ByteArray) (x : WV) (p : Nat) (ln : Int) : Prop where
  le : x.till ≤ p
  lnle : x.ln ≤ ln
  same : x.ln = ln → x.till < p ∧ Blank s x.till p
theorem ends_mono (s : ByteArray) {i j : Nat} (h : i ≤ j) : ends s i ≤ ends s j := by
  induction j with
  | zero => have : i = 0 := by omega
            subst this; exact Nat.le_refl _
  | succ j ih =>
    rcases Nat.lt_or_ge j i with q | q
    · have : i = j + 1 := by omega
      subst this; exact Nat.le_refl _
    · rw [ends]; have := ih q; omega
theorem ends_same (s : ByteArray) (i : Nat) : ∀ k, (∀ j, i ≤ j → j < i + k → byteAt s j ≠ 10) → ends s (i + k) = ends s i
  | 0, _ => rfl
  | k + 1, h => by
    rw [← Nat.add_assoc, ends, ends_same s i k (fun j h1 h2 => h j h1 (by omega)), if_neg (h (i + k) (by omega) (by omega)), Nat.add_zero]
/-- What holds of the words at each place of the text. -/
structure l_Found (s : ByteArray) (i : Nat) (q : LS) : Prop where
  all : ∀ x ∈ q.out, Stands s i x
  row : ∀ (k : Nat) (x y : WV), q.out[k]? = some x → q.out[k + 1]? = some y → Next s x y.at_.toNat y.ln
  off : q.off = true → q.fr < 0
  run : 0 ≤ q.fr → q.fr < i ∧ (∀ j, q.fr.toNat ≤ j → j < i → ¬ Sep (byteAt s j)) ∧ ∀ x, q.out.getLast? = some x → Next s x q.fr.toNat q.ln
  rest : q.fr < 0 → ∀ x, q.out.getLast? = some x → x.till < i ∧ x.ln ≤ q.ln ∧ (x.ln = q.ln → q.off = false → Blank s x.till i)
theorem Stands.up {s : ByteArray} {i j : Nat} {x : WV} (h : Stands s i x) (hj : i ≤ j) : Stands s j x := ⟨h.lo, by have := h.hi; omega, h.is, h.some, h.ln, h.no⟩
theorem row_add {s : ByteArray} {l : List WV} {z : WV} (h : ∀ (k : Nat) (x y : WV), l[k]? = some x → l[k + 1]? = some y → Next s x y.at_.toNat y.ln) (hz : ∀ x, l.getLast? = some x → Next s x z.at_.toNat z.ln) :
    ∀ (k : Nat) (x y : WV), (l ++ [z])[k]? = some x → (l ++ [z])[k + 1]? = some y → Next s x y.at_.toNat y.ln := by
  intro k x y hx hy
  rcases Nat.lt_or_ge (k + 1) l.length with q | q
  · rw [List.getElem?_append_left (by omega)] at hx
    rw [List.getElem?_append_left q] at hy
    exact h k x y hx hy
  · have h2 : k + 1 = l.length := by
      have := (List.getElem?_eq_some_iff.1 hy).1
      simp at this; omega
    rw [List.getElem?_append_left (by omega)] at hx
    rw [h2, List.getElem?_append_right (Nat.le_refl _)] at hy
    simp at hy; subst hy
    refine hz x ?_
    rw [List.getLast?_eq_getElem?, show l.length - 1 = k by omega]; exact hx
theorem found (s : ByteArray) : ∀ i, i ≤ s.size + 1 → l_Found s i (wrun s i)
  | 0, _ => ⟨fun x h => by simp [wrun] at h, fun k x y h => by simp [wrun] at h, fun h => by simp [wrun] at h, fun h => by simp [wrun] at h, fun _ x h => by simp [wrun] at h⟩
  | i + 1, h => by
    have ih := found s i (by omega)
    have il := wrun_ln s i
    rw [wrun]
    generalize wrun s i = q at ih il ⊢
    obtain ⟨o, l, f, b⟩ := q
    obtain ⟨hall, hrow, hoff, hrun, hrest⟩ := ih
    simp only [] at hall hrow hoff hrun hrest il
    unfold wstep
    simp only []
    by_cases hc : byteAt s i = 10 ∨ (b || decide (byteAt s i = 35)) = true ∨ byteAt s i = 32 ∨ byteAt s i = 9
    · rw [if_pos hc]
      by_cases hf : f < 0
      · rw [if_pos hf]
        refine ⟨fun x hx => (hall x hx).up (by omega), hrow, fun _ => by simp only []; omega, fun z => by simp only [] at z; omega, fun _ x hx => ?_⟩
        obtain ⟨r1, r2, r3⟩ := hrest hf x hx
        simp only []
        by_cases h10 : byteAt s i = 10
        · rw [if_pos h10]
          exact ⟨by omega, by omega, fun z => by omega⟩
        · rw [if_neg h10, if_neg h10]
          refine ⟨by omega, r2, fun z zo => ?_⟩
          simp only [Bool.or_eq_false_iff, decide_eq_false_iff_not] at zo
          intro j hj1 hj2
          rcases Nat.lt_or_ge j i with q | q
          · exact r3 z zo.1 j hj1 q
          · have : j = i := by omega
            subst this
            rcases hc with g | g | g | g
            · exact absurd g h10
            · simp [zo] at g
            · exact .inl g
            · exact .inr g
      · rw [if_neg hf]
        obtain ⟨g1, g2, g3⟩ := hrun (by omega)
        obtain ⟨p, rfl⟩ : ∃ p : Nat, f = p := ⟨f.toNat, by omega⟩
        have hbf : b = false := by
          cases b with
          | false => rfl
          | true => have := hoff rfl; omega
        simp only [Int.toNat_natCast] at g2 g3 ⊢
        have hip : i ≤ s.size := by omega
        have hsz : (s.extract p i).size = i - p := by rw [ByteArray.size_extract]; omega
        have hend : ends s i = ends s p := by
          have := ends_same s p (i - p) (fun j h1 h2 q => g2 j h1 (by omega) (.inl q))
          rwa [show p + (i - p) = i by omega] at this
        have hnew : Stands s (i + 1) ⟨p, l, s.extract p i⟩ := by
          refine ⟨by simp, ?_, ?_, ?_, ?_, ?_⟩
          · simp only [Int.toNat_natCast, hsz]; omega
          · simp only [Int.toNat_natCast, hsz]; rw [show p + (i - p) = i by omega]
          · simp only [hsz]; omega
          · simp only [Int.toNat_natCast]; rw [il, hend]
          · simp only [Int.toNat_natCast, hsz]; exact fun k h1 h2 => g2 k h1 (by omega)
        have htill : WV.till ⟨p, l, s.extract p i⟩ = i := by
          unfold WV.till; simp only [Int.toNat_natCast, hsz]; omega
        refine ⟨fun x hx => ?_, row_add hrow (fun x hx => by simpa using g3 x hx), fun _ => by simp only []; omega, fun z => by simp only [] at z; omega, fun _ x hx => ?_⟩
        · rcases List.mem_append.1 hx with q | q
          · exact (hall x q).up (by omega)
          · simp at q; subst q; exact hnew
        · simp only [List.getLast?_append, List.getLast?_singleton, Option.some_or, Option.some.injEq] at hx
          subst hx
          simp only []
          rw [htill]
          by_cases h10 : byteAt s i = 10
          · rw [if_pos h10]
            exact ⟨by omega, by omega, fun z => by omega⟩
          · rw [if_neg h10, if_neg h10]
            refine ⟨by omega, Int.le_refl _, fun z zo => ?_⟩
            simp only [Bool.or_eq_false_iff, decide_eq_false_iff_not] at zo
            intro j hj1 hj2
            have : j = i := by omega
            subst this
            rcases hc with g | g | g | g
            · exact absurd g h10
            · simp [zo] at g
            · exact .inl g
            · exact .inr g
    · rw [if_neg hc]
      simp only [not_or, Bool.or_eq_true, decide_eq_true_eq] at hc
      obtain ⟨n1, ⟨n2, n3⟩, n4, n5⟩ := hc
      have hbf : b = false := by simpa using n2
      have hns : ¬ Sep (byteAt s i) := by
        rintro (g | g | g | g)
        · exact n1 g
        · exact n3 g
        · exact n4 g
        · exact n5 g
      by_cases hf : f < 0
      · rw [if_pos hf]
        refine ⟨fun x hx => (hall x hx).up (by omega), hrow, (fun z => by simp only [] at z; rw [hbf] at z; cases z), fun _ => ?_, fun z => by simp only [] at z; omega⟩
        simp only [Int.toNat_natCast]
        refine ⟨by omega, fun j h1 h2 => ?_, fun x hx => ?_⟩
        · have : j = i := by omega
          subst this; exact hns
        · obtain ⟨r1, r2, r3⟩ := hrest hf x hx
          exact ⟨by omega, r2, fun z => ⟨r1, r3 z hbf⟩⟩
      · rw [if_neg hf]
        obtain ⟨g1, g2, g3⟩ := hrun (by omega)
        refine ⟨fun x hx => (hall x hx).up (by omega), hrow, (fun z => by simp only [] at z; rw [hbf] at z; cases z), fun _ => ?_, fun z => by simp only [] at z; omega⟩
        simp only []
        refine ⟨by omega, fun j h1 h2 => ?_, g3⟩
        rcases Nat.lt_or_ge j i with q | q
        · exact g2 j h1 q
        · have : j = i := by omega
          subst this; exact hns
theorem Stands.in_ {s : ByteArray} {i : Nat} {x : WV} (h : Stands s i x) : x.till ≤ s.size := by
  have h1 := h.is
  have h2 := h.some
  have h3 : x.tx.size = min (x.at_.toNat + x.tx.size) s.size - x.at_.toNat := by
    have := congrArg ByteArray.size h1
    rwa [ByteArray.size_extract] at this
  unfold WV.till; omega
/-- Where the words of a text stand. -/
theorem words_found (s : ByteArray) : (∀ x ∈ wordsOf s, Stands s (s.size + 1) x) ∧ ∀ (k : Nat) (x y : WV), (wordsOf s)[k]? = some x → (wordsOf s)[k + 1]? = some y → Next s x y.at_.toNat y.ln :=
  ⟨(found s (s.size + 1) (Nat.le_refl _)).all, (found s (s.size + 1) (Nat.le_refl _)).row⟩
end Go.Proofs.YtlpffgmfgkleiaaDoor

/-
  What a text says depends on its words' texts alone; the printed text says its system.
-/
namespace Go.Proofs.YtlpffgmfgkleiaaDoor
open Go.RowKit Go.Maps

theorem wordAt_tx (W : List WV) (i : Nat) : wordAt W i = (W.map WV.tx)[i]? := by unfold wordAt; rw [List.getElem?_map]
theorem wordAt_same {W V : List WV} (h : W.map WV.tx = V.map WV.tx) : wordAt W = wordAt V := funext fun i => by rw [wordAt_tx, wordAt_tx, h]
theorem len_same {W V : List WV} (h : W.map WV.tx = V.map WV.tx) : W.length = V.length := by
  have := congrArg List.length h
  rwa [List.length_map, List.length_map] at this
theorem line_same {W V : List WV} (h : W.map WV.tx = V.map WV.tx) {t : Tk} (e : lineOf W = .ok t) : lineOf V = .ok t := by
  have hw := wordAt_same h
  have hl := len_same h
  have h1 : idOf W = idOf V := by unfold idOf; rw [hw]
  have h2 : ∀ k, numK W k = numK V k := fun k => by unfold numK numAt valAt; rw [hw]
  have h3 : chAt W = chAt V := by unfold chAt numsAt valAt; rw [hw]
  have h4 : plus1 W = plus1 V := by unfold plus1; rw [h3]
  have h5 : usAt W = usAt V := by unfold usAt numsAt valAt; rw [hw, h4]
  have h6 : plus2 W = plus2 V := by unfold plus2; rw [h5, h4]
  unfold lineOf at e ⊢
  rw [← hw, ← h1, ← h2 0, ← h2 1, ← h2 2, ← h2 3, ← h6, ← hl, ← h3, ← h5]
  by_cases a : wordAt W 0 ≠ some bTask
  · rw [if_pos a] at e; cases e
  rw [if_neg a] at e ⊢
  cases q0 : idOf W with
  | none => rw [q0] at e; cases e
  | some id =>
    rw [q0] at e
    simp only [] at e ⊢
    cases q1 : numK W 0 with
    | none => rw [q1] at e; cases e
    | some c =>
      rw [q1] at e
      simp only [] at e ⊢
      cases q2 : numK W 1 with
      | none => rw [q2] at e; cases e
      | some d =>
        rw [q2] at e
        simp only [] at e ⊢
        cases q3 : numK W 2 with
        | none => rw [q3] at e; cases e
        | some t =>
          rw [q3] at e
          simp only [] at e ⊢
          cases q4 : numK W 3 with
          | none => rw [q4] at e; cases e
          | some p =>
            rw [q4] at e
            simp only [] at e ⊢
            by_cases b : plus2 W < W.length
            · rw [if_pos b] at e; cases e
            · rw [if_neg b] at e ⊢; exact e
theorem cache_same {W V : List WV} (h : W.map WV.tx = V.map WV.tx) {t : Nat × Nat} (e : cacheOf W = .ok t) : cacheOf V = .ok t := by
  have hw := wordAt_same h
  have hl := len_same h
  have h1 : setsOf W = setsOf V := by unfold setsOf; rw [hw]
  have h2 : relOf W = relOf V := by unfold relOf; rw [hw]
  unfold cacheOf at e ⊢
  rw [← hw, ← h1, ← h2, ← hl]
  by_cases a : wordAt W 0 ≠ some bCache
  · rw [if_pos a] at e; cases e
  rw [if_neg a] at e ⊢
  cases q0 : setsOf W with
  | none => rw [q0] at e; cases e
  | some s =>
    rw [q0] at e
    simp only [] at e ⊢
    cases q1 : relOf W with
    | none => rw [q1] at e; cases e
    | some r =>
      rw [q1] at e
      simp only [] at e ⊢
      by_cases b : 3 < W.length
      · rw [if_pos b] at e; cases e
      · rw [if_neg b] at e ⊢; exact e
theorem tail_same {S R : Int} : ∀ (L M : List (List WV)) (acc l : List Tk), L.map (·.map WV.tx) = M.map (·.map WV.tx) → tailOf S R acc L = .ok l → tailOf S R acc M = .ok l
  | [], [], _, _, _, e => e
  | [], _ :: _, _, _, h, _ => by cases h
  | _ :: _, [], _, _, h, _ => by cases h
  | W :: L, V :: M, acc, l, h, e => by
    rw [List.map_cons, List.map_cons, List.cons.injEq] at h
    rw [tailOf] at e ⊢
    cases q : lineOf W with
    | error p => rw [q] at e; cases e
    | ok t =>
      rw [q] at e
      rw [line_same h.1 q]
      simp only [] at e ⊢
      by_cases b : checkT S R (acc ++ [t]) = 0
      · rw [if_pos b] at e ⊢; exact tail_same L M _ l h.2 e
      · rw [if_neg b] at e; cases e
/-- What was read is read from every text of the same words. -/
theorem parse_same {s t : ByteArray} (h : linesTx s = linesTx t) {r : Nat × Nat × List Tk} (e : parseOf s = .ok r) : parseOf t = .ok r := by
  have hl : (linesOf s).map (·.map WV.tx) = (linesOf t).map (·.map WV.tx) := by rw [lines_tx, lines_tx, h]
  unfold parseOf at e ⊢
  cases q : linesOf s with
  | nil => rw [q] at e; cases e
  | cons W L =>
    cases q' : linesOf t with
    | nil => rw [q, q'] at hl; cases hl
    | cons V M =>
      rw [q, q', List.map_cons, List.map_cons, List.cons.injEq] at hl
      rw [q] at e
      simp only [] at e ⊢
      cases c : cacheOf W with
      | error p => rw [c] at e; cases e
      | ok x =>
        rw [c] at e
        rw [cache_same hl.1 c]
        obtain ⟨S, R⟩ := x
        simp only [] at e ⊢
        cases z : tailOf S R [] L with
        | error p => rw [z] at e; cases e
        | ok l =>
          rw [z] at e
          rw [tail_same L M [] l hl.2 z]
          cases l with
          | nil => cases e
          | cons y l => exact e

/-! ### the words of a printed line -/
theorem num_dig {n most : Int} (h0 : 0 ≤ n) (h : n ≤ most) (hm : most ≤ 9223372036854775807) : numOf (digOf n) most = some n.toNat := by
  rw [(digOf_digs h0 (by unfold I64; omega)).num, if_neg (by omega)]
theorem pair_named (n v : ByteArray) (h : ∀ j, j < n.size → byteAt n j ≠ 61) : pairOf (n ++ ⟨#[61]⟩ ++ v) = some (n, v) := by
  have k1 : (⟨#[61]⟩ : ByteArray).size = 1 := rfl
  have hb : byteAt (n ++ ⟨#[61]⟩ ++ v) n.size = 61 := by
    rw [byteAt_left _ _ (by rw [ByteArray.size_append]; omega)]
    have := byteAt_right n ⟨#[61]⟩ 0
    rw [Nat.add_zero] at this
    rw [this]; rfl
  unfold pairOf
  rw [eqFrom_some _ hb _ 0 (Nat.zero_le _) (by rw [ByteArray.size_append, ByteArray.size_append]; omega) (fun j _ hj => by
    rw [byteAt_left _ _ (by rw [ByteArray.size_append]; omega), byteAt_left _ _ hj]; exact h j hj)]
  rw [Option.map_some]
  have e1 : (n ++ ⟨#[61]⟩ ++ v).extract 0 n.size = n := by
    rw [ex_left _ _ (by rw [ByteArray.size_append]; omega), ex_left _ _ (Nat.le_refl _), ByteArray.extract_zero_size]
  have e2 : (n ++ ⟨#[61]⟩ ++ v).extract (n.size + 1) (n ++ ⟨#[61]⟩ ++ v).size = v := by
    have h3 : (n ++ ⟨#[61]⟩).size = n.size + 1 := by rw [ByteArray.size_append, k1]
    have := ex_right (n ++ ⟨#[61]⟩) v 0 v.size
    rw [ByteArray.extract_zero_size, Nat.add_zero] at this
    rw [ByteArray.size_append, h3]
    rw [h3] at this
    exact this
  rw [e1, e2]
theorem named_is (n v : ByteArray) (h : ∀ j, j < n.size → byteAt n j ≠ 61) : namedV (n ++ ⟨#[61]⟩ ++ v) n = some v := by unfold namedV; rw [pair_named n v h]; simp
theorem named_not (n m v : ByteArray) (h : ∀ j, j < n.size → byteAt n j ≠ 61) (hm : n ≠ m) : namedV (n ++ ⟨#[61]⟩ ++ v) m = none := by unfold namedV; rw [pair_named n v h]; simp [hm]
theorem no_eq (n : ByteArray) (h : (List.range n.size).all (fun j => decide (byteAt n j ≠ 61)) = true) : ∀ j, j < n.size → byteAt n j ≠ 61 := fun j hj => of_decide_eq_true (List.all_eq_true.1 h j (List.mem_range.2 hj))
theorem no_eq1 (c : UInt8) (h : c.toNat ≠ 61) : ∀ j, j < (⟨#[c]⟩ : ByteArray).size → byteAt ⟨#[c]⟩ j ≠ 61 := fun j hj => by
  have hs : (⟨#[c]⟩ : ByteArray).size = 1 := rfl
  have : j = 0 := by omega
  subst this
  rw [byte_one]; exact h
theorem numOf_most {s : ByteArray} {a b : Int} {n : Nat} (h : numOf s a = some n) (hn : (n : Int) ≤ b) : numOf s b = some n := by
  unfold numOf at h ⊢
  by_cases c : s.size = 0 ∨ (1 < s.size ∧ byteAt s 0 = 48)
  · rw [if_pos c] at h; cases h
  rw [if_neg c] at h ⊢
  cases q : nrun s s.size with
  | none => rw [q] at h; cases h
  | some m =>
    rw [q] at h
    simp only [] at h ⊢
    split at h
    · cases h
    · cases h; rw [if_neg (by omega)]
theorem nsrun_most (s : ByteArray) (a b : Int) : ∀ i l f, nsrun s a i = some (l, f) → (∀ x ∈ l, x ≤ b) → nsrun s b i = some (l, f)
  | 0, _, _, h, _ => h
  | i + 1, l, f, h, hl => by
    rw [nsrun] at h ⊢
    cases q : nsrun s a i with
    | none => rw [q] at h; cases h
    | some z =>
      obtain ⟨l0, f0⟩ := z
      rw [q] at h
      simp only [] at h
      by_cases c : i < s.size ∧ byteAt s i ≠ 44
      · rw [if_pos c] at h
        cases h
        rw [nsrun_most s a b i l f q hl]
        simp only []
        rw [if_pos c]
      · rw [if_neg c] at h
        cases r : numOf (s.extract f0 i) a with
        | none => rw [r] at h; cases h
        | some n =>
          rw [r] at h
          cases h
          rw [nsrun_most s a b i l0 f0 q (fun x hx => hl x (List.mem_append_left _ hx))]
          simp only []
          rw [if_neg c, numOf_most r (hl _ (List.mem_append_right _ (List.mem_singleton.2 rfl)))]
theorem nums_most {s : ByteArray} {a b : Int} {l : List Int} (h : numsOf s a = some l) (hl : ∀ x ∈ l, x ≤ b) : numsOf s b = some l := by
  unfold numsOf at h ⊢
  obtain ⟨⟨l0, f⟩, h1, rfl⟩ := Option.map_eq_some_iff.1 h
  rw [nsrun_most s a b _ _ f h1 hl]; rfl
theorem nums_join_most {l : List Int} {b : Int} (h0 : l ≠ []) (hl : ∀ x ∈ l, 0 ≤ x ∧ x ≤ b) (hb : b ≤ 9223372036854775807) : numsOf (joinOf l) b = some l :=
  nums_most (nums_join l (fun x hx => ⟨(hl x hx).1, by have := hl x hx; unfold I64; omega⟩) (List.length_pos_iff.2 h0)) (fun x hx => (hl x hx).2)
theorem tC_is : tC = bC ++ ⟨#[61]⟩ := rfl
theorem tD_is : tD = bD ++ ⟨#[61]⟩ := rfl
theorem tT_is : tT = bT ++ ⟨#[61]⟩ := rfl
theorem tP_is : tP = bP ++ ⟨#[61]⟩ := rfl
theorem tChunks_is : tChunks = bChunks ++ ⟨#[61]⟩ := rfl
theorem tUse_is : tUse = bUse ++ ⟨#[61]⟩ := rfl
theorem noC : ∀ j, j < bC.size → byteAt bC j ≠ 61 := no_eq1 99 (by decide)
theorem noD : ∀ j, j < bD.size → byteAt bD j ≠ 61 := no_eq1 100 (by decide)
theorem noT : ∀ j, j < bT.size → byteAt bT j ≠ 61 := no_eq1 116 (by decide)
theorem noP : ∀ j, j < bP.size → byteAt bP j ≠ 61 := no_eq1 112 (by decide)
theorem noChunks : ∀ j, j < bChunks.size → byteAt bChunks j ≠ 61 := no_eq _ (by kernel_rfl)
theorem noUse : ∀ j, j < bUse.size → byteAt bUse j ≠ 61 := no_eq _ (by kernel_rfl)
theorem use_chunks : bUse ≠ bChunks := fun h => by
  have := congrArg ByteArray.size h
  have h1 : bUse.size = 3 := rfl
  have h2 : bChunks.size = 6 := rfl
  omega
set_option maxHeartbeats 2000000 in
/-- The task that a printed line's words say. -/
theorem line_tk {W : List WV} {t : Tk} (hW : W.map WV.tx = tkTx t) (hr : rightOf t.tv 256 = 0) : lineOf W = .ok t := by
  have hs := small_of (x := t.tv) (s := 256) hr (by omega)
  have wA : ∀ i, wordAt W i = (tkTx t)[i]? := fun i => by rw [wordAt_tx, hW]
  have hl : W.length = (tkTx t).length := by rw [← hW, List.length_map]
  have s1 : 1 ≤ t.id ∧ t.id ≤ 99 := hs.id
  have s2 : 1 ≤ t.p ∧ t.p ≤ 99 := hs.p
  have s3 : 1 ≤ t.c ∧ t.c ≤ t.d := hs.c
  have s4 : t.d ≤ t.t ∧ t.t ≤ 1073741824 := hs.d
  have s5 : ∀ y ∈ t.ch, 1 ≤ y ∧ y ≤ t.c := hs.ch
  have s6 : ∀ y ∈ t.us, 0 ≤ y ∧ y < 256 := hs.us
  have w0 : wordAt W 0 = some bTask := by rw [wA]; rfl
  have w1 : idOf W = some t.id.toNat := by
    unfold idOf; rw [wA, show (tkTx t)[1]? = some (digOf t.id) from rfl]
    exact num_dig (by omega) (by omega) (by omega)
  have wn (k : Nat) (n : ByteArray) (v : Int) (hn : ∀ j, j < (nameK k).size → byteAt (nameK k) j ≠ 61) (hk : (tkTx t)[2 + k]? = some (nameK k ++ ⟨#[61]⟩ ++ digOf v)) (h0 : 0 ≤ v) (h1 : v ≤ mostK k) : numK W k = some v.toNat := by
    unfold numK numAt valAt
    rw [wA, hk, Option.bind_some, named_is _ _ hn, Option.bind_some]
    exact num_dig h0 h1 (by unfold mostK; split <;> omega)
  have w2 : numK W 0 = some t.c.toNat := wn 0 bC t.c noC rfl (by omega) (by unfold mostK; rw [if_neg (by omega)]; omega)
  have w3 : numK W 1 = some t.d.toNat := wn 1 bD t.d noD rfl (by omega) (by unfold mostK; rw [if_neg (by omega)]; omega)
  have w4 : numK W 2 = some t.t.toNat := wn 2 bT t.t noT rfl (by omega) (by unfold mostK; rw [if_neg (by omega)]; omega)
  have w5 : numK W 3 = some t.p.toNat := wn 3 bP t.p noP rfl (by omega) (by unfold mostK; rw [if_pos rfl]; omega)
  have tx6 : ∀ j, (tkTx t)[6 + j]? = (chZ t ++ usZ t)[j]? := fun j => by
    unfold tkTx
    rw [List.append_assoc, List.getElem?_append_right (by show 6 ≤ _; omega)]
    congr 1
    show 6 + j - 6 = j
    omega
  have tl : (tkTx t).length = 6 + (chZ t).length + (usZ t).length := by unfold tkTx; rw [List.length_append, List.length_append]; rfl
  have wU (i : Nat) (hu : t.us ≠ []) (hi : wordAt W i = some (tUse ++ joinOf t.us)) : numsAt W i bUse 255 = some t.us := by
    unfold numsAt valAt
    rw [hi, tUse_is, Option.bind_some, named_is _ _ noUse, Option.bind_some]
    exact nums_join_most hu (fun x hx => by have := s6 x hx; omega) (by omega)
  have fin (ch us : List Int) (h1 : ch = t.ch) (h2 : us = t.us) : (⟨(t.id.toNat : Int), (t.c.toNat : Int), (t.d.toNat : Int), (t.t.toNat : Int), (t.p.toNat : Int), ch, us⟩ : Tk) = t := by
    subst h1 h2
    obtain ⟨a1, a2, a3, a4, a5, a6, a7⟩ := t
    simp only [] at s1 s2 s3 s4 ⊢
    rw [Int.toNat_of_nonneg (by omega), Int.toNat_of_nonneg (by omega), Int.toNat_of_nonneg (by omega), Int.toNat_of_nonneg (by omega), Int.toNat_of_nonneg (by omega)]
  by_cases hc : t.ch = []
  · have z1 : chZ t = [] := by unfold chZ; rw [if_pos hc]
    by_cases hu : t.us = []
    · have z2 : usZ t = [] := by unfold usZ; rw [if_pos hu]
      have v6 : wordAt W 6 = none := by rw [wA, tx6 0, z1, z2]; rfl
      have q1 : chAt W = none := by unfold chAt numsAt valAt; rw [v6]; rfl
      have q2 : plus1 W = 6 := by unfold plus1; rw [q1]; rfl
      have q3 : usAt W = none := by unfold usAt numsAt valAt; rw [q2, v6]; rfl
      have q4 : plus2 W = 6 := by unfold plus2; rw [q3, q2]; rfl
      rw [line_ok w0 w1 w2 w3 w4 w5 (by rw [q4, hl, tl, z1, z2]; simp), q1, q3, fin _ _ (show (none : Option (List Int)).getD [] = t.ch from hc.symm) (show (none : Option (List Int)).getD [] = t.us from hu.symm)]
    · have z2 : usZ t = [tUse ++ joinOf t.us] := by unfold usZ; rw [if_neg hu]
      have v6 : wordAt W 6 = some (tUse ++ joinOf t.us) := by rw [wA, tx6 0, z1, z2]; rfl
      have q1 : chAt W = none := by
        unfold chAt numsAt valAt
        rw [v6, tUse_is, Option.bind_some, named_not _ _ _ noUse use_chunks, Option.bind_none]
      have q2 : plus1 W = 6 := by unfold plus1; rw [q1]; rfl
      have q3 : usAt W = some t.us := by unfold usAt; rw [q2]; exact wU 6 hu v6
      have q4 : plus2 W = 7 := by unfold plus2; rw [q3, q2]; rfl
      rw [line_ok w0 w1 w2 w3 w4 w5 (by rw [q4, hl, tl, z1, z2]; simp), q1, q3, fin _ _ (show (none : Option (List Int)).getD [] = t.ch from hc.symm) (show (some t.us).getD [] = t.us from rfl)]
  · have z1 : chZ t = [tChunks ++ joinOf t.ch] := by unfold chZ; rw [if_neg hc]
    have v6 : wordAt W 6 = some (tChunks ++ joinOf t.ch) := by rw [wA, tx6 0, z1]; rfl
    have q1 : chAt W = some t.ch := by
      unfold chAt numsAt valAt
      rw [v6, tChunks_is, Option.bind_some, named_is _ _ noChunks, Option.bind_some]
      exact nums_join_most hc (fun x hx => by have := s5 x hx; omega) (by omega)
    have q2 : plus1 W = 7 := by unfold plus1; rw [q1]; rfl
    by_cases hu : t.us = []
    · have z2 : usZ t = [] := by unfold usZ; rw [if_pos hu]
      have v7 : wordAt W 7 = none := by rw [wA, tx6 1, z1, z2]; rfl
      have q3 : usAt W = none := by unfold usAt numsAt valAt; rw [q2, v7]; rfl
      have q4 : plus2 W = 7 := by unfold plus2; rw [q3, q2]; rfl
      rw [line_ok w0 w1 w2 w3 w4 w5 (by rw [q4, hl, tl, z1, z2]; simp), q1, q3, fin _ _ (show (some t.ch).getD [] = t.ch from rfl) (show (none : Option (List Int)).getD [] = t.us from hu.symm)]
    · have z2 : usZ t = [tUse ++ joinOf t.us] := by unfold usZ; rw [if_neg hu]
      have v7 : wordAt W 7 = some (tUse ++ joinOf t.us) := by rw [wA, tx6 1, z1, z2]; rfl
      have q3 : usAt W = some t.us := by unfold usAt; rw [q2]; exact wU 7 hu v7
      have q4 : plus2 W = 8 := by unfold plus2; rw [q3, q2]; rfl
      rw [line_ok w0 w1 w2 w3 w4 w5 (by rw [q4, hl, tl, z1, z2]; simp), q1, q3, fin _ _ (show (some t.ch).getD [] = t.ch from rfl) (show (some t.us).getD [] = t.us from rfl)]
theorem cache_tx {W : List WV} {S R : Int} (hW : W.map WV.tx = cacheTx S R) (hS : 0 ≤ S ∧ S ≤ 256) (hR : 0 ≤ R ∧ R ≤ 1000) : cacheOf W = .ok (S.toNat, R.toNat) := by
  have wA : ∀ i, wordAt W i = (cacheTx S R)[i]? := fun i => by rw [wordAt_tx, hW]
  have hl : W.length = 3 := by
    have := congrArg List.length hW
    rwa [List.length_map] at this
  have e1 : setsOf W = some S.toNat := by unfold setsOf; rw [wA, show (cacheTx S R)[1]? = some (digOf S) from rfl]; exact num_dig hS.1 hS.2 (by omega)
  have e2 : relOf W = some R.toNat := by unfold relOf; rw [wA, show (cacheTx S R)[2]? = some (digOf R) from rfl]; exact num_dig hR.1 hR.2 (by omega)
  unfold cacheOf
  rw [if_neg (by rw [wA]; exact fun q => q rfl), e1, e2]
  simp only []
  rw [if_neg (by omega)]
theorem first_front {s : Int} : ∀ (L M : List TV) (last : Int) (seen : List Int), firstOf s last seen (L ++ M) = 0 → firstOf s last seen L = 0
  | [], _, _, _, _ => rfl
  | x :: L, M, last, seen, h => by
    rw [List.cons_append, firstOf] at h
    rw [firstOf]
    split at h
    · rename_i c; exact absurd h c
    · rename_i c
      rw [if_neg c]
      split at h
      · cases h
      · rename_i c2
        rw [if_neg c2]
        split at h
        · cases h
        · rename_i c3
          rw [if_neg c3]
          exact first_front L M _ _ h
theorem check_front {S R : Int} {a b : List Tk} (h : checkT S R (a ++ b) = 0) (ha : a ≠ []) : checkT S R a = 0 := by
  have q := check_pass h
  have q0 := q.first
  have q1 := q.most
  rw [List.map_append] at q0
  rw [List.length_map, List.length_append] at q1
  have hp := List.length_pos_iff.2 ha
  have nb : ¬ sysBad S R (a.map Tk.tv) := by unfold sysBad; rw [List.length_map]; have := q.s; have := q.r; omega
  unfold checkT checkOf
  rw [if_neg nb, if_neg (by rw [List.length_map]; omega)]
  exact first_front _ _ _ _ q0
theorem tail_tk {S R : Int} : ∀ (l : List Tk) (acc : List Tk) (L : List (List WV)), L.map (·.map WV.tx) = l.map tkTx → (∀ t ∈ l, rightOf t.tv 256 = 0) → (l ≠ [] → checkT S R (acc ++ l) = 0) → tailOf S R acc L = .ok (acc ++ l)
  | [], acc, [], _, _, _ => by rw [tailOf, List.append_nil]
  | [], _, _ :: _, h, _, _ => by cases h
  | _ :: _, _, [], h, _, _ => by cases h
  | t :: l, acc, W :: L, h, hr, hc => by
    rw [List.map_cons, List.map_cons, List.cons.injEq] at h
    have e : acc ++ t :: l = (acc ++ [t]) ++ l := by simp
    have hc' := hc (by simp)
    rw [e] at hc'
    rw [tailOf, line_tk h.1 (hr t (List.mem_cons_self ..))]
    simp only []
    rw [if_pos (check_front hc' (by simp)), e]
    exact tail_tk l _ L h.2 (fun x hx => hr x (List.mem_cons_of_mem _ hx)) (fun _ => hc')
theorem check_all {S R : Int} {l : List Tk} (h : checkT S R l = 0) : ∀ t ∈ l, rightOf t.tv 256 = 0 := fun t ht => right_up ((check_pass h).all t.tv (List.mem_map_of_mem ht)) (check_pass h).s.2
/-- The printed text says its system. -/
theorem parse_print {S R : Int} {l : List Tk} (h : checkT S R l = 0) : parseOf (printText S R l) = .ok (S.toNat, R.toNat, l) := by
  have q := check_pass h
  have hl : (linesOf (printText S R l)).map (·.map WV.tx) = cacheTx S R :: l.map tkTx := by rw [lines_tx, text_lines h]
  have hp : l ≠ [] := fun e => by have := q.pos; rw [e] at this; simp at this
  unfold parseOf
  cases z : linesOf (printText S R l) with
  | nil => rw [z] at hl; cases hl
  | cons W L =>
    rw [z, List.map_cons, List.cons.injEq] at hl
    simp only []
    rw [cache_tx hl.1 q.s q.r]
    simp only []
    have e1 : ((S.toNat : Nat) : Int) = S := Int.toNat_of_nonneg q.s.1
    have e2 : ((R.toNat : Nat) : Int) = R := Int.toNat_of_nonneg q.r.1
    rw [e1, e2, tail_tk l [] L hl.2 (check_all h) (fun _ => h), List.nil_append]
    cases l with
    | nil => exact absurd rfl hp
    | cons t l => rfl
end Go.Proofs.YtlpffgmfgkleiaaDoor

/-
  Where a text is wrong; texts that go on, that are cut, and with blanks and notes put in.
-/
namespace Go.Proofs.YtlpffgmfgkleiaaDoor
open Go.RowKit Go.Maps

/-! ### places -/
theorem lrun_mem (L : List WV) : ∀ i, i ≤ L.length → ∀ g ∈ lrun L i, g ≠ [] ∧ ∀ x ∈ g, x ∈ L
  | 0, _, g, h => by simp [lrun] at h
  | i + 1, hi, g, h => by
    have ih := lrun_mem L i (by omega)
    obtain ⟨y, hy⟩ : ∃ y, L[i]? = some y := ⟨L[i], List.getElem?_eq_getElem (by omega)⟩
    have hm : y ∈ L := List.mem_of_getElem? hy
    rw [lrun, hy] at h
    split at h
    · rcases List.mem_append.1 h with h | h
      · exact ih g h
      · rw [List.mem_singleton] at h
        subst h
        exact ⟨by simp, fun x hx => by simp at hx; subst hx; exact hm⟩
    · rcases List.mem_append.1 h with h | h
      · exact ih g (List.dropLast_subset _ h)
      · rw [List.mem_singleton] at h
        subst h
        refine ⟨by simp, fun x hx => ?_⟩
        rcases List.mem_append.1 hx with hx | hx
        · cases q : (lrun L i).getLast? with
          | none => rw [q] at hx; simp at hx
          | some g' => rw [q] at hx; exact (ih g' (List.mem_of_getLast? q)).2 x hx
        · simp at hx; subst hx; exact hm
theorem lines_mem {s : ByteArray} {W : List WV} (h : W ∈ linesOf s) : W ≠ [] ∧ ∀ x ∈ W, 0 ≤ x.at_ ∧ x.at_ + (x.tx.size : Int) ≤ s.size := by
  obtain ⟨h1, h2⟩ := lrun_mem _ _ (Nat.le_refl _) W h
  refine ⟨h1, fun x hx => ?_⟩
  have q := (words_found s).1 x (h2 x hx)
  have := q.in_
  have := q.lo
  unfold WV.till at *
  omega
/-- All its places lie between two. -/
theorem place_in {W : List WV} {lo hi : Int} (h0 : W ≠ []) (h : ∀ x ∈ W, lo ≤ x.at_ ∧ x.at_ + (x.tx.size : Int) ≤ hi) (hl : 0 ≤ lo) (hh : hi ≤ 4611686018427387904) (i : Nat) : lo ≤ placeAt W i ∧ placeAt W i ≤ hi := by
  unfold placeAt
  cases q : W[i]? with
  | some x =>
    have := h x (List.mem_of_getElem? q)
    simp only []
    omega
  | none =>
    simp only []
    obtain ⟨k, hk⟩ : ∃ k, W.length = k + 1 := ⟨W.length - 1, by have := List.length_pos_iff.2 h0; omega⟩
    have hx : W[k]? = some (W[k]'(by omega)) := List.getElem?_eq_getElem (by omega)
    have := h _ (List.mem_of_getElem? hx)
    rw [hk, endAt_succ hx]
    unfold endOf
    rw [IntWalk.wrap64_in _ (by omega)]
    omega
theorem line_err {W : List WV} {p : Int} (h : lineOf W = .error p) : ∃ i, p = placeAt W i := by
  unfold lineOf at h
  split at h
  · cases h; exact ⟨_, rfl⟩
  split at h
  · cases h; exact ⟨_, rfl⟩
  split at h
  · cases h; exact ⟨_, rfl⟩
  split at h
  · cases h; exact ⟨_, rfl⟩
  split at h
  · cases h; exact ⟨_, rfl⟩
  split at h
  · cases h; exact ⟨_, rfl⟩
  split at h
  · cases h; exact ⟨_, rfl⟩
  · cases h
theorem cache_err {W : List WV} {p : Int} (h : cacheOf W = .error p) : ∃ i, p = placeAt W i := by
  unfold cacheOf at h
  split at h
  · cases h; exact ⟨_, rfl⟩
  split at h
  · cases h; exact ⟨_, rfl⟩
  split at h
  · cases h; exact ⟨_, rfl⟩
  split at h
  · cases h; exact ⟨_, rfl⟩
  · cases h
theorem tail_err {S R : Int} : ∀ (L : List (List WV)) (acc : List Tk) (p e : Int), tailOf S R acc L = .error (p, e) → e ≠ 0 ∧ ∃ W ∈ L, ∃ i, p = placeAt W i
  | [], _, _, _, h => by cases h
  | W :: L, acc, p, e, h => by
    rw [tailOf] at h
    cases q : lineOf W with
    | error x =>
      rw [q] at h; cases h
      obtain ⟨i, rfl⟩ := line_err q
      exact ⟨by decide, W, List.mem_cons_self .., i, rfl⟩
    | ok t =>
      rw [q] at h
      simp only [] at h
      by_cases b : checkT S R (acc ++ [t]) = 0
      · rw [if_pos b] at h
        obtain ⟨h1, V, h2, h3⟩ := tail_err L _ p e h
        exact ⟨h1, V, List.mem_cons_of_mem _ h2, h3⟩
      · rw [if_neg b] at h
        cases h
        exact ⟨b, W, List.mem_cons_self .., 0, rfl⟩
/-- What is wrong with a text lies within it. -/
theorem parse_err {s : ByteArray} {p e : Int} (hs : (s.size : Int) ≤ 4611686018427387904) (h : parseOf s = .error (p, e)) : e ≠ 0 ∧ 0 ≤ p ∧ p ≤ s.size := by
  have pin {W : List WV} (hW : W ∈ linesOf s) (i : Nat) : 0 ≤ placeAt W i ∧ placeAt W i ≤ s.size := place_in (lines_mem hW).1 (lines_mem hW).2 (by omega) hs i
  unfold parseOf at h
  cases q : linesOf s with
  | nil => rw [q] at h; cases h; exact ⟨by decide, by omega, by omega⟩
  | cons W L =>
    rw [q] at h pin
    simp only [] at h
    cases c : cacheOf W with
    | error x =>
      rw [c] at h; cases h
      obtain ⟨i, rfl⟩ := cache_err c
      exact ⟨by decide, pin (List.mem_cons_self ..) i⟩
    | ok x =>
      obtain ⟨S, R⟩ := x
      rw [c] at h
      simp only [] at h
      cases z : tailOf S R [] L with
      | error y =>
        rw [z] at h; cases h
        obtain ⟨h1, V, h2, i, rfl⟩ := tail_err L _ _ _ z
        exact ⟨h1, pin (List.mem_cons_of_mem _ h2) i⟩
      | ok l =>
        rw [z] at h
        cases l with
        | nil => cases h; exact ⟨by decide, by omega, by omega⟩
        | cons t l => cases h
theorem tail_oks {S R : Int} : ∀ (L : List (List WV)) (acc l : List Tk), tailOf S R acc L = .ok l → l.length = acc.length + L.length ∧ (L ≠ [] → checkT S R l = 0)
  | [], _, _, h => by cases h; exact ⟨rfl, fun q => absurd rfl q⟩
  | W :: L, acc, l, h => by
    rw [tailOf] at h
    cases q : lineOf W with
    | error x => rw [q] at h; cases h
    | ok t =>
      rw [q] at h
      simp only [] at h
      by_cases b : checkT S R (acc ++ [t]) = 0
      · rw [if_pos b] at h
        obtain ⟨h1, h2⟩ := tail_oks L _ l h
        refine ⟨by rw [h1]; simp; omega, fun _ => ?_⟩
        cases L with
        | nil => cases h; exact b
        | cons V L => exact h2 (by simp)
      · rw [if_neg b] at h; cases h
/-- What a text says, line after line. -/
theorem parse_parts {s : ByteArray} {S R : Nat} {l : List Tk} (h : parseOf s = .ok (S, R, l)) : ∃ W L, linesOf s = W :: L ∧ cacheOf W = .ok (S, R) ∧ tailOf S R [] L = .ok l ∧ l ≠ [] ∧ checkT S R l = 0 ∧ L.length = l.length := by
  unfold parseOf at h
  cases q : linesOf s with
  | nil => rw [q] at h; cases h
  | cons W L =>
    rw [q] at h
    simp only [] at h
    cases c : cacheOf W with
    | error x => rw [c] at h; cases h
    | ok x =>
      obtain ⟨S', R'⟩ := x
      rw [c] at h
      simp only [] at h
      cases z : tailOf S' R' [] L with
      | error y => rw [z] at h; cases h
      | ok m =>
        rw [z] at h
        cases m with
        | nil => cases h
        | cons t m =>
          cases h
          obtain ⟨h1, h2⟩ := tail_oks L _ _ z
          refine ⟨W, L, rfl, c, z, by simp, h2 (fun e => by rw [e] at h1; simp at h1), by rw [h1]; simp⟩

/-! ### a text that goes on -/
theorem lrun_two (L M : List WV) (h : ∀ x ∈ L, ∀ y ∈ M, x.ln ≠ y.ln) : ∀ j, j ≤ M.length → lrun (L ++ M) (L.length + j) = lrun L L.length ++ lrun M j
  | 0, _ => by rw [Nat.add_zero, lrun_same (L ++ M) L _ (fun j hj => List.getElem?_append_left hj), lrun, List.append_nil]
  | j + 1, hj => by
    have at_ : ∀ i, (L ++ M)[L.length + i]? = M[i]? := fun i => by rw [List.getElem?_append_right (by omega), Nat.add_sub_cancel_left]
    obtain ⟨y, hy⟩ : ∃ y, M[j]? = some y := ⟨M[j], List.getElem?_eq_getElem (by omega)⟩
    have ih := lrun_two L M h j (by omega)
    rw [← Nat.add_assoc, lrun, lrun, ih, at_ j, hy]
    by_cases j0 : j = 0
    · subst j0
      have c : L.length + 0 = 0 ∨ lnAt (L ++ M) (L.length + 0) ≠ lnAt (L ++ M) (L.length + 0 - 1) := by
        rcases List.eq_nil_or_concat L with rfl | ⟨L', x, rfl⟩
        · exact .inl rfl
        · rw [List.concat_eq_append] at h at_ ⊢
          refine .inr ?_
          rw [lnAt_of ((at_ 0).trans hy)]
          have hx : (L' ++ [x] ++ M)[(L' ++ [x]).length + 0 - 1]? = some x := by simp
          rw [lnAt_of hx]
          exact fun e => h x (by simp) y (List.mem_of_getElem? hy) e.symm
      rw [if_pos c, if_pos (.inl rfl), List.append_assoc]
    · have e1 : lnAt (L ++ M) (L.length + j) = lnAt M j := by unfold lnAt; rw [at_]
      have e2 : lnAt (L ++ M) (L.length + j - 1) = lnAt M (j - 1) := by unfold lnAt; rw [show L.length + j - 1 = L.length + (j - 1) by omega, at_]
      rw [e1, e2]
      by_cases c : lnAt M j ≠ lnAt M (j - 1)
      · rw [if_pos (.inr c), if_pos (.inr c), List.append_assoc]
      · rw [if_neg (by rintro (q | q); omega; exact c q), if_neg (by rintro (q | q); omega; exact c q)]
        have hne : lrun M j ≠ [] := fun e => by
          obtain ⟨i, rfl⟩ : ∃ i, j = i + 1 := ⟨j - 1, by omega⟩
          rw [lrun] at e
          split at e <;> simp at e
        have hg : (lrun L L.length ++ lrun M j).getLast? = (lrun M j).getLast? := by
          rw [List.getLast?_append]
          cases q : (lrun M j).getLast? with
          | none => exact absurd (List.getLast?_eq_none_iff.1 q) hne
          | some x => rfl
        rw [List.dropLast_append_of_ne_nil hne, hg, List.append_assoc]
theorem lrun_shift (L : List WV) (p : Nat) (k : Int) : ∀ i, i ≤ L.length → lrun (L.map (shiftW p k)) i = (lrun L i).map (·.map (shiftW p k))
  | 0, _ => rfl
  | i + 1, hi => by
    have at_ : ∀ j, (L.map (shiftW p k))[j]? = (L[j]?).map (shiftW p k) := fun j => List.getElem?_map
    obtain ⟨y, hy⟩ : ∃ y, L[i]? = some y := ⟨L[i], List.getElem?_eq_getElem (by omega)⟩
    rw [lrun, lrun, lrun_shift L p k i (by omega), at_, hy]
    have hc : (i = 0 ∨ lnAt (L.map (shiftW p k)) i ≠ lnAt (L.map (shiftW p k)) (i - 1)) ↔ (i = 0 ∨ lnAt L i ≠ lnAt L (i - 1)) := by
      by_cases i0 : i = 0
      · simp [i0]
      · obtain ⟨z, hz⟩ : ∃ z, L[i - 1]? = some z := ⟨L[i - 1], List.getElem?_eq_getElem (by omega)⟩
        rw [lnAt_of hy, lnAt_of hz, lnAt_of (x := shiftW p k y) (by rw [at_, hy]; rfl), lnAt_of (x := shiftW p k z) (by rw [at_, hz]; rfl)]
        unfold shiftW
        simp only []
        omega
    by_cases c : i = 0 ∨ lnAt L i ≠ lnAt L (i - 1)
    · rw [if_pos c, if_pos (hc.2 c), List.map_append]; rfl
    · rw [if_neg c, if_neg (fun q => c (hc.1 q)), List.map_append, List.map_dropLast, List.getLast?_map]
      congr 1
      cases (lrun L i).getLast? <;> simp
theorem lines_parts (a b : ByteArray) : linesOf (a ++ nl ++ b) = linesOf a ++ (linesOf b).map (·.map (shiftW (a.size + 1) (ends a a.size + 1 : Nat))) := by
  unfold linesOf
  rw [words_parts, List.length_append, List.length_map]
  rw [lrun_two _ _ (fun x hx y hy => ?_) _ (by rw [List.length_map]; exact Nat.le_refl _), lrun_shift _ _ _ _ (Nat.le_refl _)]
  obtain ⟨z, hz, rfl⟩ := List.mem_map.1 hy
  have q := (words_found a).1 x hx
  have q2 := (words_found b).1 z hz
  have h1 := q.ln
  have h2 := q2.ln
  have h3 := ends_mono a (i := x.at_.toNat) (j := a.size) (by have := q.in_; unfold WV.till at this; omega)
  unfold shiftW
  simp only []
  omega
theorem lines_nil : linesOf ByteArray.empty = [] := by kernel_rfl
theorem lines_end (a : ByteArray) : linesOf (a ++ nl) = linesOf a := by
  have := lines_parts a ByteArray.empty
  rw [lines_nil, List.map_nil, List.append_nil, ba_add_nil] at this
  exact this
theorem tail_on {S R : Int} : ∀ (L M : List (List WV)) (acc l : List Tk), tailOf S R acc L = .ok l → tailOf S R acc (L ++ M) = tailOf S R l M
  | [], M, acc, l, h => by cases h; rfl
  | W :: L, M, acc, l, h => by
    rw [List.cons_append, tailOf]
    rw [tailOf] at h
    cases q : lineOf W with
    | error x => rw [q] at h; cases h
    | ok t =>
      rw [q] at h
      simp only [] at h ⊢
      by_cases b : checkT S R (acc ++ [t]) = 0
      · rw [if_pos b] at h ⊢; exact tail_on L M _ l h
      · rw [if_neg b] at h; cases h
theorem shift_tx (W : List WV) (p : Nat) (k : Int) : (W.map (shiftW p k)).map WV.tx = W.map WV.tx := by rw [List.map_map]; rfl
/-- A line that is wrong behind a system's text: where, and whatever follows. -/
theorem parse_first {t bad : ByteArray} {S R : Nat} {l : List Tk} (h : parseOf (t ++ nl) = .ok (S, R, l)) {W : List WV} (hW : linesOf bad = [W]) (hb : ∀ x, lineOf W = .ok x → rightOf x.tv 256 ≠ 0) (hs : ((t ++ nl ++ bad).size : Int) ≤ 4611686018427387904) :
    ∃ p e, e ≠ 0 ∧ ((t ++ nl).size : Int) ≤ p ∧ p ≤ ((t ++ nl ++ bad).size : Int) ∧ parseOf (t ++ nl ++ bad) = .error (p, e) ∧ ∀ rest, parseOf (t ++ nl ++ bad ++ nl ++ rest) = .error (p, e) := by
  obtain ⟨W0, L, e1, e2, e3, e4, e5, _⟩ := parse_parts h
  rw [lines_end] at e1
  obtain ⟨V, hV⟩ : ∃ V, W.map (shiftW (t.size + 1) (ends t t.size + 1 : Nat)) = V := ⟨_, rfl⟩
  have la : linesOf (t ++ nl ++ bad) = W0 :: (L ++ [V]) := by rw [lines_parts, e1, hW, List.map_cons, List.map_nil, hV]; rfl
  have hm : W ∈ linesOf bad := by rw [hW]; exact List.mem_singleton.2 rfl
  have hz : (t ++ nl).size = t.size + 1 := by rw [ByteArray.size_append]; rfl
  have pin (i : Nat) : ((t ++ nl).size : Int) ≤ placeAt V i ∧ placeAt V i ≤ ((t ++ nl ++ bad).size : Int) := by
    refine place_in (fun e => (lines_mem hm).1 (List.map_eq_nil_iff.1 (hV.trans e))) (fun x hx => ?_) (by omega) hs i
    rw [← hV] at hx
    obtain ⟨y, hy, rfl⟩ := List.mem_map.1 hx
    have := (lines_mem hm).2 y hy
    have hz2 : (t ++ nl ++ bad).size = t.size + 1 + bad.size := by rw [ByteArray.size_append, hz]
    unfold shiftW
    simp only []
    omega
  have hS : (S : Int) ≤ 256 := (check_pass e5).s.2
  obtain ⟨p, e, h1, ⟨i, rfl⟩, h3⟩ : ∃ p e, e ≠ 0 ∧ (∃ i, p = placeAt V i) ∧ ∀ M, tailOf S R l (V :: M) = .error (p, e) := by
    cases q : lineOf V with
    | error x =>
      obtain ⟨i, rfl⟩ := line_err q
      exact ⟨_, 10, by decide, ⟨i, rfl⟩, fun M => by rw [tailOf, q]⟩
    | ok x =>
      have hx := hb x (line_same (by rw [← hV, shift_tx]) q)
      have hc : checkT S R (l ++ [x]) ≠ 0 := fun c => hx (right_up ((check_pass c).all x.tv (List.mem_map_of_mem (List.mem_append_right _ (List.mem_singleton.2 rfl)))) hS)
      refine ⟨_, _, hc, ⟨0, rfl⟩, fun M => ?_⟩
      rw [tailOf, q]
      simp only []
      rw [if_neg hc]
  refine ⟨_, e, h1, (pin i).1, (pin i).2, ?_, fun rest => ?_⟩
  · unfold parseOf
    rw [la]
    simp only []
    rw [e2]
    simp only []
    rw [tail_on L [V] [] l e3, h3]
  · unfold parseOf
    rw [lines_parts (t ++ nl ++ bad) rest, la]
    simp only [List.cons_append]
    rw [e2]
    simp only []
    rw [List.append_assoc, tail_on L _ [] l e3, List.cons_append, h3]

/-! ### a text that is cut -/
theorem astep_on (q : AQ) (c : UInt8) : ∃ e, (astep q c).done = q.done ++ e := by
  unfold astep
  split
  · unfold AQ.lines
    split
    · exact ⟨[], by simp⟩
    · exact ⟨_, rfl⟩
  · split
    · exact ⟨[], by simp⟩
    · split
      · exact ⟨[], by simp⟩
      · exact ⟨[], by simp⟩
theorem close_none : ∀ (d : List (List ByteArray)) (c : List ByteArray) (o : Bool), (AQ.mk d c noB o).close = c := fun d c o => by unfold AQ.close; rw [if_pos (show noB.size = 0 from rfl)]
theorem astep_more (q : AQ) (c : UInt8) : q.lines.length ≤ (astep q c).lines.length := by
  by_cases c1 : c.toNat = 10
  · rw [astep_nl q c1]
    unfold AQ.lines
    rw [close_none, if_pos rfl]
    exact Nat.le_refl _
  · by_cases c2 : (q.off || decide (c.toNat = 35)) = true
    · rw [astep_off q c1 c2]
      show _ ≤ (AQ.lines _).length
      unfold AQ.lines
      rw [close_none]
      exact Nat.le_refl _
    · by_cases c3 : c.toNat = 32 ∨ c.toNat = 9
      · rw [astep_sp q c1 c2 c3]
        unfold AQ.lines
        rw [close_none]
        exact Nat.le_refl _
      · rw [astep_in q c1 c2 c3]
        have : (AQ.mk q.done q.cur (q.word ++ ⟨#[c]⟩) q.off).close ≠ [] := by
          unfold AQ.close
          rw [if_neg (by rw [ByteArray.size_append]; show ¬ q.word.size + 1 = 0; omega)]
          simp
        unfold AQ.lines
        rw [if_neg this]
        split <;> simp
theorem arunL_on : ∀ (l : List UInt8) (q : AQ), (∃ e, (arunL l q).done = q.done ++ e) ∧ q.lines.length ≤ (arunL l q).lines.length
  | [], q => ⟨⟨[], by simp [arunL]⟩, Nat.le_refl _⟩
  | c :: l, q => by
    obtain ⟨⟨e, h1⟩, h2⟩ := arunL_on l (astep q c)
    obtain ⟨e0, h0⟩ := astep_on q c
    rw [show arunL (c :: l) q = arunL l (astep q c) from rfl]
    exact ⟨⟨e0 ++ e, by rw [h1, h0, List.append_assoc]⟩, Nat.le_trans (astep_more q c) h2⟩
theorem lines_first (q : AQ) (h : 2 ≤ q.lines.length) : q.done ≠ [] := fun e => by
  unfold AQ.lines at h
  rw [e] at h
  split at h <;> simp at h
theorem lines_head (q : AQ) {d : List (List ByteArray)} {x : List ByteArray} (h : q.done = x :: d) : q.lines.head? = some x := by
  unfold AQ.lines
  rw [h]
  split <;> rfl
/-- Of a text that is cut: no more lines; and, where two are left, the same first one. -/
theorem cut_lines (a b : ByteArray) : (linesTx a).length ≤ (linesTx (a ++ b)).length ∧ (2 ≤ (linesTx a).length → (linesTx a).head? = (linesTx (a ++ b)).head?) := by
  unfold linesTx
  rw [arun_append]
  obtain ⟨⟨e, h1⟩, h2⟩ := arunL_on b.data.toList (arun a (aZ []))
  refine ⟨h2, fun h => ?_⟩
  cases q : (arun a (aZ [])).done with
  | nil => exact absurd q (lines_first _ h)
  | cons x d =>
    rw [lines_head _ q]
    refine (lines_head (d := d ++ e) _ ?_).symm
    show (arunL _ _).done = _
    rw [h1, q]; rfl
theorem parse_cut {a b : ByteArray} {S R : Nat} {l : List Tk} {S' R' : Nat} {m : List Tk} (h : parseOf (a ++ b) = .ok (S, R, l)) (k : parseOf a = .ok (S', R', m)) : S' = S ∧ m.length ≤ l.length ∧ 0 < m.length := by
  obtain ⟨W, L, e1, e2, _, _, _, e6⟩ := parse_parts h
  obtain ⟨V, M, k1, k2, _, k4, _, k6⟩ := parse_parts k
  obtain ⟨c1, c2⟩ := cut_lines a b
  rw [← lines_tx, ← lines_tx, e1, k1] at c1 c2
  simp only [List.map_cons, List.length_cons, List.length_map, List.head?_cons] at c1 c2
  have hm := List.length_pos_iff.2 k4
  have := c2 (by omega)
  rw [Option.some.injEq] at this
  have := cache_same this k2
  rw [e2] at this
  cases this
  exact ⟨rfl, by omega, hm⟩

/-! ### blanks and notes put in -/
abbrev sNote : ByteArray := ⟨#[32, 35, 32, 110, 111, 116, 101, 61, 49]⟩
abbrev sTab : ByteArray := ⟨#[9]⟩
abbrev sBlank : ByteArray := ⟨#[32, 10]⟩
/-- What stands for a byte. -/
def repOf (c : Nat) : ByteArray := (if c = 10 then sNote else noB) ++ (if c = 32 then sTab else noB)
def repEnd (c : Nat) : ByteArray := if c = 10 then sBlank else noB
def altTo (t : ByteArray) : Nat → ByteArray
  | 0 => noB
  | i + 1 => altTo t i ++ repOf (byteAt t i) ++ ⟨#[UInt8.ofNat (byteAt t i)]⟩ ++ repEnd (byteAt t i)
theorem close_close (q : AQ) (o : Bool) : (AQ.mk q.done q.close noB o).lines = q.lines := by unfold AQ.lines; rw [close_none]
theorem off_run (d : List (List ByteArray)) (cur : List ByteArray) : ∀ l : List UInt8, (∀ c ∈ l, c.toNat ≠ 10) → arunL l ⟨d, cur, noB, true⟩ = ⟨d, cur, noB, true⟩
  | [], _ => rfl
  | c :: l, h => by
    have : astep ⟨d, cur, noB, true⟩ c = ⟨d, cur, noB, true⟩ := by
      rw [astep_off _ (h c (List.mem_cons_self ..)) (by simp), close_none]
    rw [show arunL (c :: l) ⟨d, cur, noB, true⟩ = arunL l (astep ⟨d, cur, noB, true⟩ c) from rfl, this]
    exact off_run d cur l (fun x hx => h x (List.mem_cons_of_mem _ hx))
theorem blank_step (q : AQ) {c : UInt8} (h : c.toNat = 32 ∨ c.toNat = 9) : astep q c = ⟨q.done, q.close, noB, q.off⟩ := by
  have h10 : c.toNat ≠ 10 := by omega
  have h35 : c.toNat ≠ 35 := by omega
  cases ho : q.off with
  | true => rw [astep_off q h10 (by simp [ho])]
  | false => rw [astep_sp q h10 (by simp [ho, h35]) h]
theorem rep_run (q : AQ) (c : UInt8) : arun (repOf c.toNat ++ ⟨#[c]⟩ ++ repEnd c.toNat) q = astep q c := by
  rw [arun_append, arun_append]
  by_cases c1 : c.toNat = 10
  · have e1 : repOf c.toNat = sNote := by unfold repOf; rw [if_pos c1, if_neg (by omega)]; exact ba_add_nil _
    have e2 : repEnd c.toNat = sBlank := by unfold repEnd; rw [if_pos c1]
    rw [e1, e2]
    have h1 : arun sNote q = ⟨q.done, q.close, noB, true⟩ := by
      have e3 : arun sNote q = arunL [32, 110, 111, 116, 101, 61, 49] (astep (astep q 32) 35) := by unfold arun arunL; rw [List.foldl_cons, List.foldl_cons]
      rw [e3, blank_step q (c := 32) (.inl (by decide)), astep_off _ (show (35 : UInt8).toNat ≠ 10 by decide) (by simp), close_none]
      exact off_run _ _ _ (by decide)
    have h2 (z : AQ) : arun sBlank z = astep (astep z 32) 10 := by unfold arun arunL; rw [List.foldl_cons, List.foldl_cons, List.foldl_nil]
    rw [h1, h2, arun_byte, astep_nl _ c1, close_close, astep_nl q c1, blank_step _ (c := 32) (.inl (by decide)), close_none, astep_nl _ (show (10 : UInt8).toNat = 10 by decide)]
    unfold AQ.lines
    rw [close_none, if_pos rfl]
  · have e2 : repEnd c.toNat = noB := by unfold repEnd; rw [if_neg c1]
    rw [e2, arun_none]
    by_cases c2 : c.toNat = 32
    · have e1 : repOf c.toNat = sTab := by unfold repOf; rw [if_neg c1, if_pos c2]; exact ba_nil_add _
      have h2 : arun sTab q = astep q 9 := by unfold arun arunL; rw [List.foldl_cons, List.foldl_nil]
      rw [e1, h2, arun_byte, blank_step q (c := 9) (.inr (by decide)), blank_step _ (.inl c2), blank_step q (.inl c2), close_none]
    · have e1 : repOf c.toNat = noB := by unfold repOf; rw [if_neg c1, if_neg c2]; exact ba_nil_add _
      rw [e1, arun_none, arun_byte]
theorem alt_run (t : ByteArray) (q : AQ) : ∀ i, i ≤ t.size → arun (altTo t i) q = arunL (t.data.toList.take i) q
  | 0, _ => rfl
  | i + 1, h => by
    have hb := (byteAt_in t (i := i) (by omega)).2
    have ht : t.data.toList.take (i + 1) = t.data.toList.take i ++ [t[i]] := by
      rw [List.take_add_one, List.getElem?_eq_getElem (by rw [Array.length_toList]; exact h)]
      rfl
    have hu : UInt8.ofNat (byteAt t i) = t[i] := by rw [hb]; simp
    rw [altTo, hu, hb, ByteArray.append_assoc, ByteArray.append_assoc, arun_append, ← ByteArray.append_assoc, rep_run, alt_run t q i (by omega), ht]
    unfold arunL
    rw [List.foldl_append]; rfl
/-- Blanks, notes and empty lines between change no word. -/
theorem alt_lines (t : ByteArray) : linesTx (altTo t t.size) = linesTx t := by
  unfold linesTx
  rw [alt_run t _ _ (Nat.le_refl _), List.take_of_length_le (by rw [Array.length_toList]; exact Nat.le_refl _)]
  rfl
end Go.Proofs.YtlpffgmfgkleiaaDoor

/-
  The walk over a task as a text, as the program writes it.
-/
namespace Go.Proofs.YtlpffgmfgkleiaaDoor
open Go.RowKit Go.Maps

theorem ownz_six_low {N : Nat} {u w : World} (hb : Below u.heap.size u w) (hN : N ≤ u.heap.size) (x0 x1 x2 x3 x4 x5 : ByteArray) : OwnZ (w.alloc (.cells #[.string x0, .string x1, .string x2, .string x3, .string x4, .string x5] 9)) N (.slice (some ⟨w.heap.size, 0, none⟩) 6 6) [x0, x1, x2, x3, x4, x5] :=
  ⟨rfl, .inr ⟨w.heap.size, 6, #[.string x0, .string x1, .string x2, .string x3, .string x4, .string x5], rfl, Nat.le_trans hN hb.size, heap_alloc_new w _, Nat.le_refl _, by unfold maxLen; omega, rfl, rfl⟩⟩
theorem OwnZ.some_ {w : World} {B n c : Nat} {a : Option Addr} {l : List ByteArray} (h : OwnZ w B (.slice a n c) l) (hl : 0 < l.length) : ∃ g, a = some ⟨g, 0, none⟩ ∧ Strs w (some ⟨g, 0, none⟩) l ∧ l.length = n ∧ n ≤ c := by
  rcases h.2 with ⟨e, h0⟩ | ⟨g, cap, cur, e, _, _, h1, _, _, _⟩
  · omega
  · cases e
    obtain ⟨a', cap', e', hs, _⟩ := h.slice
    cases e'
    exact ⟨g, rfl, hs, rfl, h1⟩

set_option maxRecDepth 100000 in
set_option maxHeartbeats 4000000 in
theorem line_any (x : TV) (w : World) (hx : x.ok w) (hT : PT w) : Calls Tryd.prog 31 #[x.val] w fun e w' => e = .returned (.string (lineText x.tk)) ∧ Below w.heap.size w w' := by
  have CR : Hid (∀ v, Below w.heap.size w v → Calls Tryd.prog 53 #[x.val, .int .i64 256] v fun e w' => e = .returned (.int .i64 (rightOf x 256)) ∧ Below v.heap.size v w') := fun v hb => right_any x 256 v (hx.below hb)
  have HX := Lib.hid hx
  have HPT : Hid (PT w) := hT
  have HLT : Hid (lineText x.tk = if rightOf x 256 = 0 then wholeOf x.tk else ⟨#[]⟩) := rfl
  unfold TV.val at CR ⊢
  by_cases hr : rightOf x 256 = 0
  rotate_left
  · obtain ⟨E, hE⟩ : ∃ E, rightOf x 256 = E := ⟨_, rfl⟩
    rw [hE] at CR hr
    have HL : Hid (lineText x.tk = ⟨#[]⟩) := by show _ = _; rw [HLT.out, if_neg (by rw [hE]; exact hr)]
    have d1 : (E == 0) = false := by rw [beq_eq_false_iff_ne]; exact hr
    have d2 : (E != 0) = true := by rw [bne, d1]; rfl
    clear HLT hE hr hx hT
    go_enter Tryd.func31, Tryd.ntmps31
    go_upto_region 1 with fail
    refine gen_world (fun v => Below w.heap.size w v ∧ AtB v w.heap.size x) ⟨bw_alloc (Below.refl _ _) _, atB_new w x _⟩ ?_
    intro u0 ⟨hb0, ⟨c0, c1, c2, c3, c4, c5, c6⟩⟩
    have B0 := Lib.hid hb0
    clear hb0
    go_wp2_with (go_at_call 53; (with_reducible refine (CR.out _ B0.out).mono ?_); rintro e u1 ⟨rfl, b1⟩; have B1 := Lib.hid (below_up B0.out b1); clear b1)
    go_ret
    exact ⟨by rw [HL.out]; rfl, B1.out⟩
  · have hsm := small_of hr (by omega)
    have HL : Hid (lineText x.tk = wholeOf x.tk) := by show _ = _; rw [HLT.out, if_pos hr]
    rw [hr] at CR
    have hchI : ∀ y ∈ x.ch, I64 y := fun y hy => by have := hsm.ch y hy; have := hsm.c; have := hsm.d; unfold I64; omega
    have husI : ∀ y ∈ x.us, I64 y := fun y hy => by have := hsm.us y hy; unfold I64; omega
    have i1 : I64 x.id := by have := hsm.id; unfold I64; omega
    have i2 : I64 x.c := by have := hsm.c; have := hsm.d; unfold I64; omega
    have i3 : I64 x.d := by have := hsm.c; have := hsm.d; unfold I64; omega
    have i4 : I64 x.t := by have := hsm.c; have := hsm.d; unfold I64; omega
    have i5 : I64 x.p := by have := hsm.p; unfold I64; omega
    obtain ⟨g1, hg1⟩ : ∃ g, digOf x.id = g := ⟨_, rfl⟩
    have z1 : g1.size ≤ 22 := by rw [← hg1]; exact digOf_size _ i1
    have D1 : Hid (∀ v, PT v → Calls Tryd.prog 30 #[.int .i64 x.id] v fun e w' => e = .returned (.string g1) ∧ Below v.heap.size v w') := fun v hT => by have := digits_any x.id i1 v hT; rwa [hg1] at this
    obtain ⟨g2, hg2⟩ : ∃ g, digOf x.c = g := ⟨_, rfl⟩
    have z2 : g2.size ≤ 22 := by rw [← hg2]; exact digOf_size _ i2
    have D2 : Hid (∀ v, PT v → Calls Tryd.prog 30 #[.int .i64 x.c] v fun e w' => e = .returned (.string g2) ∧ Below v.heap.size v w') := fun v hT => by have := digits_any x.c i2 v hT; rwa [hg2] at this
    obtain ⟨h2, hh2⟩ : ∃ h, tC ++ g2 = h := ⟨_, rfl⟩
    have y2 : tC.size = 2 := rfl
    have A2 := Lib.hid (add_str tC g2 h2 hh2 (by omega))
    obtain ⟨g3, hg3⟩ : ∃ g, digOf x.d = g := ⟨_, rfl⟩
    have z3 : g3.size ≤ 22 := by rw [← hg3]; exact digOf_size _ i3
    have D3 : Hid (∀ v, PT v → Calls Tryd.prog 30 #[.int .i64 x.d] v fun e w' => e = .returned (.string g3) ∧ Below v.heap.size v w') := fun v hT => by have := digits_any x.d i3 v hT; rwa [hg3] at this
    obtain ⟨h3, hh3⟩ : ∃ h, tD ++ g3 = h := ⟨_, rfl⟩
    have y3 : tD.size = 2 := rfl
    have A3 := Lib.hid (add_str tD g3 h3 hh3 (by omega))
    obtain ⟨g4, hg4⟩ : ∃ g, digOf x.t = g := ⟨_, rfl⟩
    have z4 : g4.size ≤ 22 := by rw [← hg4]; exact digOf_size _ i4
    have D4 : Hid (∀ v, PT v → Calls Tryd.prog 30 #[.int .i64 x.t] v fun e w' => e = .returned (.string g4) ∧ Below v.heap.size v w') := fun v hT => by have := digits_any x.t i4 v hT; rwa [hg4] at this
    obtain ⟨h4, hh4⟩ : ∃ h, tT ++ g4 = h := ⟨_, rfl⟩
    have y4 : tT.size = 2 := rfl
    have A4 := Lib.hid (add_str tT g4 h4 hh4 (by omega))
    obtain ⟨g5, hg5⟩ : ∃ g, digOf x.p = g := ⟨_, rfl⟩
    have z5 : g5.size ≤ 22 := by rw [← hg5]; exact digOf_size _ i5
    have D5 : Hid (∀ v, PT v → Calls Tryd.prog 30 #[.int .i64 x.p] v fun e w' => e = .returned (.string g5) ∧ Below v.heap.size v w') := fun v hT => by have := digits_any x.p i5 v hT; rwa [hg5] at this
    obtain ⟨h5, hh5⟩ : ∃ h, tP ++ g5 = h := ⟨_, rfl⟩
    have y5 : tP.size = 2 := rfl
    have A5 := Lib.hid (add_str tP g5 h5 hh5 (by omega))
    have HSIX : Hid (sixOf x.tk = [bTask, g1, h2, h3, h4, h5]) := by
      show _ = _
      unfold sixOf TV.tk
      simp only []
      rw [hg1, hg2, hg3, hg4, hg5, hh2, hh3, hh4, hh5]
    have HCH := Lib.hid hchI
    have HUS := Lib.hid husI
    have HSM := Lib.hid hsm
    have HZS : Hid ((joinZ (sixOf x.tk ++ chZ x.tk ++ usZ x.tk)).size ≤ 3400) := by
      show _ ≤ _
      rw [← whole_words, ← HL.out]
      have := HL.out
      exact line_size x
    have HWZ := Lib.hid (whole_words x.tk)
    clear hchI husI hsm i1 i2 i3 i4 i5 hg1 z1 hg2 z2 hh2 y2 hg3 z3 hh3 y3 hg4 z4 hh4 y4 hg5 z5 hh5 y5 hr hx HLT hT
    go_enter Tryd.func31, Tryd.ntmps31
    go_upto_region 1 with fail
    refine gen_world (fun v => Below w.heap.size w v ∧ AtB v w.heap.size x) ⟨bw_alloc (Below.refl _ _) _, atB_new w x _⟩ ?_
    intro u0 ⟨hb0, ht0⟩
    have B0 := Lib.hid hb0
    have T0 := Lib.hid ht0
    obtain ⟨c0, c1, c2, c3, c4, c5, c6⟩ := ht0
    clear hb0
    go_upto_region 3 with (go_at_call 53; (with_reducible refine (CR.out _ B0.out).mono ?_); rintro e u1 ⟨rfl, b1⟩; have B1 := Lib.hid (below_up B0.out b1); have T1 := Lib.hid (T0.out.below b1); clear b1)
    clear CR B0 T0 c0 c1 c2 c3 c4 c5 c6
    have HP1 : Hid (PT u1) := HPT.out.below B1.out
    have HN1 : Hid (w.heap.size + 1 ≤ u1.heap.size) := block_of_cell T1.out.c0
    have MK : Hid (∀ v, Below u1.heap.size u1 v → (Below u1.heap.size u1 v ∧ v.cell? ⟨w.heap.size, 0, none⟩ = some (.int .i64 x.id) ∧ v.cell? ⟨w.heap.size, 1, none⟩ = some (.int .i64 x.c) ∧ v.cell? ⟨w.heap.size, 2, none⟩ = some (.int .i64 x.d) ∧ v.cell? ⟨w.heap.size, 3, none⟩ = some (.int .i64 x.t) ∧ v.cell? ⟨w.heap.size, 4, none⟩ = some (.int .i64 x.p))) := fun v hb => ⟨hb, kept_cell hb T1.out.c0, kept_cell hb T1.out.c1, kept_cell hb T1.out.c2, kept_cell hb T1.out.c3, kept_cell hb T1.out.c4⟩
    have E1 : Hid (∀ v, Below u1.heap.size u1 v → Calls Tryd.prog 30 #[.int .i64 x.id] v fun e w' => e = .returned (.string g1) ∧ Below u1.heap.size u1 w') := fun v hb => (D1.out v (HP1.out.below hb)).mono fun _ _ ⟨h1, h2⟩ => ⟨h1, below_up hb h2⟩
    have E2 : Hid (∀ v, Below u1.heap.size u1 v → Calls Tryd.prog 30 #[.int .i64 x.c] v fun e w' => e = .returned (.string g2) ∧ Below u1.heap.size u1 w') := fun v hb => (D2.out v (HP1.out.below hb)).mono fun _ _ ⟨h1, h2⟩ => ⟨h1, below_up hb h2⟩
    have E3 : Hid (∀ v, Below u1.heap.size u1 v → Calls Tryd.prog 30 #[.int .i64 x.d] v fun e w' => e = .returned (.string g3) ∧ Below u1.heap.size u1 w') := fun v hb => (D3.out v (HP1.out.below hb)).mono fun _ _ ⟨h1, h2⟩ => ⟨h1, below_up hb h2⟩
    have E4 : Hid (∀ v, Below u1.heap.size u1 v → Calls Tryd.prog 30 #[.int .i64 x.t] v fun e w' => e = .returned (.string g4) ∧ Below u1.heap.size u1 w') := fun v hb => (D4.out v (HP1.out.below hb)).mono fun _ _ ⟨h1, h2⟩ => ⟨h1, below_up hb h2⟩
    have E5 : Hid (∀ v, Below u1.heap.size u1 v → Calls Tryd.prog 30 #[.int .i64 x.p] v fun e w' => e = .returned (.string g5) ∧ Below u1.heap.size u1 w') := fun v hb => (D5.out v (HP1.out.below hb)).mono fun _ _ ⟨h1, h2⟩ => ⟨h1, below_up hb h2⟩
    have a2 := A2.out
    have a3 := A3.out
    have a4 := A4.out
    have a5 := A5.out
    go_cut [3] from 7 to 27 (fun u wx => ∃ g : Nat, u = .slice (some ⟨g, 0, none⟩) 6 6 ∧ Hid (Below u1.heap.size u1 wx) ∧ Hid (OwnZ wx (w.heap.size + 1) (.slice (some ⟨g, 0, none⟩) 6 6) [bTask, g1, h2, h3, h4, h5]))
    case first =>
      go_region_held3 (fun v => Below u1.heap.size u1 v ∧ v.cell? ⟨w.heap.size, 0, none⟩ = some (.int .i64 x.id) ∧ v.cell? ⟨w.heap.size, 1, none⟩ = some (.int .i64 x.c) ∧ v.cell? ⟨w.heap.size, 2, none⟩ = some (.int .i64 x.d) ∧ v.cell? ⟨w.heap.size, 3, none⟩ = some (.int .i64 x.t) ∧ v.cell? ⟨w.heap.size, 4, none⟩ = some (.int .i64 x.p)) (exact MK.out _ (by repeat (first | exact Below.refl _ _ | (with_reducible assumption) | refine bw_alloc ?_ _ | refine bw_drew ?_))) (first
        | (go_at_call 30; (with_reducible refine (E1.out _ (by repeat (first | exact Below.refl _ _ | (with_reducible assumption) | refine bw_alloc ?_ _ | refine bw_drew ?_))).mono ?_); rintro e wx ⟨rfl, bx⟩)
        | (go_at_call 30; (with_reducible refine (E2.out _ (by repeat (first | exact Below.refl _ _ | (with_reducible assumption) | refine bw_alloc ?_ _ | refine bw_drew ?_))).mono ?_); rintro e wx ⟨rfl, bx⟩)
        | (go_at_call 30; (with_reducible refine (E3.out _ (by repeat (first | exact Below.refl _ _ | (with_reducible assumption) | refine bw_alloc ?_ _ | refine bw_drew ?_))).mono ?_); rintro e wx ⟨rfl, bx⟩)
        | (go_at_call 30; (with_reducible refine (E4.out _ (by repeat (first | exact Below.refl _ _ | (with_reducible assumption) | refine bw_alloc ?_ _ | refine bw_drew ?_))).mono ?_); rintro e wx ⟨rfl, bx⟩)
        | (go_at_call 30; (with_reducible refine (E5.out _ (by repeat (first | exact Below.refl _ _ | (with_reducible assumption) | refine bw_alloc ?_ _ | refine bw_drew ?_))).mono ?_); rintro e wx ⟨rfl, bx⟩))
      all_goals
        go_wp2_with fail
        go_meet
        exact ⟨_, rfl, Lib.hid (by repeat (first | exact Below.refl _ _ | (with_reducible assumption) | refine bw_alloc ?_ _ | refine bw_drew ?_)), Lib.hid (ownz_six_low (u := u1) (by repeat (first | exact Below.refl _ _ | (with_reducible assumption) | refine bw_alloc ?_ _ | refine bw_drew ?_)) HN1.out _ _ _ _ _ _)⟩
    case rest =>
      obtain ⟨g6, rfl, HB2, HO2⟩ := hcut
      have T2 := Lib.hid (T1.out.below HB2.out)
      have B2 := Lib.hid (below_up B1.out HB2.out)
      clear MK E1 E2 E3 E4 E5 D1 D2 D3 D4 D5 A2 A3 A4 A5 a2 a3 a4 a5 T1 B1 HB2 HP1 HN1
      have c5 := T2.out.c5
      obtain ⟨N, hN⟩ : ∃ N, x.ch.length = N := ⟨_, rfl⟩
      rw [hN] at c5
      go_upto_if 30 with fail
      go_cut [3] from 27 to 38 (fun u wy => ∃ (a' : Option Addr) (n' cp' : Nat), u = .slice a' n' cp' ∧ Hid (Below w.heap.size w wy) ∧ Hid (AtB wy w.heap.size x) ∧ Hid (OwnZ wy (w.heap.size + 1) (.slice a' n' cp') (sixOf x.tk ++ chZ x.tk)))
      case first =>
        by_cases hc : x.ch = []
        · have hM : Hid (sixOf x.tk ++ chZ x.tk = [bTask, g1, h2, h3, h4, h5]) := by show _ = _; unfold chZ; rw [if_pos (show x.tk.ch = [] from hc), HSIX.out]; rfl
          have hl0 : N = 0 := by rw [← hN, hc]; rfl
          have hl1 : ¬ (0 : Int) < (N : Int) := by omega
          clear hl0 hc hN
          go_wp2_with fail
          go_meet
          exact ⟨_, _, _, rfl, B2, T2, by rw [hM.out]; exact HO2⟩
        · have hlp : 0 < x.ch.length := List.length_pos_iff.2 hc
          obtain ⟨q, hq⟩ : ∃ q, joinOf x.ch = q := ⟨_, rfl⟩
          obtain ⟨m1, hm1⟩ : ∃ m, tChunks ++ q = m := ⟨_, rfl⟩
          have hM : Hid (sixOf x.tk ++ chZ x.tk = [bTask, g1, h2, h3, h4, h5] ++ [m1]) := by show _ = _; unfold chZ; rw [if_neg (show ¬ x.tk.ch = [] from hc), HSIX.out]; show _ ++ [tChunks ++ joinOf x.ch] = _; rw [hq, hm1]
          have hqs : q.size ≤ 1472 := by rw [← hq]; exact size_join HCH.out HSM.out.chl
          have k8 : tChunks.size = 7 := rfl
          have CJ : Hid (∀ v, Below w.heap.size w v → Calls Tryd.prog 54 #[.slice x.a1 N x.c1] v fun e w' => e = .returned (.string q) ∧ Below v.heap.size v w') := fun v hb => by
            have := join_any x.a1 N x.c1 x.ch hN (by have := HSM.out.chl; omega) HCH.out v (HX.out.one.below hb) (HPT.out.below hb)
            rwa [hq] at this
          have b1 := add_str tChunks q m1 hm1 (by omega)
          rw [hN] at hlp
          have hlp2 : (0 : Int) < (N : Int) := by omega
          clear hN hq hm1 hqs k8 hc
          go_wp2_with (first
            | (go_at_call 54; (with_reducible refine (CJ.out _ B2.out).mono ?_); rintro e wx ⟨rfl, bx⟩; have B3 := Lib.hid (below_up B2.out bx); have T3 := Lib.hid (T2.out.below bx); have O3 := Lib.hid (HO2.out.below bx); have N3 : Hid (w.heap.size + 1 ≤ wx.heap.size) := (block_of_cell T3.out.c0 : w.heap.size < wx.heap.size); clear bx)
            | (at_builtin; refine wp_strs (m := 1) (l := [m1]) rfl _ _ rfl rfl rfl (O3.out.below (by repeat (first | exact Below.refl _ _ | (with_reducible assumption) | refine bw_alloc ?_ _ | refine bw_drew ?_))) (by rw [World.size_alloc]; have := N3.out; omega) (strs_new _ _ _) rfl (by simp) 7 rfl ?_; intro a3 k3 w3 o3 g3 l3; have HG := grownz_new (N := w.heap.size + 1) ((bw_alloc (Below.refl _ _) _ : Below wx.heap.size wx _).mono N3.out) (O3.out.below (by repeat (first | exact Below.refl _ _ | (with_reducible assumption) | refine bw_alloc ?_ _ | refine bw_drew ?_))) (Nat.le_refl _) (by rw [World.size_alloc]; have := N3.out; omega) g3; have B4 := Lib.hid (B3.out.trans (HG.mono (by omega))); have T4 := Lib.hid (T3.out.belowB HG (by omega)); have O4 := Lib.hid o3; clear o3 g3 l3 HG))
          go_meet
          exact ⟨_, _, _, rfl, B4, T4, by rw [hM.out]; exact O4⟩
      case rest =>
        clear B2 T2 c5 hN HO2
        obtain ⟨a3, n3, p3, rfl, B3, T3, O3⟩ := hcut
        have c6 := T3.out.c6
        obtain ⟨K, hK⟩ : ∃ K, x.us.length = K := ⟨_, rfl⟩
        rw [hK] at c6
        go_upto_if 41 with fail
        go_cut [3] from 38 to 50 (fun u wy => ∃ (a' : Option Addr) (n' cp' : Nat), u = .slice a' n' cp' ∧ Hid (Below w.heap.size w wy) ∧ Hid (OwnZ wy (w.heap.size + 1) (.slice a' n' cp') (sixOf x.tk ++ chZ x.tk ++ usZ x.tk)))
        case first =>
          by_cases hc : x.us = []
          · have hM : Hid (sixOf x.tk ++ chZ x.tk ++ usZ x.tk = sixOf x.tk ++ chZ x.tk) := by show _ = _; unfold usZ; rw [if_pos (show x.tk.us = [] from hc), List.append_nil]
            have hl0 : K = 0 := by rw [← hK, hc]; rfl
            have hl1 : ¬ (0 : Int) < (K : Int) := by omega
            clear hl0 hc hK
            go_wp2_with fail
            go_meet
            exact ⟨_, _, _, rfl, B3, by rw [hM.out]; exact O3⟩
          · have hlp : 0 < x.us.length := List.length_pos_iff.2 hc
            obtain ⟨q, hq⟩ : ∃ q, joinOf x.us = q := ⟨_, rfl⟩
            obtain ⟨m1, hm1⟩ : ∃ m, tUse ++ q = m := ⟨_, rfl⟩
            have hM : Hid (sixOf x.tk ++ chZ x.tk ++ usZ x.tk = (sixOf x.tk ++ chZ x.tk) ++ [m1]) := by show _ = _; unfold usZ; rw [if_neg (show ¬ x.tk.us = [] from hc)]; show _ ++ [tUse ++ joinOf x.us] = _; rw [hq, hm1]
            have hqs : q.size ≤ 1472 := by rw [← hq]; exact size_join HUS.out HSM.out.usl
            have k8 : tUse.size = 4 := rfl
            have CA : Hid (∀ v, Below w.heap.size w v → Calls Tryd.prog 55 #[.slice x.a2 K x.c2] v (AsBack 2 x.us K v)) := fun v hb => as_qi x.a2 K x.c2 x.us hK (by have := HSM.out.usl; omega) v (HX.out.two.below hb)
            have CJ : Hid (∀ (a : Option Addr) (c : Nat) v, Below w.heap.size w v → Ints v a x.us → Calls Tryd.prog 54 #[.slice a K c] v fun e w' => e = .returned (.string q) ∧ Below v.heap.size v w') := fun a c v hb hi => by
              have := join_any a K c x.us hK (by have := HSM.out.usl; omega) HUS.out v hi (HPT.out.below hb)
              rwa [hq] at this
            have b1 := add_str tUse q m1 hm1 (by omega)
            have HLN : Hid ((sixOf x.tk ++ chZ x.tk).length = n3) := by
              show _ = _
              obtain ⟨_, _, e, _⟩ := O3.out.slice
              injection e with _ e _
              exact e.symm
            have HL7 : Hid ((sixOf x.tk ++ chZ x.tk).length ≤ 7) := by
              show _ ≤ _
              rw [List.length_append]
              have : (chZ x.tk).length ≤ 1 := by unfold chZ; split <;> simp
              have h6 : (sixOf x.tk).length = 6 := rfl
              omega
            rw [hK] at hlp
            have hlp2 : (0 : Int) < (K : Int) := by omega
            clear hK hq hm1 hqs k8 hc
            go_wp2_with (first
              | (go_at_call 55; (with_reducible refine (CA.out _ B3.out).mono ?_); rintro e wa ⟨a9, c9, rfl, o9, b9⟩; have B8 := Lib.hid (below_up B3.out b9); have O8 := Lib.hid (O3.out.below b9); have T8 := Lib.hid (T3.out.below b9); have I8 := Lib.hid o9.ints.1; clear o9 b9)
              | (go_at_call 54; (with_reducible refine (CJ.out _ _ _ B8.out I8.out).mono ?_); rintro e wx ⟨rfl, bx⟩; have B9 := Lib.hid (below_up B8.out bx); have O9 := Lib.hid (O8.out.below bx); have N9 : Hid (w.heap.size + 1 ≤ wx.heap.size) := (block_of_cell (T8.out.below bx).c0 : w.heap.size < wx.heap.size); clear bx)
              | (at_builtin; refine wp_strs (m := 1) (l := [m1]) rfl _ _ rfl rfl rfl (O9.out.below (by repeat (first | exact Below.refl _ _ | (with_reducible assumption) | refine bw_alloc ?_ _ | refine bw_drew ?_))) (by rw [World.size_alloc]; have := N9.out; omega) (strs_new _ _ _) rfl (by have := HL7.out; omega) (n3 + 1) (by rw [HLN.out]) ?_; intro a4 k4 w4 o4 g4 l4; have HG := grownz_new (N := w.heap.size + 1) ((bw_alloc (Below.refl _ _) _ : Below wx.heap.size wx _).mono N9.out) (O9.out.below (by repeat (first | exact Below.refl _ _ | (with_reducible assumption) | refine bw_alloc ?_ _ | refine bw_drew ?_))) (Nat.le_refl _) (by rw [World.size_alloc]; have := N9.out; omega) g4; have B4 := Lib.hid (B9.out.trans (HG.mono (by omega))); have O4 := Lib.hid o4; clear o4 g4 l4 HG))
            go_meet
            exact ⟨_, _, _, rfl, B4, by rw [hM.out]; exact O4⟩
        case rest =>
          clear B3 T3 c6 hK O3
          obtain ⟨a5, n5, p5, rfl, B5, O5⟩ := hcut
          obtain ⟨g5, rfl, hS5, hl5, hc5⟩ := O5.out.some_ (by rw [List.length_append, List.length_append]; show 0 < 6 + _ + _; omega)
          have hn5 : 0 < n5 ∧ n5 ≤ 1000000 := by
            rw [← hl5, List.length_append, List.length_append]
            have h1 : (chZ x.tk).length ≤ 1 := by unfold chZ; split <;> simp
            have h2 : (usZ x.tk).length ≤ 1 := by unfold usZ; split <;> simp
            have h6 : (sixOf x.tk).length = 6 := rfl
            omega
          have CZ := Lib.hid (strjoin_any g5 0 p5 n5 _ hl5 _ hS5 hn5.1 hn5.2 hc5 (by have := HZS.out; omega))
          rw [← HWZ.out, ← HL.out] at CZ
          clear hS5 hl5 hc5 hn5
          go_wp2_with (go_at_call 56; (with_reducible refine (CZ.out).mono ?_); rintro e wx ⟨rfl, bx⟩; have B6 := Lib.hid (below_up B5.out bx); clear bx)
          go_ret
          exact ⟨rfl, B6.out⟩
end Go.Proofs.YtlpffgmfgkleiaaDoor

/-
  The walk over a system as a text, as the program writes it.
-/
namespace Go.Proofs.YtlpffgmfgkleiaaDoor
open Go.RowKit Go.Maps

theorem bld_drew {B : Nat} {t : ByteArray} {w : World} (h : Bld B t w) : Bld B t w.drew := bld_below h (Below.refl _ w).drew
theorem sz_drew {n : Nat} {w : World} (h : n ≤ w.heap.size) : n ≤ w.drew.heap.size := h
theorem at_lit {T e : TypeId} {B b : Nat} {p : Value} {bs : List Value} {w : World} (h : Lib.BuilderAtF T e B b p bs w) : b < w.heap.size := by
  obtain ⟨_, v, h2, _⟩ := h
  exact (Array.getElem?_eq_some_iff.1 h2).1
theorem le_lit {B : Nat} {t : ByteArray} {w : World} (h : Bld B t w) : B < w.heap.size := h.elim (fun x => at_lit x) (fun x => at_lit x)
theorem bld_alloc {B : Nat} {t : ByteArray} {w : World} (h : Bld B t w) (o : Obj) : Bld B t (w.alloc o) := bld_below h ((Below.refl _ w).alloc (Nat.le_refl _) o)
/-- What is written behind a world lies behind it. -/
theorem below_at {u v v' : World} (h : Below u.heap.size u v) (k : Below u.heap.size v v') : Below u.heap.size u v' := h.trans k

set_option maxRecDepth 100000 in
set_option maxHeartbeats 4000000 in
theorem print_any {w : World} {a : Option Addr} {n cap : Nat} {L : List TV} (S R : Int) (ha : Tasks w a n cap L) (hw : ∀ x ∈ L, I64 x.p ∧ I64 x.id) (hT : PT w) : Calls Tryd.prog 15 #[.agg #[.int .i64 S, .int .i64 R, .slice a n cap]] w fun e w' => e = .returned (.string (printText S R (L.map TV.tk))) ∧ Below w.heap.size w w' := by
  have CK : Hid (∀ v, Below w.heap.size w v → Calls Tryd.prog 28 #[.agg #[.int .i64 S, .int .i64 R, .slice a n cap]] v fun e w' => e = .returned (.int .i64 (checkOf S R L)) ∧ Below v.heap.size v w') := fun v hb => check_any S R (ha.below hb) hw
  have HA := Lib.hid ha
  have HPT : Hid (PT w) := hT
  have HPX : Hid (printText S R (L.map TV.tk) = if checkOf S R L = 0 then printRun (headText S R) (L.map TV.tk) else ⟨#[]⟩) := print_tk S R L
  clear hT hw
  by_cases hr : checkOf S R L = 0
  rotate_left
  · obtain ⟨E, hE⟩ : ∃ E, checkOf S R L = E := ⟨_, rfl⟩
    rw [hE] at CK hr
    have HL : Hid (printText S R (L.map TV.tk) = ⟨#[]⟩) := by show _ = _; rw [HPX.out, if_neg (by rw [hE]; exact hr)]
    have d1 : (E == 0) = false := by rw [beq_eq_false_iff_ne]; exact hr
    have d2 : (E != 0) = true := by rw [bne, d1]; rfl
    clear HPX hE hr ha
    go_enter Tryd.func15, Tryd.ntmps15
    go_upto_region 1 with fail
    refine gen_world (SysB w w.heap.size S R a n cap) sysB_new ?_
    intro u0 h0
    have H0 := Lib.hid h0
    obtain ⟨-, c0, c1, c2⟩ := h0
    go_wp2_with (go_at_call 28; (with_reducible refine (CK.out _ H0.out.low).mono ?_); rintro e u1 ⟨rfl, b1⟩; have B1 := Lib.hid (below_up H0.out.low b1); clear b1)
    go_ret
    exact ⟨by rw [HL.out]; rfl, B1.out⟩
  · have hq := check_pass hr
    have HL : Hid (printText S R (L.map TV.tk) = printRun (headText S R) (L.map TV.tk)) := by show _ = _; rw [HPX.out, if_pos hr]
    rw [hr] at CK
    have i1 : I64 S := by have := hq.s; unfold I64; omega
    have i2 : I64 R := by have := hq.r; unfold I64; omega
    have hn : L.length = n := ha.len
    have hn64 : n ≤ 64 := by have := hq.most; omega
    obtain ⟨g1, hg1⟩ : ∃ g, digOf S = g := ⟨_, rfl⟩
    have z1 : g1.size ≤ 22 := by rw [← hg1]; exact digOf_size _ i1
    have D1 : Hid (∀ v, PT v → Calls Tryd.prog 30 #[.int .i64 S] v fun e w' => e = .returned (.string g1) ∧ Below v.heap.size v w') := fun v hT => by have := digits_any S i1 v hT; rwa [hg1] at this
    obtain ⟨g2, hg2⟩ : ∃ g, digOf R = g := ⟨_, rfl⟩
    have z2 : g2.size ≤ 22 := by rw [← hg2]; exact digOf_size _ i2
    have D2 : Hid (∀ v, PT v → Calls Tryd.prog 30 #[.int .i64 R] v fun e w' => e = .returned (.string g2) ∧ Below v.heap.size v w') := fun v hT => by have := digits_any R i2 v hT; rwa [hg2] at this
    have kCache : sCache.size = 6 := rfl
    have kSp : sSp.size = 1 := rfl
    have kNl : sNl.size = 1 := rfl
    obtain ⟨s1, hs1⟩ : ∃ s, sCache ++ g1 = s := ⟨_, rfl⟩
    have y1 : s1.size = sCache.size + g1.size := by rw [← hs1, ByteArray.size_append]
    obtain ⟨s2, hs2⟩ : ∃ s, s1 ++ sSp = s := ⟨_, rfl⟩
    have y2 : s2.size = s1.size + sSp.size := by rw [← hs2, ByteArray.size_append]
    obtain ⟨s3, hs3⟩ : ∃ s, s2 ++ g2 = s := ⟨_, rfl⟩
    have y3 : s3.size = s2.size + g2.size := by rw [← hs3, ByteArray.size_append]
    obtain ⟨s4, hs4⟩ : ∃ s, s3 ++ sNl = s := ⟨_, rfl⟩
    have y4 : s4.size = s3.size + sNl.size := by rw [← hs4, ByteArray.size_append]
    have A1 := Lib.hid (add_str sCache g1 s1 hs1 (by omega))
    have A2 := Lib.hid (add_str s1 sSp s2 hs2 (by omega))
    have A3 := Lib.hid (add_str s2 g2 s3 hs3 (by omega))
    have A4 := Lib.hid (add_str s3 sNl s4 hs4 (by omega))
    have HHD : Hid (headText S R = s4) := by
      show _ = _
      unfold headText
      rw [hg1, hg2, hs1, hs2, hs3, hs4]
    have HS4 : Hid (s4.size ≤ 60) := by show _ ≤ _; omega
    have HRS : Hid (∀ k, (printRun s4 ((L.map TV.tk).take k)).size ≤ s4.size + 3401 * k) := fun k => run_size s4 L k
    rw [HHD.out] at HL
    clear i1 i2 hg1 hg2 z1 z2 hs1 hs2 hs3 hs4 y1 y2 y3 y4 kCache kSp kNl hq hr HPX HHD ha
    have HN := Lib.hid hn
    clear hn
    go_enter Tryd.func15, Tryd.ntmps15
    go_upto_region 1 with fail
    refine gen_world (SysB w w.heap.size S R a n cap) sysB_new ?_
    intro u0 h0
    have H0 := Lib.hid h0
    obtain ⟨-, c0, c1, c2⟩ := h0
    go_upto_region 4 with (go_at_call 28; (with_reducible refine (CK.out _ H0.out.low).mono ?_); rintro e u1 ⟨rfl, b1⟩; have H1 := Lib.hid (H0.out.below b1); clear b1)
    clear CK H0 c0 c1 c2
    have HP1 : Hid (PT u1) := HPT.out.below H1.out.low
    refine gen_world (fun v => Below u1.heap.size u1 v ∧ Bld u1.heap.size ⟨#[]⟩ v ∧ u1.heap.size < v.heap.size) ⟨bw_alloc (Below.refl _ _) _, Lib.IsBuilderF.of (Lib.fresh_isBuilder _ _ u1), by rw [World.size_alloc]; omega⟩ ?_
    intro ub ⟨hlb, hbb, hgb⟩
    have SZ : Hid (u1.heap.size < ub.heap.size) := hgb
    clear hgb
    have MK : Hid (∀ v, Below u1.heap.size u1 v → (Below u1.heap.size u1 v ∧ v.cell? ⟨w.heap.size, 0, none⟩ = some (.int .i64 S) ∧ v.cell? ⟨w.heap.size, 1, none⟩ = some (.int .i64 R))) := fun v hb => ⟨hb, kept_cell hb H1.out.s0, kept_cell hb H1.out.s1⟩
    have E1 : Hid (∀ v, Below u1.heap.size u1 v → Bld u1.heap.size ⟨#[]⟩ v → ub.heap.size ≤ v.heap.size → Calls Tryd.prog 30 #[.int .i64 S] v fun e w' => e = .returned (.string g1) ∧ Below u1.heap.size u1 w' ∧ Bld u1.heap.size ⟨#[]⟩ w' ∧ ub.heap.size ≤ w'.heap.size) := fun v hb hl hs => (D1.out v (HP1.out.below hb)).mono fun _ _ ⟨h1, h2⟩ => ⟨h1, below_up hb h2, bld_below hl h2, Nat.le_trans hs h2.size⟩
    have E2 : Hid (∀ v, Below u1.heap.size u1 v → Bld u1.heap.size ⟨#[]⟩ v → ub.heap.size ≤ v.heap.size → Calls Tryd.prog 30 #[.int .i64 R] v fun e w' => e = .returned (.string g2) ∧ Below u1.heap.size u1 w' ∧ Bld u1.heap.size ⟨#[]⟩ w' ∧ ub.heap.size ≤ w'.heap.size) := fun v hb hl hs => (D2.out v (HP1.out.below hb)).mono fun _ _ ⟨h1, h2⟩ => ⟨h1, below_up hb h2, bld_below hl h2, Nat.le_trans hs h2.size⟩
    have E3 : Hid (∀ v, Below u1.heap.size u1 v → Bld u1.heap.size ⟨#[]⟩ v → ub.heap.size ≤ v.heap.size → Calls Tryd.prog 29 #[.pointer (some ⟨u1.heap.size, 0, none⟩), .string s4] v fun e w' => ∃ z, e = .returned z ∧ Below u1.heap.size u1 w' ∧ Bld u1.heap.size s4 w') := fun v hb hl hs => (bld_text hl s4 (by have := HS4.out; show 0 + s4.size ≤ _; omega) (by have := SZ.out; omega)).mono fun _ _ ⟨z, h1, h2, h3⟩ => ⟨z, h1, below_at hb h3, by rwa [show (⟨#[]⟩ : ByteArray) ++ s4 = s4 from ba_nil_add s4] at h2⟩
    have a1 := A1.out
    have a2 := A2.out
    have a3 := A3.out
    have a4 := A4.out
    have hgg : ub.heap.size ≤ ub.heap.size := Nat.le_refl _
    go_cut [3] from 9 to 20 (fun u wx => u = .pointer (some ⟨u1.heap.size, 0, none⟩) ∧ Hid (Below u1.heap.size u1 wx) ∧ Hid (Bld u1.heap.size s4 wx))
    case first =>
      go_region_held3 (fun v => Below u1.heap.size u1 v ∧ v.cell? ⟨w.heap.size, 0, none⟩ = some (.int .i64 S) ∧ v.cell? ⟨w.heap.size, 1, none⟩ = some (.int .i64 R)) (exact MK.out _ (by repeat (first | (with_reducible assumption) | refine bw_drew ?_))) (first
        | (go_at_call 30; (with_reducible refine (E1.out _ (by repeat (first | (with_reducible assumption) | refine bw_drew ?_)) (by repeat (first | (with_reducible assumption) | refine bld_drew ?_)) (by repeat (first | (with_reducible assumption) | refine sz_drew ?_))).mono ?_); rintro e wx ⟨rfl, bx, lx, sx⟩)
        | (go_at_call 30; (with_reducible refine (E2.out _ (by repeat (first | (with_reducible assumption) | refine bw_drew ?_)) (by repeat (first | (with_reducible assumption) | refine bld_drew ?_)) (by repeat (first | (with_reducible assumption) | refine sz_drew ?_))).mono ?_); rintro e wx ⟨rfl, bx, lx, sx⟩)
        | (go_at_call 29; (with_reducible refine (E3.out _ (by repeat (first | (with_reducible assumption) | refine bw_drew ?_)) (by repeat (first | (with_reducible assumption) | refine bld_drew ?_)) (by repeat (first | (with_reducible assumption) | refine sz_drew ?_))).mono ?_); rintro e wx ⟨z, rfl, bx, lx⟩))
      all_goals
        go_wp2_with fail
        go_meet
        exact ⟨rfl, Lib.hid (by with_reducible assumption), Lib.hid (by with_reducible assumption)⟩
    case rest =>
      obtain ⟨rfl, HB2, HB3⟩ := hcut
      clear MK E1 E2 E3 D1 D2 A1 A2 A3 A4 a1 a2 a3 a4 hlb hbb hgg SZ
      have H2 := Lib.hid (H1.out.below HB2.out)
      obtain ⟨_, c0, c1, c2⟩ := H2.out
      have LB := Lib.hid (le_lit HB3.out)
      go_wp2_with fail
      go_loopw [23] (fun u wr => ∃ (k : Nat), k ≤ n ∧ u = .int .i64 k ∧ Hid (Below u1.heap.size u1 wr) ∧ Hid (Bld u1.heap.size (printRun s4 ((L.map TV.tk).take k)) wr) ∧ Hid (u1.heap.size < wr.heap.size)) (fun u _ => (n - intOf u).toNat)
      case atStart => exact ⟨0, by omega, rfl, HB2, HB3, LB⟩
      case round =>
        obtain ⟨k, hk, rfl, HQ, HW, HZ⟩ := hrel
        clear HB2 HB3 LB H2
        have HP := Lib.hid (H1.out.below HQ.out)
        obtain ⟨_, q0, q1, q2⟩ := HP.out
        by_cases hlt : k < n
        · obtain ⟨x, hx⟩ := nth_of HA.out.len hlt
          obtain ⟨g, o, rfl, ⟨c0, c1, c2, c3, c4, c5, c6⟩⟩ := (HA.out.view.below HP.out.low).at_ hx
          have hk1 : (k : Int) < (n : Int) := by omega
          have hk0 : (0 : Int) ≤ (k : Int) := by omega
          obtain ⟨X, hX⟩ : ∃ X, printRun s4 ((L.map TV.tk).take k) = X := ⟨_, rfl⟩
          obtain ⟨Y, hY⟩ : ∃ Y, lineText x.tk = Y := ⟨_, rfl⟩
          obtain ⟨m1, hm1⟩ : ∃ m, Y ++ sNl = m := ⟨_, rfl⟩
          have HNX : Hid (printRun s4 ((L.map TV.tk).take (k + 1)) = X ++ m1) := by
            show _ = _
            rw [run_next (t := x.tk) (by rw [List.getElem?_map, hx]; rfl), hX, hY, ByteArray.append_assoc, hm1]
          have hYs : Y.size ≤ 3400 := by rw [← hY]; exact line_size x
          have hXs : X.size ≤ s4.size + 3401 * k := by rw [← hX]; exact HRS.out k
          have hm1s : m1.size = Y.size + sNl.size := by rw [← hm1, ByteArray.size_append]
          have k1 : sNl.size = 1 := rfl
          have b1 := add_str Y sNl m1 hm1 (by omega)
          have HXM : Hid (X.size + m1.size ≤ 1000000000) := by show _ ≤ _; have := HS4.out; omega
          have CL : Hid (∀ v, Below wr.heap.size wr v → Calls Tryd.prog 31 #[x.val] v fun e w' => e = .returned (.string Y) ∧ Below v.heap.size v w') := fun v hb => by
            have := line_any x v (((HA.out.ok.at_ hx).below HP.out.low).below hb) (HPT.out.below (below_up HP.out.low hb))
            rwa [hY] at this
          unfold TV.val at CL
          rw [hX] at HW
          have CW : Hid (∀ v, Below wr.heap.size wr v → Calls Tryd.prog 29 #[.pointer (some ⟨u1.heap.size, 0, none⟩), .string m1] v fun e w' => ∃ z, e = .returned z ∧ Below u1.heap.size u1 w' ∧ Bld u1.heap.size (X ++ m1) w' ∧ u1.heap.size < w'.heap.size) := fun v hb => (bld_text (bld_below HW.out hb) m1 HXM.out (by have := HZ.out; have := hb.size; omega)).mono fun _ _ ⟨z, h1, h2, h3⟩ => ⟨z, h1, below_at (below_up HQ.out hb) h3, h2, by have := HZ.out; have := hb.size; have := h3.size; omega⟩
          clear hx hX hY hm1 hYs hXs hm1s k1
          go_wp2_with (first
            | (go_at_call 31; (with_reducible refine (CL.out _ (by repeat (first | exact Below.refl _ _ | (with_reducible assumption) | refine bw_alloc ?_ _ | refine bw_drew ?_))).mono ?_); rintro e w2 ⟨rfl, b2⟩; have HB2 := Lib.hid (below_up (by repeat (first | exact Below.refl _ _ | (with_reducible assumption) | refine bw_alloc ?_ _ | refine bw_drew ?_) : Below wr.heap.size wr _) b2); clear b2)
            | (go_at_call 29; (with_reducible refine (CW.out _ HB2.out).mono ?_); rintro e w3 ⟨z, rfl, b3, b4, b5⟩; have R3 := Lib.hid b3; have R4 := Lib.hid b4; have R5 := Lib.hid b5; clear b3 b4 b5))
          go_roundw
          case rel => exact ⟨k + 1, by omega, by go_num, R3, by rw [HNX.out]; exact R4, R5⟩
          case measure => simp [intOf]; omega
        · obtain rfl : n = k := by omega
          have HX : Hid (printRun s4 ((L.map TV.tk).take n) = printText S R (L.map TV.tk)) := by
            show _ = _
            rw [HL.out, List.take_of_length_le (by rw [List.length_map, HN.out]; exact Nat.le_refl _)]
          rw [HX.out] at HW
          have CS : Hid (Calls Tryd.prog 32 #[.pointer (some ⟨u1.heap.size, 0, none⟩)] wr fun e w' => e = .returned (.string (printText S R (L.map TV.tk))) ∧ Below w.heap.size w w') := (bld_string HW.out (by have := HZ.out; omega)).mono fun _ _ ⟨h1, h2⟩ => ⟨h1, H1.out.low.trans ((below_at HQ.out h2).mono H1.out.low.size)⟩
          go_wp2_with (go_at_call 32; (with_reducible refine CS.out.mono ?_); rintro e w3 ⟨rfl, b3⟩)
          go_ret
          exact ⟨rfl, b3⟩
end Go.Proofs.YtlpffgmfgkleiaaDoor

/-
  The walks over a row's next word: one that may stand there, one that must, none.
-/
namespace Go.Proofs.YtlpffgmfgkleiaaDoor
open Go.RowKit Go.Maps

theorem row_cells {w : World} {R N : Nat} {e : Int} {x : WV} {l : List WV} (h : Left w R N e (x :: l)) : ∃ g o c, w.cell? ⟨R, 0, none⟩ = some (.slice (some ⟨g, o, none⟩) (l.length + 1) c) ∧ w.cell? ⟨R, 1, none⟩ = some (.int .i64 e) ∧ Box w R RowT #[.slice (some ⟨g, o, none⟩) (l.length + 1) c, .int .i64 e] ∧ WAt w g o x ∧ g < N ∧ WIn w N (some ⟨g, o, none⟩) (x :: l) ∧ l.length + 1 ≤ c ∧ (c : Int) ≤ 9223372036854775807 := by
  obtain ⟨a, c, hb, hw, hl, hc⟩ := h
  have hw0 := hw
  rcases hw with q | ⟨g, o, rfl, hg, hv⟩
  · cases q
  · refine ⟨g, o, c, blk_cell hb 0, blk_cell hb 1, hb, ⟨hv 0 _ rfl, hv 1 _ rfl, hv 2 _ rfl⟩, hg, hw0, by simpa using hl, hc⟩
theorem win_tail {w : World} {N g o : Nat} {x : WV} {l : List WV} (h : WIn w N (some ⟨g, o, none⟩) (x :: l)) : WIn w N (some ⟨g, o + 3, none⟩) l := by
  rcases h with q | ⟨g', o', e, hg, hv⟩
  · cases q
  · cases e
    refine .inr ⟨_, _, rfl, hg, fun j u hj => ?_⟩
    have := hv (3 + j) u (by rw [wflat, List.getElem?_append_right (by rw [wcells_len]; omega), wcells_len]; rw [show 3 + j - 3 = j by omega]; exact hj)
    rwa [← Nat.add_assoc] at this
theorem wAt_below {w w' : World} {g o N : Nat} {x : WV} (h : WAt w g o x) (hb : Below N w w') (hg : g < N) : WAt w' g o x :=
  ⟨kept_cellB hb hg h.c0, kept_cellB hb hg h.c1, kept_cellB hb hg h.c2⟩

set_option maxRecDepth 100000 in
set_option maxHeartbeats 2000000 in
theorem may_nil {R N : Nat} {e : Int} {w : World} (say : Value) (h : Left w R N e []) : Calls Tryd.prog 64 #[.pointer (some ⟨R, 0, none⟩), say] w fun x w' => x = .returned (.bool false) ∧ w' = w := by
  obtain ⟨a, c, hb, hw, hl, hc⟩ := h
  have c0 := blk_cell hb 0
  simp only [List.length_nil] at c0
  have c0' : w.cell? ⟨R, 0, none⟩ = some (.slice a 0 c) := c0
  clear c0 hb
  go_enter Tryd.func64, Tryd.ntmps64
  go_wp2
  go_ret
  exact ⟨rfl, rfl⟩

set_option maxRecDepth 100000 in
set_option maxHeartbeats 4000000 in
theorem may_word {R N T : Nat} {e : Int} {w : World} {x : WV} {l : List WV} {say : Value} {ok : Bool} {C : World → Prop} (h : Left w R N e (x :: l)) (hR : N ≤ R) (hT : N ≤ T) (hN : N ≤ w.heap.size) (hne : R ≠ T) (hx : I64 x.at_) (hsz : (x.tx.size : Int) ≤ 9223372036854775807)
    (hs : Says say w T x.tx ok C) (hC : ∀ v v' cs, Box v R RowT cs → C v → Two R R v v' → C v') :
    Calls Tryd.prog 64 #[.pointer (some ⟨R, 0, none⟩), say] w fun y w' => y = .returned (.bool ok) ∧ Two R T w w' ∧ C w' ∧ Left w' R N (if ok = true then endOf x else e) (if ok = true then l else x :: l) := by
  obtain ⟨g, o, c, c0, c1, hb, ⟨z0, z1, z2⟩, hg, hv, hlc, hcm⟩ := row_cells h
  obtain ⟨F, caps, rfl, henter, hcall⟩ := hs
  have HC := Lib.hid hcall
  have HST : Hid (∀ v v' cs, Box v R RowT cs → C v → Two R R v v' → C v') := hC
  have HBX := Lib.hid hb
  have HV := Lib.hid hv
  have HL := Lib.hid h
  obtain ⟨n, hn⟩ : ∃ n, l.length = n := ⟨_, rfl⟩
  have HLN := Lib.hid hn
  rw [hn] at c0 hlc
  have hn1 : ¬ ((n + 1 : Nat) : Int) = 0 := by omega
  have hn2 : (0 : Int) < ((n + 1 : Nat) : Int) := by omega
  clear hcall hC hb hv h hn
  go_enter Tryd.func64, Tryd.ntmps64
  cases ok with
  | false =>
    go_wp2_with (go_at_fn F; (with_reducible refine HC.out.mono ?_); rintro y w2 ⟨rfl, t2, k2⟩; have T2 := Lib.hid t2; have K2 := Lib.hid k2; clear t2 k2)
    go_ret
    exact ⟨rfl, Two.ofT T2.out, K2.out, HL.out.two T2.out hN hT hne⟩
  | true =>
    go_upto_region 3 with (go_at_fn F; (with_reducible refine HC.out.mono ?_); rintro y w2 ⟨rfl, t2, k2⟩; have T2 := Lib.hid t2; have K2 := Lib.hid k2; clear t2 k2)
    have HB2 : Hid (Below N w w2) := T2.out.below hT hT hN
    have bx2 := T2.out.box HBX.out hne hne
    rw [HLN.out] at bx2
    have d0 : w2.cell? ⟨R, 0, none⟩ = some (.slice (some ⟨g, o, none⟩) (n + 1) c) := blk_cell bx2 0
    have d1 : w2.cell? ⟨R, 1, none⟩ = some (.int .i64 e) := blk_cell bx2 1
    have f0 : w2.frozen? ⟨R, 0, none⟩ = false := blk_free bx2 0
    have f1 : w2.frozen? ⟨R, 1, none⟩ = false := blk_free bx2 1
    have y0 := kept_cellB HB2.out hg z0
    have y2 := kept_cellB HB2.out hg z2
    have HBX2 := Lib.hid bx2
    clear bx2 z0 z1 z2 c0 c1
    go_still_tail 17, (by kernel_rfl)
    go_upto_region 4 with fail
    refine gen_world (fun v => Two R T w v ∧ C v ∧ Box v R RowT #[.slice (some ⟨g, o, none⟩) (n + 1) c, .int .i64 (endOf x)]) ?_ ?_
    · have q : Two R R w2 (w2.setCell ⟨R, 1, none⟩ (.int .i64 (endOf x))).drew := ((Two.refl R R w2).setT _).then (bw_drew (Below.refl _ _))
      exact ⟨(Two.ofT T2.out).trans q.weak, HST.out _ _ _ HBX2.out K2.out q, (blk_set (w := w2) HBX2.out _).trans rfl⟩
    intro w3 ⟨t3, k3, b3⟩
    have T3 := Lib.hid t3
    have K3 := Lib.hid k3
    have BX3 := Lib.hid b3
    have e0 : w3.cell? ⟨R, 0, none⟩ = some (.slice (some ⟨g, o, none⟩) (n + 1) c) := blk_cell b3 0
    have f3 : w3.frozen? ⟨R, 0, none⟩ = false := blk_free b3 0
    clear t3 k3 b3 d0 d1 f0 f1 y0 y2 K2 T2 HC HL HBX HBX2 HB2
    have h1c : (1 : Int) ≤ (c : Int) := by omega
    have h1n : (1 : Int) ≤ ((n + 1 : Nat) : Int) := by omega
    have HF : Hid (∀ (a : Option Addr) (c' : Nat), WIn w3 N a l → n ≤ c' → (c' : Int) ≤ 9223372036854775807 → Two R T w (w3.setCell ⟨R, 0, none⟩ (.slice a n c')) ∧ C (w3.setCell ⟨R, 0, none⟩ (.slice a n c')) ∧ Left (w3.setCell ⟨R, 0, none⟩ (.slice a n c')) R N (endOf x) l) := fun a c' hw hl hm => by
      have q : Two R R w3 (w3.setCell ⟨R, 0, none⟩ (.slice a n c')) := (Two.refl R R w3).setT _
      have hN3 : N ≤ w3.heap.size := Nat.le_trans hN T3.out.size
      exact ⟨T3.out.setR _, HST.out _ _ _ BX3.out K3.out q, a, c', by rw [HLN.out]; exact (blk_set BX3.out _).trans rfl, hw.below (q.below hR hR hN3), by rw [HLN.out]; exact hl, hm⟩
    have HVT : Hid (WIn w3 N (some ⟨g, o + 3, none⟩) l) := win_tail (HV.out.below (T3.out.below hR hT hN))
    by_cases hc1 : c = 1
    · subst hc1
      have hn0 : n = 0 := by omega
      have hl0 : l = [] := List.length_eq_zero_iff.1 (HLN.out.trans hn0)
      have HF2 := Lib.hid (HF.out (some ⟨g, o, none⟩) 0 (.inl hl0) (by omega) (by omega))
      subst hn0
      clear HF HST HV hl0 HVT
      go_wp2_with fail
      go_ret
      exact ⟨rfl, HF2.out.1, HF2.out.2.1, HF2.out.2.2⟩
    · have HF2 := Lib.hid (HF.out (some ⟨g, o + 3, none⟩) (c - 1) HVT.out (by omega) (by omega))
      have hcn : ¬ (1 : Int) = (c : Int) := by omega
      have hcn2 : ((c : Int) - 1).toNat = c - 1 := by omega
      clear HF HST HV HVT
      go_wp2_with fail
      go_ret
      exact ⟨rfl, HF2.out.1, HF2.out.2.1, HF2.out.2.2⟩
end Go.Proofs.YtlpffgmfgkleiaaDoor

/-
  The walks over what must stand in a row, and over its end.
-/
namespace Go.Proofs.YtlpffgmfgkleiaaDoor
open Go.RowKit Go.Maps

set_option maxRecDepth 100000 in
set_option maxHeartbeats 2000000 in
theorem fail_word {R N : Nat} {e : Int} {w : World} {x : WV} {l : List WV} (h : Left w R N e (x :: l)) : Calls Tryd.prog 78 #[.pointer (some ⟨R, 0, none⟩)] w fun y w' => Panics x.at_ 10 y ∧ w' = w := by
  obtain ⟨g, o, c, c0, c1, hb, ⟨z0, z1, z2⟩, hg, hv, hlc, hcm⟩ := row_cells h
  have hn2 : (0 : Int) < ((l.length + 1 : Nat) : Int) := by omega
  clear hb hv h
  go_enter Tryd.func78, Tryd.ntmps78
  go_wp2
  exact ⟨rfl, rfl, rfl⟩
set_option maxRecDepth 100000 in
set_option maxHeartbeats 2000000 in
theorem fail_nil {R N : Nat} {e : Int} {w : World} (h : Left w R N e []) : Calls Tryd.prog 78 #[.pointer (some ⟨R, 0, none⟩)] w fun y w' => Panics e 10 y ∧ w' = w := by
  obtain ⟨a, c, hb, hw, hl, hc⟩ := h
  have c0 : w.cell? ⟨R, 0, none⟩ = some (.slice a 0 c) := blk_cell hb 0
  have c1 : w.cell? ⟨R, 1, none⟩ = some (.int .i64 e) := blk_cell hb 1
  clear hb
  go_enter Tryd.func78, Tryd.ntmps78
  go_wp2
  exact ⟨rfl, rfl, rfl⟩
set_option maxRecDepth 100000 in
set_option maxHeartbeats 2000000 in
theorem over_nil {R N : Nat} {e : Int} {w : World} (h : Left w R N e []) : Calls Tryd.prog 62 #[.pointer (some ⟨R, 0, none⟩)] w fun y w' => y = .returned (.tuple #[]) ∧ w' = w := by
  obtain ⟨a, c, hb, hw, hl, hc⟩ := h
  have c0 : w.cell? ⟨R, 0, none⟩ = some (.slice a 0 c) := blk_cell hb 0
  clear hb
  go_enter Tryd.func62, Tryd.ntmps62
  go_wp2
  go_end0
  exact ⟨rfl, rfl⟩
set_option maxRecDepth 100000 in
set_option maxHeartbeats 2000000 in
theorem over_word {R N : Nat} {e : Int} {w : World} {x : WV} {l : List WV} (h : Left w R N e (x :: l)) : Calls Tryd.prog 62 #[.pointer (some ⟨R, 0, none⟩)] w fun y w' => Panics x.at_ 10 y ∧ w' = w := by
  obtain ⟨g, o, c, c0, c1, hb, -, hg, hv, hlc, hcm⟩ := row_cells h
  have hn2 : (0 : Int) < ((l.length + 1 : Nat) : Int) := by omega
  have CF := Lib.hid (fail_word h)
  clear hb hv h
  go_enter Tryd.func62, Tryd.ntmps62
  go_wp2_with (go_at_call 78; (with_reducible refine CF.out.mono ?_); rintro y w2 ⟨rfl, rfl⟩)
  exact ⟨rfl, rfl, rfl⟩
set_option maxRecDepth 100000 in
set_option maxHeartbeats 2000000 in
theorem must_nil {R N : Nat} {e : Int} {w : World} (say : Value) (h : Left w R N e []) : Calls Tryd.prog 58 #[.pointer (some ⟨R, 0, none⟩), say] w fun y w' => Panics e 10 y ∧ w' = w := by
  have CM := Lib.hid (may_nil say h)
  have CF := Lib.hid (fail_nil h)
  go_enter Tryd.func58, Tryd.ntmps58
  go_wp2_with (first
    | (go_at_call 64; (with_reducible refine CM.out.mono ?_); rintro y w2 ⟨rfl, rfl⟩)
    | (go_at_call 78; (with_reducible refine CF.out.mono ?_); rintro y w2 ⟨rfl, rfl⟩))
  exact ⟨rfl, rfl, rfl⟩
/-- What a word that must stand there does. -/
def MustIs (R N T : Nat) (e : Int) (x : WV) (l : List WV) (ok : Bool) (C : World → Prop) (w : World) (y : Ending) (w' : World) : Prop :=
  if ok = true then y = .returned (.tuple #[]) ∧ Two R T w w' ∧ C w' ∧ Left w' R N (endOf x) l else Panics x.at_ 10 y ∧ Two R T w w'
set_option maxRecDepth 100000 in
set_option maxHeartbeats 2000000 in
theorem must_word {R N T : Nat} {e : Int} {w : World} {x : WV} {l : List WV} {say : Value} {ok : Bool} {C : World → Prop} (h : Left w R N e (x :: l)) (hR : N ≤ R) (hT : N ≤ T) (hN : N ≤ w.heap.size) (hne : R ≠ T) (hx : I64 x.at_) (hsz : (x.tx.size : Int) ≤ 9223372036854775807)
    (hs : Says say w T x.tx ok C) (hC : ∀ v v' cs, Box v R RowT cs → C v → Two R R v v' → C v') :
    Calls Tryd.prog 58 #[.pointer (some ⟨R, 0, none⟩), say] w (MustIs R N T e x l ok C w) := by
  have CM := Lib.hid (may_word h hR hT hN hne hx hsz hs hC)
  unfold MustIs
  clear h hs hC
  cases ok with
  | false =>
    go_enter Tryd.func58, Tryd.ntmps58
    go_wp2_with (first
      | (go_at_call 64; (with_reducible refine CM.out.mono ?_); rintro y w2 ⟨rfl, t2, -, l2⟩; have T2 := Lib.hid t2; have L2 := Lib.hid l2; clear t2 l2)
      | (go_at_call 78; (with_reducible refine (fail_word L2.out).mono ?_); rintro y w3 ⟨rfl, rfl⟩))
    exact ⟨rfl, rfl, T2.out⟩
  | true =>
    go_enter Tryd.func58, Tryd.ntmps58
    go_wp2_with (go_at_call 64; (with_reducible refine CM.out.mono ?_); rintro y w2 ⟨rfl, t2, k2, l2⟩; have T2 := Lib.hid t2; have K2 := Lib.hid k2; have L2 := Lib.hid l2; clear t2 k2 l2)
    go_end0
    exact ⟨rfl, T2.out, K2.out, L2.out⟩
end Go.Proofs.YtlpffgmfgkleiaaDoor

/-
  What must, or may, stand at a place of a row: what is taken there.
-/
namespace Go.Proofs.YtlpffgmfgkleiaaDoor
open Go.RowKit Go.Maps

theorem drop_some {W : List WV} {i : Nat} {x : WV} (h : W[i]? = some x) : W.drop i = x :: W.drop (i + 1) := by
  obtain ⟨h2, h3⟩ := List.getElem?_eq_some_iff.1 h
  rw [List.drop_eq_getElem_cons h2, h3]
theorem drop_none {W : List WV} {i : Nat} (h : W[i]? = none) : W.drop i = [] := List.drop_eq_nil_iff.2 (List.getElem?_eq_none_iff.1 h)
/-- Words whose places and sizes are no greater than a machine has. -/
def WordsOk (W : List WV) : Prop := ∀ x ∈ W, I64 x.at_ ∧ x.tx.size ≤ 900000
def MustAt (W : List WV) (R N T i : Nat) (ok : Bool) (C : World → Prop) (w : World) (y : Ending) (w' : World) : Prop :=
  if ok = true then y = .returned (.tuple #[]) ∧ Two R T w w' ∧ C w' ∧ Left w' R N (endAt W (i + 1)) (W.drop (i + 1)) else Panics (placeAt W i) 10 y ∧ Two R T w w'
theorem must_at {W : List WV} {R N T i : Nat} {w : World} {say : Value} {ok : Bool} {C : World → Prop} (hW : WordsOk W) (hi : i ≤ W.length) (h : Left w R N (endAt W i) (W.drop i)) (hR : N ≤ R) (hT : N ≤ T) (hN : N ≤ w.heap.size) (hne : R ≠ T)
    (hno : W[i]? = none → ok = false) (hs : ∀ x, W[i]? = some x → Says say w T x.tx ok C) (hC : ∀ v v' cs, Box v R RowT cs → C v → Two R R v v' → C v') :
    Calls Tryd.prog 58 #[.pointer (some ⟨R, 0, none⟩), say] w (MustAt W R N T i ok C w) := by
  cases hx : W[i]? with
  | none =>
    have hi2 : i = W.length := by have := List.getElem?_eq_none_iff.1 hx; omega
    rw [drop_none hx] at h
    obtain rfl := hno hx
    refine (must_nil say h).mono fun y w' ⟨h1, h2⟩ => ?_
    unfold MustAt
    rw [if_neg (by decide)]
    subst h2
    refine ⟨?_, Two.refl _ _ _⟩
    rw [placeAt_none (by omega), ← hi2]
    exact h1
  | some x =>
    rw [drop_some hx] at h
    obtain ⟨q1, q2⟩ := hW x (List.mem_of_getElem? hx)
    refine (must_word h hR hT hN hne q1 (by omega) (hs x hx) hC).mono fun y w' hm => ?_
    unfold MustIs at hm
    unfold MustAt
    rw [placeAt_some hx, endAt_succ hx]
    exact hm
theorem may_at {W : List WV} {R N T i : Nat} {w : World} {say : Value} {ok : Bool} {C : World → Prop} (hW : WordsOk W) (h : Left w R N (endAt W i) (W.drop i)) (hR : N ≤ R) (hT : N ≤ T) (hN : N ≤ w.heap.size) (hne : R ≠ T)
    (hno : W[i]? = none → ok = false ∧ C w) (hs : ∀ x, W[i]? = some x → Says say w T x.tx ok C) (hC : ∀ v v' cs, Box v R RowT cs → C v → Two R R v v' → C v') :
    Calls Tryd.prog 64 #[.pointer (some ⟨R, 0, none⟩), say] w fun y w' => y = .returned (.bool ok) ∧ Two R T w w' ∧ C w' ∧ Left w' R N (endAt W (if ok = true then i + 1 else i)) (W.drop (if ok = true then i + 1 else i)) := by
  cases hx : W[i]? with
  | none =>
    obtain ⟨rfl, hc⟩ := hno hx
    have h0 := h
    rw [drop_none hx] at h0
    refine (may_nil say h0).mono fun y w' ⟨h1, h2⟩ => ?_
    subst h2
    exact ⟨h1, Two.refl _ _ _, hc, h⟩
  | some x =>
    have h0 := h
    rw [drop_some hx] at h0
    obtain ⟨q1, q2⟩ := hW x (List.mem_of_getElem? hx)
    refine (may_word h0 hR hT hN hne q1 (by omega) (hs x hx) hC).mono fun y w' ⟨h1, h2, h3, h4⟩ => ⟨h1, h2, h3, ?_⟩
    cases ok with
    | true =>
      rw [if_pos rfl, if_pos rfl] at h4
      rw [if_pos rfl, endAt_succ hx]; exact h4
    | false =>
      rw [if_neg (by decide), if_neg (by decide)] at h4
      rw [if_neg (by decide), drop_some hx]; exact h4

/-! ### what is said of a word -/
theorem says_text {w : World} {b T : Nat} {t s : ByteArray} (h : w.cell? ⟨b, 0, none⟩ = some (.string t)) {C : World → Prop} (hc : C w) : Says (.func (.func 79) #[] #[.pointer (some ⟨b, 0, none⟩)]) w T s (decide (s = t)) C :=
  ⟨_, _, rfl, enters_text1, (text1_any s t b w h).mono fun e w' ⟨h1, h2⟩ => ⟨by rw [h1, beq_bytes], by rw [h2]; exact Two.refl _ _ _, by rw [h2]; exact hc⟩⟩
theorem putL_two {R T k : Nat} {TY : TypeId} {v v' : World} {cs c1 : Array Value} {B : Nat} {o : Option (List Int)} (hne : T ≠ R) (hty : TY ≠ 2 ∧ TY ≠ 3) (hR : Box v R RowT c1) (h : PutL v B T TY cs k o) (h2 : Two R R v v') : PutL v' B T TY cs k o := by
  cases o with
  | none => exact h2.box h hne hne
  | some l =>
    obtain ⟨a, c, hb, ⟨hi, hn⟩, hv, hl, hm⟩ := h
    have q := ints_two h2 hR hR (by decide) (by decide) hi hv
    exact ⟨a, c, h2.box hb hne hne, ⟨q.1, hn⟩, q.2, hl, hm⟩
theorem putL_low {B B' T k : Nat} {TY : TypeId} {v : World} {cs : Array Value} {o : Option (List Int)} (h : PutL v B T TY cs k o) (hB : B' ≤ B) : PutL v B' T TY cs k o := by
  cases o with
  | none => exact h
  | some l =>
    obtain ⟨a, c, hb, ⟨hi, hn⟩, r⟩ := h
    exact ⟨a, c, hb, ⟨hi, hn.low hB⟩, r⟩

theorem says_numI {w : World} {v : Value} {T k : Nat} {TY : TypeId} {cs : Array Value} {u : Value} {most : Int} {s : ByteArray} (h : TakesAt 80 v w ⟨T, k, none⟩ most) (hm : I64 most) (hs : s.size ≤ 900000) (hb : Box w T TY cs) (hu : cs[k]? = some u) :
    Says v w T s (numOf s most).isSome (fun w' => Box w' T TY (putN cs k (numOf s most))) := by
  obtain ⟨mb, tb, rfl, h1, h2⟩ := h
  exact ⟨_, _, rfl, enters_numI1, numI1_any s (by omega) most hm mb tb T k TY cs u w h1 h2 hb hu⟩
theorem says_named_numI {w : World} {v : Value} {nb sb T k : Nat} {TY : TypeId} {cs : Array Value} {u : Value} {most : Int} {s name : ByteArray} (hn : w.cell? ⟨nb, 0, none⟩ = some (.string name)) (hsb : w.cell? ⟨sb, 0, none⟩ = some v)
    (h : TakesAt 80 v w ⟨T, k, none⟩ most) (hm : I64 most) (hs : s.size ≤ 900000) (hb : Box w T TY cs) (hu : cs[k]? = some u) :
    Says (.func (.func 83) #[] #[.pointer (some ⟨nb, 0, none⟩), .pointer (some ⟨sb, 0, none⟩)]) w T s ((namedV s name).bind fun z => numOf z most).isSome (fun w' => Box w' T TY (putN cs k ((namedV s name).bind fun z => numOf z most))) := by
  refine ⟨_, _, rfl, enters_named1, ?_⟩
  cases hq : namedV s name with
  | none => exact (named1_none s name (by omega) v nb sb w hn hsb hq).mono fun e w' ⟨h1, h2⟩ => ⟨h1, Two.of_below h2, kept_obj h2 hb⟩
  | some z =>
    have hz := namedV_size hq
    exact named1_some s name (by omega) v nb sb T w hn hsb z hq _ _ fun w2 hb2 => says_numI (h.below hb2) hm (by omega) (kept_obj hb2 hb) hu

theorem says_numQ {w : World} {v : Value} {T k : Nat} {TY : TypeId} {cs : Array Value} {u : Value} {most : Int} {s : ByteArray} (h : TakesAt 82 v w ⟨T, k, none⟩ most) (hm : I64 most) (hs : s.size ≤ 900000) (hb : Box w T TY cs) (hu : cs[k]? = some u) :
    Says v w T s (numOf s most).isSome (fun w' => Box w' T TY (putN cs k (numOf s most))) := by
  obtain ⟨mb, tb, rfl, h1, h2⟩ := h
  exact ⟨_, _, rfl, enters_numQ1, numQ1_any s (by omega) most hm mb tb T k TY cs u w h1 h2 hb hu⟩
theorem says_named_numQ {w : World} {v : Value} {nb sb T k : Nat} {TY : TypeId} {cs : Array Value} {u : Value} {most : Int} {s name : ByteArray} (hn : w.cell? ⟨nb, 0, none⟩ = some (.string name)) (hsb : w.cell? ⟨sb, 0, none⟩ = some v)
    (h : TakesAt 82 v w ⟨T, k, none⟩ most) (hm : I64 most) (hs : s.size ≤ 900000) (hb : Box w T TY cs) (hu : cs[k]? = some u) :
    Says (.func (.func 83) #[] #[.pointer (some ⟨nb, 0, none⟩), .pointer (some ⟨sb, 0, none⟩)]) w T s ((namedV s name).bind fun z => numOf z most).isSome (fun w' => Box w' T TY (putN cs k ((namedV s name).bind fun z => numOf z most))) := by
  refine ⟨_, _, rfl, enters_named1, ?_⟩
  cases hq : namedV s name with
  | none => exact (named1_none s name (by omega) v nb sb w hn hsb hq).mono fun e w' ⟨h1, h2⟩ => ⟨h1, Two.of_below h2, kept_obj h2 hb⟩
  | some z =>
    have hz := namedV_size hq
    exact named1_some s name (by omega) v nb sb T w hn hsb z hq _ _ fun w2 hb2 => says_numQ (h.below hb2) hm (by omega) (kept_obj hb2 hb) hu

theorem says_named_numsI {w : World} {v : Value} {nb sb T k : Nat} {TY : TypeId} {cs : Array Value} {u : Value} {most : Int} {s name : ByteArray} (hn : w.cell? ⟨nb, 0, none⟩ = some (.string name)) (hsb : w.cell? ⟨sb, 0, none⟩ = some v)
    (h : TakesAt 88 v w ⟨T, k, none⟩ most) (hm : I64 most) (hs : s.size ≤ 900000) (hb : Box w T TY cs) (hu : cs[k]? = some u) (hty : TY ≠ 2 ∧ TY ≠ 3) {B : Nat} (hB : B ≤ w.heap.size) :
    Says (.func (.func 83) #[] #[.pointer (some ⟨nb, 0, none⟩), .pointer (some ⟨sb, 0, none⟩)]) w T s ((namedV s name).bind fun z => numsOf z most).isSome (fun w' => PutL w' B T TY cs k ((namedV s name).bind fun z => numsOf z most)) := by
  refine ⟨_, _, rfl, enters_named1, ?_⟩
  cases hq : namedV s name with
  | none => exact (named1_none s name (by omega) v nb sb w hn hsb hq).mono fun e w' ⟨h1, h2⟩ => ⟨h1, Two.of_below h2, kept_obj h2 hb⟩
  | some z =>
    have hz := namedV_size hq
    refine named1_some s name (by omega) v nb sb T w hn hsb z hq _ _ fun w2 hb2 => ?_
    obtain ⟨mb, tb, rfl, h1, h2⟩ := h.below hb2
    exact ⟨_, _, rfl, enters_numsI1, (numsI1_any z (by omega) most hm mb tb T k TY cs u w2 h1 h2 (kept_obj hb2 hb) hu hty).mono fun e w' ⟨q1, q2, q3⟩ => ⟨q1, q2, putL_low q3 (Nat.le_trans hB hb2.size)⟩⟩

theorem says_named_numsQ {w : World} {v : Value} {nb sb T k : Nat} {TY : TypeId} {cs : Array Value} {u : Value} {most : Int} {s name : ByteArray} (hn : w.cell? ⟨nb, 0, none⟩ = some (.string name)) (hsb : w.cell? ⟨sb, 0, none⟩ = some v)
    (h : TakesAt 85 v w ⟨T, k, none⟩ most) (hm : I64 most) (hs : s.size ≤ 900000) (hb : Box w T TY cs) (hu : cs[k]? = some u) (hty : TY ≠ 2 ∧ TY ≠ 3) {B : Nat} (hB : B ≤ w.heap.size) :
    Says (.func (.func 83) #[] #[.pointer (some ⟨nb, 0, none⟩), .pointer (some ⟨sb, 0, none⟩)]) w T s ((namedV s name).bind fun z => numsOf z most).isSome (fun w' => PutL w' B T TY cs k ((namedV s name).bind fun z => numsOf z most)) := by
  refine ⟨_, _, rfl, enters_named1, ?_⟩
  cases hq : namedV s name with
  | none => exact (named1_none s name (by omega) v nb sb w hn hsb hq).mono fun e w' ⟨h1, h2⟩ => ⟨h1, Two.of_below h2, kept_obj h2 hb⟩
  | some z =>
    have hz := namedV_size hq
    refine named1_some s name (by omega) v nb sb T w hn hsb z hq _ _ fun w2 hb2 => ?_
    obtain ⟨mb, tb, rfl, h1, h2⟩ := h.below hb2
    exact ⟨_, _, rfl, enters_numsQ1, (numsQ1_any z (by omega) most hm mb tb T k TY cs u w2 h1 h2 (kept_obj hb2 hb) hu hty).mono fun e w' ⟨q1, q2, q3⟩ => ⟨q1, q2, putL_low q3 (Nat.le_trans hB hb2.size)⟩⟩
end Go.Proofs.YtlpffgmfgkleiaaDoor

/-
  The stages of a row that is read: what each word of it leaves behind.
-/
namespace Go.Proofs.YtlpffgmfgkleiaaDoor
open Go.RowKit Go.Maps

/-- Where a row that is read stands: at that place, with that laid down. -/
structure Stg (W : List WV) (R N : Nat) (w0 : World) (TY : TypeId) (i : Nat) (cs : Array Value) (w : World) : Prop where
  two : Two R R w0 w
  left : Left w R N (endAt W i) (W.drop i)
  box : Box w w0.heap.size TY cs
/-- A block that was new from the start may turn. -/
theorem Two.news {R : Nat} {w0 w w' : World} (h : Two R R w0 w) (k : Two R w0.heap.size w w') : Two R R w0 w' :=
  ⟨k.os.trans h.os, k.tape.trans h.tape, k.output.trans h.output, Nat.le_trans h.size k.size, fun b hb h1 _ => (k.block b (Nat.lt_of_lt_of_le hb h.size) h1 (Nat.ne_of_lt hb)).trans (h.block b hb h1 h1)⟩
/-- What does not change while a row is read. -/
structure Fix (W : List WV) (R N : Nat) (w0 : World) : Prop where
  words : WordsOk W
  hR : N ≤ R
  lt : R < w0.heap.size
theorem Fix.hN {W : List WV} {R N : Nat} {w0 : World} (h : Fix W R N w0) : N ≤ w0.heap.size := Nat.le_trans h.hR (Nat.le_of_lt h.lt)
theorem Fix.ne {W : List WV} {R N : Nat} {w0 : World} (h : Fix W R N w0) : R ≠ w0.heap.size := Nat.ne_of_lt h.lt
theorem Stg.below {W : List WV} {R N : Nat} {w0 w w' : World} {TY : TypeId} {i : Nat} {cs : Array Value} (h : Stg W R N w0 TY i cs w) (hf : Fix W R N w0) (hb : Below w.heap.size w w') : Stg W R N w0 TY i cs w' :=
  ⟨h.two.then hb, h.left.below hb (Nat.le_trans hf.hN h.two.size), kept_obj hb h.box⟩
theorem box_row {R T : Nat} {TY : TypeId} {cs : Array Value} (hne : T ≠ R) : ∀ (v v' : World) (c1 : Array Value), Box v R RowT c1 → Box v T TY cs → Two R R v v' → Box v' T TY cs := fun _ _ _ _ hb h2 => h2.box hb hne hne
/-- What one step of a row does: it goes on, or panics at that place. -/
def StepIs (W : List WV) (R N : Nat) (w0 : World) (TY : TypeId) (i : Nat) (o : Option (Array Value)) (y : Ending) (w' : World) : Prop := match o with
  | some cs => y = .returned (.tuple #[]) ∧ Stg W R N w0 TY (i + 1) cs w'
  | none => Panics (placeAt W i) 10 y ∧ Two R R w0 w'
theorem step_text {W : List WV} {R N b i : Nat} {w0 w w' : World} {TY : TypeId} {cs : Array Value} {t : ByteArray} (hf : Fix W R N w0) (h : Stg W R N w0 TY i cs w) (hi : i ≤ W.length) (hb : Below w.heap.size w w') (hc : w'.cell? ⟨b, 0, none⟩ = some (.string t)) :
    Calls Tryd.prog 58 #[.pointer (some ⟨R, 0, none⟩), .func (.func 79) #[] #[.pointer (some ⟨b, 0, none⟩)]] w' (StepIs W R N w0 TY i (if wordAt W i = some t then some cs else none)) := by
  have h1 := h.below hf hb
  refine (must_at (T := w0.heap.size) (ok := decide (wordAt W i = some t)) (C := fun v => Box v w0.heap.size TY cs) hf.words hi h1.left hf.hR hf.hN (Nat.le_trans hf.hN h1.two.size) hf.ne ?_ ?_ (box_row hf.ne.symm)).mono ?_
  · intro hx
    rw [decide_eq_false]
    unfold wordAt; rw [hx]; simp
  · intro x hx
    have e : decide (wordAt W i = some t) = decide (x.tx = t) := by rw [wordAt_some hx]; simp
    rw [e]
    exact says_text hc h1.box
  · intro y w2 hm
    unfold MustAt at hm
    unfold StepIs
    by_cases q : wordAt W i = some t
    · rw [if_pos (by rw [decide_eq_true q])] at hm
      rw [if_pos q]
      exact ⟨hm.1, h1.two.news hm.2.1, hm.2.2.2, hm.2.2.1⟩
    · rw [if_neg (by rw [decide_eq_false q]; decide)] at hm
      rw [if_neg q]
      exact ⟨hm.1, h1.two.news hm.2⟩

theorem step_numI {W : List WV} {R N i k : Nat} {w0 w w' : World} {TY : TypeId} {cs : Array Value} {u v : Value} {most : Int} (hf : Fix W R N w0) (h : Stg W R N w0 TY i cs w) (hi : i ≤ W.length) (hb : Below w.heap.size w w') (ht : TakesAt 80 v w' ⟨w0.heap.size, k, none⟩ most) (hm : I64 most) (hu : cs[k]? = some u) :
    Calls Tryd.prog 58 #[.pointer (some ⟨R, 0, none⟩), v] w' (StepIs W R N w0 TY i ((((wordAt W i).bind fun s => numOf s most) : Option Nat).map fun (n : Nat) => cs.setIfInBounds k (.int .i64 n))) := by
  have h1 := h.below hf hb
  obtain ⟨o, ho⟩ : ∃ o, ((wordAt W i).bind fun s => numOf s most) = o := ⟨_, rfl⟩
  rw [ho]
  refine (must_at (T := w0.heap.size) (ok := o.isSome) (C := fun v => Box v w0.heap.size TY (putN cs k o)) hf.words hi h1.left hf.hR hf.hN (Nat.le_trans hf.hN h1.two.size) hf.ne ?_ ?_ (box_row hf.ne.symm)).mono ?_
  · intro hx
    rw [← ho]
    unfold wordAt; rw [hx]; rfl
  · intro x hx
    obtain ⟨-, q2⟩ := hf.words x (List.mem_of_getElem? hx)
    have e : numOf x.tx most = o := by rw [← ho]; rw [wordAt_some hx]; rfl
    rw [← e]
    exact says_numI ht hm q2 h1.box hu
  · intro y w2 hm
    unfold MustAt at hm
    unfold StepIs
    cases o with
    | some n =>
      rw [if_pos (show (some n).isSome = true from rfl)] at hm
      exact ⟨hm.1, h1.two.news hm.2.1, hm.2.2.2, hm.2.2.1⟩
    | none =>
      rw [if_neg (show ¬ (none : Option Nat).isSome = true by decide)] at hm
      exact ⟨hm.1, h1.two.news hm.2⟩

theorem step_numQ {W : List WV} {R N i k : Nat} {w0 w w' : World} {TY : TypeId} {cs : Array Value} {u v : Value} {most : Int} (hf : Fix W R N w0) (h : Stg W R N w0 TY i cs w) (hi : i ≤ W.length) (hb : Below w.heap.size w w') (ht : TakesAt 82 v w' ⟨w0.heap.size, k, none⟩ most) (hm : I64 most) (hu : cs[k]? = some u) :
    Calls Tryd.prog 58 #[.pointer (some ⟨R, 0, none⟩), v] w' (StepIs W R N w0 TY i ((((wordAt W i).bind fun s => numOf s most) : Option Nat).map fun (n : Nat) => cs.setIfInBounds k (.int .i64 n))) := by
  have h1 := h.below hf hb
  obtain ⟨o, ho⟩ : ∃ o, ((wordAt W i).bind fun s => numOf s most) = o := ⟨_, rfl⟩
  rw [ho]
  refine (must_at (T := w0.heap.size) (ok := o.isSome) (C := fun v => Box v w0.heap.size TY (putN cs k o)) hf.words hi h1.left hf.hR hf.hN (Nat.le_trans hf.hN h1.two.size) hf.ne ?_ ?_ (box_row hf.ne.symm)).mono ?_
  · intro hx
    rw [← ho]
    unfold wordAt; rw [hx]; rfl
  · intro x hx
    obtain ⟨-, q2⟩ := hf.words x (List.mem_of_getElem? hx)
    have e : numOf x.tx most = o := by rw [← ho]; rw [wordAt_some hx]; rfl
    rw [← e]
    exact says_numQ ht hm q2 h1.box hu
  · intro y w2 hm
    unfold MustAt at hm
    unfold StepIs
    cases o with
    | some n =>
      rw [if_pos (show (some n).isSome = true from rfl)] at hm
      exact ⟨hm.1, h1.two.news hm.2.1, hm.2.2.2, hm.2.2.1⟩
    | none =>
      rw [if_neg (show ¬ (none : Option Nat).isSome = true by decide)] at hm
      exact ⟨hm.1, h1.two.news hm.2⟩

theorem step_named_numI {W : List WV} {R N i k nb sb : Nat} {w0 w w' : World} {TY : TypeId} {cs : Array Value} {u v : Value} {most : Int} {name : ByteArray} (hf : Fix W R N w0) (h : Stg W R N w0 TY i cs w) (hi : i ≤ W.length) (hb : Below w.heap.size w w') (hn : w'.cell? ⟨nb, 0, none⟩ = some (.string name)) (hsb : w'.cell? ⟨sb, 0, none⟩ = some v) (ht : TakesAt 80 v w' ⟨w0.heap.size, k, none⟩ most) (hm : I64 most) (hu : cs[k]? = some u) :
    Calls Tryd.prog 58 #[.pointer (some ⟨R, 0, none⟩), .func (.func 83) #[] #[.pointer (some ⟨nb, 0, none⟩), .pointer (some ⟨sb, 0, none⟩)]] w' (StepIs W R N w0 TY i ((numAt W i name most : Option Nat).map fun (n : Nat) => cs.setIfInBounds k (.int .i64 n))) := by
  have h1 := h.below hf hb
  obtain ⟨o, ho⟩ : ∃ o, numAt W i name most = o := ⟨_, rfl⟩
  rw [ho]
  refine (must_at (T := w0.heap.size) (ok := o.isSome) (C := fun v => Box v w0.heap.size TY (putN cs k o)) hf.words hi h1.left hf.hR hf.hN (Nat.le_trans hf.hN h1.two.size) hf.ne ?_ ?_ (box_row hf.ne.symm)).mono ?_
  · intro hx
    rw [← ho]
    unfold numAt valAt wordAt; rw [hx]; rfl
  · intro x hx
    obtain ⟨-, q2⟩ := hf.words x (List.mem_of_getElem? hx)
    have e : ((namedV x.tx name).bind fun z => numOf z most) = o := by rw [← ho]; unfold numAt valAt; rw [wordAt_some hx]; rfl
    rw [← e]
    exact says_named_numI hn hsb ht hm q2 h1.box hu
  · intro y w2 hm
    unfold MustAt at hm
    unfold StepIs
    cases o with
    | some n =>
      rw [if_pos (show (some n).isSome = true from rfl)] at hm
      exact ⟨hm.1, h1.two.news hm.2.1, hm.2.2.2, hm.2.2.1⟩
    | none =>
      rw [if_neg (show ¬ (none : Option Nat).isSome = true by decide)] at hm
      exact ⟨hm.1, h1.two.news hm.2⟩

theorem step_named_numQ {W : List WV} {R N i k nb sb : Nat} {w0 w w' : World} {TY : TypeId} {cs : Array Value} {u v : Value} {most : Int} {name : ByteArray} (hf : Fix W R N w0) (h : Stg W R N w0 TY i cs w) (hi : i ≤ W.length) (hb : Below w.heap.size w w') (hn : w'.cell? ⟨nb, 0, none⟩ = some (.string name)) (hsb : w'.cell? ⟨sb, 0, none⟩ = some v) (ht : TakesAt 82 v w' ⟨w0.heap.size, k, none⟩ most) (hm : I64 most) (hu : cs[k]? = some u) :
    Calls Tryd.prog 58 #[.pointer (some ⟨R, 0, none⟩), .func (.func 83) #[] #[.pointer (some ⟨nb, 0, none⟩), .pointer (some ⟨sb, 0, none⟩)]] w' (StepIs W R N w0 TY i ((numAt W i name most : Option Nat).map fun (n : Nat) => cs.setIfInBounds k (.int .i64 n))) := by
  have h1 := h.below hf hb
  obtain ⟨o, ho⟩ : ∃ o, numAt W i name most = o := ⟨_, rfl⟩
  rw [ho]
  refine (must_at (T := w0.heap.size) (ok := o.isSome) (C := fun v => Box v w0.heap.size TY (putN cs k o)) hf.words hi h1.left hf.hR hf.hN (Nat.le_trans hf.hN h1.two.size) hf.ne ?_ ?_ (box_row hf.ne.symm)).mono ?_
  · intro hx
    rw [← ho]
    unfold numAt valAt wordAt; rw [hx]; rfl
  · intro x hx
    obtain ⟨-, q2⟩ := hf.words x (List.mem_of_getElem? hx)
    have e : ((namedV x.tx name).bind fun z => numOf z most) = o := by rw [← ho]; unfold numAt valAt; rw [wordAt_some hx]; rfl
    rw [← e]
    exact says_named_numQ hn hsb ht hm q2 h1.box hu
  · intro y w2 hm
    unfold MustAt at hm
    unfold StepIs
    cases o with
    | some n =>
      rw [if_pos (show (some n).isSome = true from rfl)] at hm
      exact ⟨hm.1, h1.two.news hm.2.1, hm.2.2.2, hm.2.2.1⟩
    | none =>
      rw [if_neg (show ¬ (none : Option Nat).isSome = true by decide)] at hm
      exact ⟨hm.1, h1.two.news hm.2⟩

/-- Numbers laid down, or none. -/
def LaidL (w : World) (B : Nat) (T : Nat) (TY : TypeId) (cs : Array Value) (k : Nat) (l : List Int) : Prop :=
  ∃ a c, Box w T TY (cs.setIfInBounds k (.slice a l.length c)) ∧ (IsI w a l ∧ FreshI B a l) ∧ Ints w a l ∧ l.length ≤ c ∧ (c : Int) ≤ 9223372036854775807
theorem putL_laid {w : World} {B T k : Nat} {TY : TypeId} {cs : Array Value} {o : Option (List Int)} (h : PutL w B T TY cs k o) (hk : cs.setIfInBounds k (.slice none 0 0) = cs) : LaidL w B T TY cs k (o.getD []) := by
  cases o with
  | some l => exact h
  | none => exact ⟨none, 0, by show Box w T TY (cs.setIfInBounds k (.slice none 0 0)); rw [hk]; exact h, ⟨.inl rfl, .inl rfl⟩, .inl rfl, Nat.le_refl _, by omega⟩

theorem step_numsI {W : List WV} {R N i k nb sb : Nat} {w0 w w' : World} {TY : TypeId} {cs : Array Value} {u v : Value} {most : Int} {name : ByteArray} (hf : Fix W R N w0) (h : Stg W R N w0 TY i cs w) (hb : Below w.heap.size w w') (hn : w'.cell? ⟨nb, 0, none⟩ = some (.string name)) (hsb : w'.cell? ⟨sb, 0, none⟩ = some v) (ht : TakesAt 88 v w' ⟨w0.heap.size, k, none⟩ most) (hm : I64 most) (hu : cs[k]? = some u) (hk : cs.setIfInBounds k (.slice none 0 0) = cs) (hty : TY ≠ 2 ∧ TY ≠ 3) (o : Option (List Int)) (ho : numsAt W i name most = o) (j : Nat) (hj : (if o.isSome = true then i + 1 else i) = j) :
    Calls Tryd.prog 64 #[.pointer (some ⟨R, 0, none⟩), .func (.func 83) #[] #[.pointer (some ⟨nb, 0, none⟩), .pointer (some ⟨sb, 0, none⟩)]] w' (fun y w2 => y = .returned (.bool o.isSome) ∧ Two R w0.heap.size w w2 ∧ Two R R w0 w2 ∧ Left w2 R N (endAt W j) (W.drop j) ∧ LaidL w2 w0.heap.size w0.heap.size TY cs k (o.getD [])) := by
  have h1 := h.below hf hb
  refine (may_at (T := w0.heap.size) (ok := o.isSome) (C := fun v => PutL v w0.heap.size w0.heap.size TY cs k o) hf.words h1.left hf.hR hf.hN (Nat.le_trans hf.hN h1.two.size) hf.ne ?_ ?_ (fun _ _ _ hb hc h2 => putL_two hf.ne.symm hty hb hc h2)).mono ?_
  · intro hx
    have e : o = none := by rw [← ho]; unfold numsAt valAt wordAt; rw [hx]; rfl
    subst e
    exact ⟨rfl, h1.box⟩
  · intro x hx
    obtain ⟨-, q2⟩ := hf.words x (List.mem_of_getElem? hx)
    have e : ((namedV x.tx name).bind fun z => numsOf z most) = o := by rw [← ho]; unfold numsAt valAt; rw [wordAt_some hx]; rfl
    rw [← e]
    exact says_named_numsI hn hsb ht hm q2 h1.box hu hty h1.two.size
  · intro y w2 ⟨m1, m2, m3, m4⟩
    rw [hj] at m4
    exact ⟨m1, (Two.of_below hb).trans m2, h1.two.news m2, m4, putL_laid m3 hk⟩

theorem step_numsQ {W : List WV} {R N i k nb sb : Nat} {w0 w w' : World} {TY : TypeId} {cs : Array Value} {u v : Value} {most : Int} {name : ByteArray} (hf : Fix W R N w0) (h : Stg W R N w0 TY i cs w) (hb : Below w.heap.size w w') (hn : w'.cell? ⟨nb, 0, none⟩ = some (.string name)) (hsb : w'.cell? ⟨sb, 0, none⟩ = some v) (ht : TakesAt 85 v w' ⟨w0.heap.size, k, none⟩ most) (hm : I64 most) (hu : cs[k]? = some u) (hk : cs.setIfInBounds k (.slice none 0 0) = cs) (hty : TY ≠ 2 ∧ TY ≠ 3) (o : Option (List Int)) (ho : numsAt W i name most = o) (j : Nat) (hj : (if o.isSome = true then i + 1 else i) = j) :
    Calls Tryd.prog 64 #[.pointer (some ⟨R, 0, none⟩), .func (.func 83) #[] #[.pointer (some ⟨nb, 0, none⟩), .pointer (some ⟨sb, 0, none⟩)]] w' (fun y w2 => y = .returned (.bool o.isSome) ∧ Two R w0.heap.size w w2 ∧ Two R R w0 w2 ∧ Left w2 R N (endAt W j) (W.drop j) ∧ LaidL w2 w0.heap.size w0.heap.size TY cs k (o.getD [])) := by
  have h1 := h.below hf hb
  refine (may_at (T := w0.heap.size) (ok := o.isSome) (C := fun v => PutL v w0.heap.size w0.heap.size TY cs k o) hf.words h1.left hf.hR hf.hN (Nat.le_trans hf.hN h1.two.size) hf.ne ?_ ?_ (fun _ _ _ hb hc h2 => putL_two hf.ne.symm hty hb hc h2)).mono ?_
  · intro hx
    have e : o = none := by rw [← ho]; unfold numsAt valAt wordAt; rw [hx]; rfl
    subst e
    exact ⟨rfl, h1.box⟩
  · intro x hx
    obtain ⟨-, q2⟩ := hf.words x (List.mem_of_getElem? hx)
    have e : ((namedV x.tx name).bind fun z => numsOf z most) = o := by rw [← ho]; unfold numsAt valAt; rw [wordAt_some hx]; rfl
    rw [← e]
    exact says_named_numsQ hn hsb ht hm q2 h1.box hu hty h1.two.size
  · intro y w2 ⟨m1, m2, m3, m4⟩
    rw [hj] at m4
    exact ⟨m1, (Two.of_below hb).trans m2, h1.two.news m2, m4, putL_laid m3 hk⟩
end Go.Proofs.YtlpffgmfgkleiaaDoor

/-
  The walks over a row that says a cache, or a task.
-/
namespace Go.Proofs.YtlpffgmfgkleiaaDoor
open Go.RowKit Go.Maps

theorem takes_func {F : Nat} {v : Value} {w : World} {p : Addr} {most : Int} (h : TakesAt F v w p most) : ∃ f a b, v = .func f a b := let ⟨_, _, q, _⟩ := h; ⟨_, _, _, q⟩
theorem Two.setNew {R b o : Nat} {w0 w : World} (h : Two R R w0 w) (hb : w0.heap.size ≤ b) (v : Value) : Two R R w0 (w.setCell ⟨b, o, none⟩ v) :=
  ⟨h.os, h.tape, h.output, by simp [World.setCell]; exact h.size, fun k hk h1 h2 => (blk_far (a := ⟨b, o, none⟩) (by show k ≠ b; omega) v).trans (h.block k hk h1 h2)⟩
theorem bind_lt {α : Type} {W : List WV} {i : Nat} {f : ByteArray → Option α} {n : α} (h : (wordAt W i).bind f = some n) : i < W.length := by
  rcases Nat.lt_or_ge i W.length with q | q
  · exact q
  · rw [wordAt_none q] at h; cases h
theorem word_lt {W : List WV} {i : Nat} {t : ByteArray} (h : wordAt W i = some t) : i < W.length := by
  rcases Nat.lt_or_ge i W.length with q | q
  · exact q
  · rw [wordAt_none q] at h; cases h
theorem cache_first {W : List WV} (h : wordAt W 0 ≠ some bCache) : cacheOf W = .error (placeAt W 0) := by unfold cacheOf; rw [if_pos h]
theorem cache_sets {W : List WV} (h : wordAt W 0 = some bCache) (h1 : setsOf W = none) : cacheOf W = .error (placeAt W 1) := by unfold cacheOf; rw [if_neg (fun q => q h), h1]
theorem cache_rel {W : List WV} (h : wordAt W 0 = some bCache) {s : Nat} (h1 : setsOf W = some s) (h2 : relOf W = none) : cacheOf W = .error (placeAt W 2) := by
  unfold cacheOf; rw [if_neg (fun q => q h), h1]; simp only []; rw [h2]
theorem cache_over {W : List WV} (h : wordAt W 0 = some bCache) {s r : Nat} (h1 : setsOf W = some s) (h2 : relOf W = some r) (h3 : 3 < W.length) : cacheOf W = .error (placeAt W 3) := by
  unfold cacheOf; rw [if_neg (fun q => q h), h1]; simp only []; rw [h2]; simp only []; rw [if_pos h3]
theorem cache_ok {W : List WV} (h : wordAt W 0 = some bCache) {s r : Nat} (h1 : setsOf W = some s) (h2 : relOf W = some r) (h3 : ¬ 3 < W.length) : cacheOf W = .ok (s, r) := by
  unfold cacheOf; rw [if_neg (fun q => q h), h1]; simp only []; rw [h2]; simp only []; rw [if_neg h3]
theorem w_zeroSys (w : World) : (zeroValue SysT).run Tryd.prog w = .ok (.agg #[.int .i64 0, .int .i64 0, .slice none 0 0]) w := by kernel_rfl
/-- What a row that says a cache does. -/
def CacheIs (W : List WV) (R : Nat) (w0 : World) (y : Ending) (w' : World) : Prop := match cacheOf W with
  | .error p => Panics p 10 y ∧ Two R R w0 w'
  | .ok (s, r) => y = .returned (.agg #[.int .i64 s, .int .i64 r, .slice none 0 0]) ∧ Two R R w0 w'

set_option maxRecDepth 100000 in
set_option maxHeartbeats 4000000 in
theorem cache_any {W : List WV} {R N : Nat} {w0 : World} (hf : Fix W R N w0) (h : Left w0 R N 0 W) : Calls Tryd.prog 40 #[.pointer (some ⟨R, 0, none⟩)] w0 (CacheIs W R w0) := by
  have hz := w_zeroSys
  go_enter Tryd.func40, Tryd.ntmps40
  go_upto_region 1 with fail
  refine gen_world (Stg W R N w0 SysT 0 #[.int .i64 0, .int .i64 0, .slice none 0 0]) ⟨Two.of_below (bw_alloc (Below.refl _ _) _), h.below (bw_alloc (Below.refl _ _) _) hf.hN, heap_alloc_new w0 _⟩ ?_
  intro u0 h0
  have H0 := Lib.hid h0
  clear h0 h
  by_cases e0 : wordAt W 0 = some bCache
  rotate_left
  · have HB : Hid (cacheOf W = .error (placeAt W 0)) := cache_first e0
    have M : Hid (∀ b v, Below u0.heap.size u0 v → v.cell? ⟨b, 0, none⟩ = some (.string bCache) → Calls Tryd.prog 58 #[.pointer (some ⟨R, 0, none⟩), .func (.func 79) #[] #[.pointer (some ⟨b, 0, none⟩)]] v (StepIs W R N w0 SysT 0 none)) := fun b v hb hc => by have := step_text hf H0.out (Nat.zero_le _) hb hc; rwa [if_neg e0] at this
    clear e0
    go_wp2_with (first
      | (go_at_call 59; (with_reducible refine (text_any _ _).mono ?_); rintro e wt ⟨b, rfl, hc, bt⟩; have HC := Lib.hid hc; have BT := Lib.hid bt; clear hc bt)
      | (go_at_call 58; (with_reducible refine (M.out _ _ BT.out HC.out).mono ?_); rintro y ux ⟨rfl, tw⟩; have TW := Lib.hid tw; clear tw))
    all_goals
      refine ⟨rfl, ?_⟩
      unfold CacheIs
      rw [HB.out]
      exact ⟨rfl, TW.out⟩
  have M : Hid (∀ b v, Below u0.heap.size u0 v → v.cell? ⟨b, 0, none⟩ = some (.string bCache) → Calls Tryd.prog 58 #[.pointer (some ⟨R, 0, none⟩), .func (.func 79) #[] #[.pointer (some ⟨b, 0, none⟩)]] v (StepIs W R N w0 SysT 0 (some (#[.int .i64 0, .int .i64 0, .slice none 0 0])))) := fun b v hb hc => by have := step_text hf H0.out (Nat.zero_le _) hb hc; rwa [if_pos e0] at this
  go_upto_region 2 with (first
    | (go_at_call 59; (with_reducible refine (text_any _ _).mono ?_); rintro e wt ⟨b, rfl, hc, bt⟩; have HC := Lib.hid hc; have BT := Lib.hid bt; clear hc bt)
    | (go_at_call 58; (with_reducible refine (M.out _ _ BT.out HC.out).mono ?_); rintro y u1 ⟨rfl, st⟩; have H1 := Lib.hid st; clear st))
  clear M H0
  clear HC BT
  obtain e1 | ⟨n1, e1⟩ : setsOf W = none ∨ ∃ n, setsOf W = some n := by cases h : setsOf W <;> simp
  · have HB : Hid (cacheOf W = .error (placeAt W 1)) := cache_sets e0 e1
    have M : Hid (∀ v z, Below u1.heap.size u1 z → TakesAt 80 v z ⟨w0.heap.size, 0, none⟩ 256 → Calls Tryd.prog 58 #[.pointer (some ⟨R, 0, none⟩), v] z (StepIs W R N w0 SysT 1 none)) := fun v z hb ht => by have := step_numI hf H1.out (word_lt e0) hb ht (by unfold I64; omega) (u := _) rfl; rw [show ((wordAt W 1).bind fun s => numOf s 256) = _ from e1] at this; exact this
    clear e1
    go_wp2_with (first
      | (go_at_call 60; (with_reducible refine (numI_any _ _ _).mono ?_); rintro e wn ⟨v, rfl, hv, bn⟩; have HV := Lib.hid hv; have BN := Lib.hid bn; have hfun : ∃ f a b, v = .func f a b := takes_func hv; clear hv bn)
      | (go_at_call 58; (with_reducible refine (M.out _ _ BN.out HV.out).mono ?_); rintro y ux ⟨rfl, tw⟩; have TW := Lib.hid tw; clear tw))
    all_goals
      refine ⟨rfl, ?_⟩
      unfold CacheIs
      rw [HB.out]
      exact ⟨rfl, TW.out⟩
  have M : Hid (∀ v z, Below u1.heap.size u1 z → TakesAt 80 v z ⟨w0.heap.size, 0, none⟩ 256 → Calls Tryd.prog 58 #[.pointer (some ⟨R, 0, none⟩), v] z (StepIs W R N w0 SysT 1 (some ((#[.int .i64 0, .int .i64 0, .slice none 0 0] : Array Value).setIfInBounds 0 (.int .i64 n1))))) := fun v z hb ht => by have := step_numI hf H1.out (word_lt e0) hb ht (by unfold I64; omega) (u := _) rfl; rw [show ((wordAt W 1).bind fun s => numOf s 256) = _ from e1] at this; exact this
  go_upto_region 3 with (first
    | (go_at_call 60; (with_reducible refine (numI_any _ _ _).mono ?_); rintro e wn ⟨v, rfl, hv, bn⟩; have HV := Lib.hid hv; have BN := Lib.hid bn; have hfun : ∃ f a b, v = .func f a b := takes_func hv; clear hv bn)
    | (go_at_call 58; (with_reducible refine (M.out _ _ BN.out HV.out).mono ?_); rintro y u2 ⟨rfl, st⟩; have H2 := Lib.hid st; clear st))
  clear M H1
  clear HV BN hfun
  obtain e2 | ⟨n2, e2⟩ : relOf W = none ∨ ∃ n, relOf W = some n := by cases h : relOf W <;> simp
  · have HB : Hid (cacheOf W = .error (placeAt W 2)) := cache_rel e0 e1 e2
    have M : Hid (∀ v z, Below u2.heap.size u2 z → TakesAt 82 v z ⟨w0.heap.size, 1, none⟩ 1000 → Calls Tryd.prog 58 #[.pointer (some ⟨R, 0, none⟩), v] z (StepIs W R N w0 SysT 2 none)) := fun v z hb ht => by have := step_numQ hf H2.out (bind_lt e1) hb ht (by unfold I64; omega) (u := _) rfl; rw [show ((wordAt W 2).bind fun s => numOf s 1000) = _ from e2] at this; exact this
    clear e2
    go_wp2_with (first
      | (go_at_call 61; (with_reducible refine (numQ_any _ _ _).mono ?_); rintro e wn ⟨v, rfl, hv, bn⟩; have HV := Lib.hid hv; have BN := Lib.hid bn; have hfun : ∃ f a b, v = .func f a b := takes_func hv; clear hv bn)
      | (go_at_call 58; (with_reducible refine (M.out _ _ BN.out HV.out).mono ?_); rintro y ux ⟨rfl, tw⟩; have TW := Lib.hid tw; clear tw))
    all_goals
      refine ⟨rfl, ?_⟩
      unfold CacheIs
      rw [HB.out]
      exact ⟨rfl, TW.out⟩
  have M : Hid (∀ v z, Below u2.heap.size u2 z → TakesAt 82 v z ⟨w0.heap.size, 1, none⟩ 1000 → Calls Tryd.prog 58 #[.pointer (some ⟨R, 0, none⟩), v] z (StepIs W R N w0 SysT 2 (some (((#[.int .i64 0, .int .i64 0, .slice none 0 0] : Array Value).setIfInBounds 0 (.int .i64 n1)).setIfInBounds 1 (.int .i64 n2))))) := fun v z hb ht => by have := step_numQ hf H2.out (bind_lt e1) hb ht (by unfold I64; omega) (u := _) rfl; rw [show ((wordAt W 2).bind fun s => numOf s 1000) = _ from e2] at this; exact this
  go_upto_region 4 with (first
    | (go_at_call 61; (with_reducible refine (numQ_any _ _ _).mono ?_); rintro e wn ⟨v, rfl, hv, bn⟩; have HV := Lib.hid hv; have BN := Lib.hid bn; have hfun : ∃ f a b, v = .func f a b := takes_func hv; clear hv bn)
    | (go_at_call 58; (with_reducible refine (M.out _ _ BN.out HV.out).mono ?_); rintro y u3 ⟨rfl, st⟩; have H3 := Lib.hid st; clear st))
  clear M H2
  clear HV BN hfun
  have hl3 : 3 ≤ W.length := bind_lt e2
  by_cases ho : 3 < W.length
  · have HB : Hid (cacheOf W = .error (placeAt W 3)) := cache_over e0 e1 e2 ho
    have hx : W[3]? = some W[3] := by simp [ho]
    have hl := H3.out.left
    rw [drop_some hx] at hl
    have M := Lib.hid (over_word hl)
    have TW := Lib.hid H3.out.two
    rw [← placeAt_some hx] at M
    clear hl hx
    go_wp2_with (go_at_call 62; (with_reducible refine M.out.mono ?_); rintro y ux ⟨rfl, rfl⟩)
    all_goals
      refine ⟨rfl, ?_⟩
      unfold CacheIs
      rw [HB.out]
      exact ⟨rfl, TW.out⟩
  · have HB : Hid (cacheOf W = .ok (n1, n2)) := cache_ok e0 e1 e2 ho
    have hl := H3.out.left
    rw [List.drop_of_length_le (by omega)] at hl
    have M := Lib.hid (over_nil hl)
    go_upto_region 5 with (go_at_call 62; (with_reducible refine M.out.mono ?_); rintro y ux ⟨rfl, rfl⟩)
    have hb : Box ux w0.heap.size SysT #[.int .i64 n1, .int .i64 n2, .slice none 0 0] := H3.out.box
    have HBX := Lib.hid hb
    have r0 : ux.cell? ⟨w0.heap.size, 0, none⟩ = some (.int .i64 n1) := blk_cell hb 0
    have r1 : ux.cell? ⟨w0.heap.size, 1, none⟩ = some (.int .i64 n2) := blk_cell hb 1
    have r2 : ux.cell? ⟨w0.heap.size, 2, none⟩ = some (.slice none 0 0) := blk_cell hb 2
    have f0 := blk_free hb 0
    have f1 := blk_free hb 1
    have f2 := blk_free hb 2
    have hr := lt_of_block hb
    have TW := Lib.hid H3.out.two
    clear hb hl M H3
    go_wp2_with fail
    refine bodyPost_ret (v := .agg #[.int .i64 n1, .int .i64 n2, .slice none 0 0]) (by simp [results, Tryd.results40, go_sem, r0, r1, r2, hr]) rfl ?_
    unfold CacheIs
    rw [HB.out]
    exact ⟨rfl, ((TW.out.setNew (Nat.le_refl _) _).setNew (Nat.le_refl _) _).setNew (Nat.le_refl _) _⟩
end Go.Proofs.YtlpffgmfgkleiaaDoor
