/- Texts of this claim, put together: YTx, LW7, LDig, LJoin, YStr, YWds, LP4, YTx2, YTx3. -/
import Derived.Test.YtlpffgmfgkleiaaDoorMR10
import Derived.Laws.StructEq
import Derived.Lib.ItoaNum
import Derived.Lib.AppendIntMem
import Derived.Lib.OthersKept
set_option linter.unusedVariables false
set_option linter.unusedSimpArgs false

/-
  The lines of a text by their words' texts alone: a machine that takes byte after byte.
-/
namespace Go.Proofs.YtlpffgmfgkleiaaDoor
open Go.RowKit Go.Maps

/-! ### the machine -/
structure AQ where
  done : List (List ByteArray)
  cur : List ByteArray
  word : ByteArray
  off : Bool
abbrev noB : ByteArray := ⟨#[]⟩
def AQ.close (q : AQ) : List ByteArray := if q.word.size = 0 then q.cur else q.cur ++ [q.word]
def AQ.lines (q : AQ) : List (List ByteArray) := if q.close = [] then q.done else q.done ++ [q.close]
def astep (q : AQ) (c : UInt8) : AQ :=
  if c.toNat = 10 then ⟨q.lines, [], noB, false⟩
  else if (q.off || decide (c.toNat = 35)) = true then ⟨q.done, q.close, noB, true⟩
  else if c.toNat = 32 ∨ c.toNat = 9 then ⟨q.done, q.close, noB, false⟩
  else ⟨q.done, q.cur, q.word ++ ⟨#[c]⟩, q.off⟩
def arunL (l : List UInt8) (q : AQ) : AQ := l.foldl astep q
def arun (s : ByteArray) (q : AQ) : AQ := arunL s.data.toList q
def aZ (d : List (List ByteArray)) : AQ := ⟨d, [], noB, false⟩
/-- The lines of a text, by their words' texts. -/
def linesTx (s : ByteArray) : List (List ByteArray) := (arun s (aZ [])).lines

/-! ### the lines that words make -/
theorem lrun_same (L M : List WV) : ∀ i, (∀ j, j < i → L[j]? = M[j]?) → lrun L i = lrun M i
  | 0, _ => rfl
  | i + 1, h => by
    have e1 : L[i]? = M[i]? := h i (by omega)
    have e2 : lnAt L i = lnAt M i := by unfold lnAt; rw [e1]
    have e3 : i = 0 ∨ lnAt L (i - 1) = lnAt M (i - 1) := by
      rcases Nat.eq_zero_or_pos i with q | q
      · exact .inl q
      · refine .inr ?_; unfold lnAt; rw [h (i - 1) (by omega)]
    rw [lrun, lrun, lrun_same L M i (fun j hj => h j (by omega)), e1, e2]
    rcases e3 with e3 | e3
    · rw [if_pos (.inl e3), if_pos (.inl e3)]
    · rw [e3]
theorem lrun_snoc (L : List WV) (x : WV) : lrun (L ++ [x]) (L.length + 1) = if L = [] ∨ (∃ y, L.getLast? = some y ∧ x.ln ≠ y.ln) then lrun L L.length ++ [[x]] else (lrun L L.length).dropLast ++ [((lrun L L.length).getLast?.getD []) ++ [x]] := by
  have h1 : lrun (L ++ [x]) L.length = lrun L L.length := lrun_same _ _ _ (fun j hj => List.getElem?_append_left hj)
  have h2 : (L ++ [x])[L.length]? = some x := by rw [List.getElem?_append_right (Nat.le_refl _), Nat.sub_self]; rfl
  rw [lrun, h1, h2]
  have h3 : (L.length = 0 ∨ lnAt (L ++ [x]) L.length ≠ lnAt (L ++ [x]) (L.length - 1)) ↔ (L = [] ∨ (∃ y, L.getLast? = some y ∧ x.ln ≠ y.ln)) := by
    rcases List.eq_nil_or_concat L with rfl | ⟨M, y, rfl⟩
    · simp
    · rw [List.concat_eq_append] at h2 ⊢
      have h4 : (M ++ [y] ++ [x])[(M ++ [y]).length - 1]? = some y := by simp
      rw [lnAt_of h2, lnAt_of h4]
      simp
  by_cases c : L = [] ∨ (∃ y, L.getLast? = some y ∧ x.ln ≠ y.ln)
  · rw [if_pos c, if_pos (h3.2 c)]; rfl
  · rw [if_neg c, if_neg (fun q => c (h3.1 q))]; rfl

/-! ### the machine against the document's answer -/
structure Rel (out : List WV) (ln : Int) (done : List (List ByteArray)) (cur : List ByteArray) : Prop where
  g : (lrun out out.length).map (·.map WV.tx) = if cur = [] then done else done ++ [cur]
  hi : ∀ x, out.getLast? = some x → x.ln ≤ ln
  is : ∀ x, out.getLast? = some x → (x.ln = ln ↔ cur ≠ [])
  no : out = [] → cur = []
theorem Rel.add {out : List WV} {ln : Int} {done : List (List ByteArray)} {cur : List ByteArray} (h : Rel out ln done cur) {x : WV} (hx : x.ln = ln) : Rel (out ++ [x]) ln done (cur ++ [x.tx]) := by
  refine ⟨?_, fun y hy => ?_, fun y hy => ?_, fun q => ?_⟩
  · rw [List.length_append, List.length_singleton, lrun_snoc, if_neg (c := cur ++ [x.tx] = []) (by simp)]
    by_cases hc : cur = []
    · have : out = [] ∨ (∃ y, out.getLast? = some y ∧ x.ln ≠ y.ln) := by
        rcases List.eq_nil_or_concat out with rfl | ⟨M, y, rfl⟩
        · exact .inl rfl
        · refine .inr ⟨y, by simp, fun q => ?_⟩
          exact (h.is y (by simp)).1 (by omega) hc
      rw [if_pos this, List.map_append, h.g, if_pos hc, hc]
      rfl
    · have : ¬ (out = [] ∨ (∃ y, out.getLast? = some y ∧ x.ln ≠ y.ln)) := by
        rintro (q | ⟨y, q1, q2⟩)
        · exact hc (h.no q)
        · exact q2 (hx.trans ((h.is y q1).2 hc).symm)
      rw [if_neg this]
      have hg := h.g
      rw [if_neg hc] at hg
      rcases List.eq_nil_or_concat (lrun out out.length) with e | ⟨G, g, e⟩
      · rw [e] at hg; simp at hg
      · rw [e] at hg ⊢
        rw [List.concat_eq_append] at hg ⊢
        rw [List.map_append] at hg
        obtain ⟨q1, q2⟩ := List.append_inj' hg rfl
        rw [List.dropLast_concat, List.getLast?_concat, List.map_append, q1]
        simp only [List.map_cons, List.map_nil, List.cons.injEq, and_true] at q2
        simp [q2]
  · rw [List.getLast?_concat] at hy; cases hy; omega
  · rw [List.getLast?_concat] at hy; cases hy; simp [hx]
  · simp at q
theorem Rel.line {out : List WV} {ln : Int} {done : List (List ByteArray)} {cur : List ByteArray} (h : Rel out ln done cur) : Rel out (ln + 1) (if cur = [] then done else done ++ [cur]) [] :=
  ⟨by rw [if_pos rfl]; exact h.g, fun x hx => by have := h.hi x hx; omega, fun x hx => ⟨fun q => by have := h.hi x hx; omega, fun q => absurd rfl q⟩, fun _ => rfl⟩
theorem ext_one (s : ByteArray) {f i : Nat} (hf : f ≤ i) (hi : i < s.size) : s.extract f (i + 1) = s.extract f i ++ ⟨#[s[i]]⟩ := by
  have := ByteArray.extract_append_extract (a := s) (i := f) (j := i) (k := i + 1)
  rw [Nat.min_eq_left hf, Nat.max_eq_right (by omega)] at this
  rw [← this]
  congr 1
  apply ByteArray.ext
  rw [ByteArray.data_extract]
  show s.data.extract i (i + 1) = #[s.data[i]]
  apply Array.ext
  · simp; omega
  · intro j h1 h2
    simp at h1 h2
    have : j = 0 := by omega
    subst this
    simp
theorem astep_nl (q : AQ) {c : UInt8} (h : c.toNat = 10) : astep q c = ⟨q.lines, [], noB, false⟩ := by unfold astep; rw [if_pos h]
theorem astep_off (q : AQ) {c : UInt8} (h : c.toNat ≠ 10) (h2 : (q.off || decide (c.toNat = 35)) = true) : astep q c = ⟨q.done, q.close, noB, true⟩ := by unfold astep; rw [if_neg h, if_pos h2]
theorem astep_sp (q : AQ) {c : UInt8} (h : c.toNat ≠ 10) (h2 : ¬ (q.off || decide (c.toNat = 35)) = true) (h3 : c.toNat = 32 ∨ c.toNat = 9) : astep q c = ⟨q.done, q.close, noB, false⟩ := by unfold astep; rw [if_neg h, if_neg h2, if_pos h3]
theorem astep_in (q : AQ) {c : UInt8} (h : c.toNat ≠ 10) (h2 : ¬ (q.off || decide (c.toNat = 35)) = true) (h3 : ¬ (c.toNat = 32 ∨ c.toNat = 9)) : astep q c = ⟨q.done, q.cur, q.word ++ ⟨#[c]⟩, q.off⟩ := by unfold astep; rw [if_neg h, if_neg h2, if_neg h3]
def wclose (s : ByteArray) (i : Nat) (q : LS) : List WV := if q.fr < 0 then q.out else q.out ++ [⟨q.fr, q.ln, s.extract q.fr.toNat i⟩]
theorem wstep_nl (s : ByteArray) (i : Nat) (q : LS) (h : byteAt s i = 10) : wstep s i q = ⟨wclose s i q, q.ln + 1, -1, false⟩ := by unfold wstep; simp only []; rw [if_pos (.inl h)]; simp only [if_pos h]; rfl
theorem wstep_cl (s : ByteArray) (i : Nat) (q : LS) (h : byteAt s i ≠ 10) (h2 : (q.off || decide (byteAt s i = 35)) = true ∨ byteAt s i = 32 ∨ byteAt s i = 9) : wstep s i q = ⟨wclose s i q, q.ln, -1, q.off || decide (byteAt s i = 35)⟩ := by unfold wstep; simp only []; rw [if_pos (.inr h2)]; simp only [if_neg h]; rfl
theorem wstep_in (s : ByteArray) (i : Nat) (q : LS) (h : byteAt s i ≠ 10) (h2 : ¬ (q.off || decide (byteAt s i = 35)) = true) (h3 : ¬ (byteAt s i = 32 ∨ byteAt s i = 9)) : wstep s i q = ⟨q.out, q.ln, if q.fr < 0 then (i : Int) else q.fr, q.off⟩ := by
  unfold wstep; simp only []
  rw [if_neg (fun x => x.elim h (fun y => y.elim h2 h3))]
structure Sim (s : ByteArray) (i : Nat) (q : LS) (A : AQ) : Prop where
  off : A.off = q.off
  w0 : q.fr < 0 → A.word = noB
  w1 : 0 ≤ q.fr → q.fr < i ∧ A.word = s.extract q.fr.toNat i
  rel : Rel q.out q.ln A.done A.cur
theorem Sim.close {s : ByteArray} {i : Nat} {q : LS} {A : AQ} (h : Sim s i q A) (hi : i ≤ s.size) : Rel (if q.fr < 0 then q.out else q.out ++ [⟨q.fr, q.ln, s.extract q.fr.toNat i⟩]) q.ln A.done A.close := by
  unfold AQ.close
  by_cases hf : q.fr < 0
  · rw [if_pos hf, h.w0 hf, if_pos (show noB.size = 0 from rfl)]; exact h.rel
  · obtain ⟨h1, h2⟩ := h.w1 (by omega)
    rw [if_neg hf, if_neg (by rw [h2, ByteArray.size_extract]; omega), h2]
    exact h.rel.add (x := ⟨q.fr, q.ln, s.extract q.fr.toNat i⟩) rfl
theorem sim_run (s : ByteArray) : ∀ i, i ≤ s.size → Sim s i (wrun s i) (arunL (s.data.toList.take i) (aZ []))
  | 0, _ => ⟨rfl, fun _ => rfl, fun h => by simp [wrun] at h, ⟨rfl, fun x hx => by simp [wrun] at hx, fun x hx => by simp [wrun] at hx, fun _ => rfl⟩⟩
  | i + 1, h => by
    have ih := sim_run s i (by omega)
    have hb := (byteAt_in s (i := i) (by omega)).2
    have ht : s.data.toList.take (i + 1) = s.data.toList.take i ++ [s[i]] := by
      rw [List.take_add_one, List.getElem?_eq_getElem (by rw [Array.length_toList]; exact h)]
      rfl
    have hc := ih.close (by omega)
    rw [ht, arunL, List.foldl_append]
    show Sim s (i + 1) (wrun s (i + 1)) (astep (arunL (s.data.toList.take i) (aZ [])) s[i])
    rw [wrun]
    generalize wrun s i = q at ih hc ⊢
    generalize arunL (s.data.toList.take i) (aZ []) = A at ih hc ⊢
    by_cases c1 : s[i].toNat = 10
    · rw [wstep_nl s i q (hb.trans c1), astep_nl A c1]
      exact ⟨rfl, fun _ => rfl, fun q => by simp only [] at q; omega, hc.line⟩
    · by_cases c2 : (q.off || decide (s[i].toNat = 35)) = true
      · rw [wstep_cl s i q (by rw [hb]; exact c1) (.inl (by rw [hb]; exact c2)), astep_off A c1 (by rw [ih.off]; exact c2), hb, c2]
        exact ⟨rfl, fun _ => rfl, fun q => by simp only [] at q; omega, hc⟩
      · by_cases c3 : s[i].toNat = 32 ∨ s[i].toNat = 9
        · rw [wstep_cl s i q (by rw [hb]; exact c1) (.inr (by rw [hb]; exact c3)), astep_sp A c1 (by rw [ih.off]; exact c2) c3, hb]
          exact ⟨(Bool.eq_false_iff.2 c2).symm, fun _ => rfl, fun q => by simp only [] at q; omega, hc⟩
        · rw [wstep_in s i q (by rw [hb]; exact c1) (by rw [hb]; exact c2) (by rw [hb]; exact c3), astep_in A c1 (by rw [ih.off]; exact c2) c3]
          refine ⟨ih.off, fun q => ?_, fun hq => ?_, ih.rel⟩
          · simp only [] at q; split at q <;> omega
          · simp only [] at hq ⊢
            by_cases hf : q.fr < 0
            · rw [if_pos hf, ih.w0 hf]
              refine ⟨by omega, ?_⟩
              rw [Int.toNat_natCast, ext_one s (Nat.le_refl _) h]
              congr 1
              apply ByteArray.ext
              rw [ByteArray.data_extract]
              simp
              omega
            · obtain ⟨h1, h2⟩ := ih.w1 (by omega)
              rw [if_neg hf, h2]
              exact ⟨by omega, (ext_one s (by omega) h).symm⟩
theorem lines_tx (s : ByteArray) : (linesOf s).map (·.map WV.tx) = linesTx s := by
  have h := sim_run s s.size (Nat.le_refl _)
  rw [List.take_of_length_le (by rw [Array.length_toList]; exact Nat.le_refl _)] at h
  have hc := (h.close (Nat.le_refl _)).line
  unfold linesOf wordsOf linesTx arun
  rw [wrun]
  generalize wrun s s.size = q at hc ⊢
  rw [wstep_nl s _ q (byteAt_end s (Nat.le_refl _))]
  have := hc.g
  rw [if_pos rfl] at this
  exact this

/-! ### texts that are put together -/
theorem arun_append (a b : ByteArray) (q : AQ) : arun (a ++ b) q = arun b (arun a q) := by
  unfold arun arunL
  rw [ByteArray.data_append, Array.toList_append, List.foldl_append]
theorem arun_none (q : AQ) : arun noB q = q := rfl
/-- Bytes of a word alone. -/
def Clean (w : ByteArray) : Prop := ∀ c ∈ w.data.toList, c.toNat ≠ 10 ∧ c.toNat ≠ 35 ∧ c.toNat ≠ 32 ∧ c.toNat ≠ 9
theorem Clean.append {a b : ByteArray} (h : Clean a) (k : Clean b) : Clean (a ++ b) := by
  intro c hc
  rw [ByteArray.data_append, Array.toList_append] at hc
  exact (List.mem_append.1 hc).elim (h c) (k c)
theorem clean_run (d : List (List ByteArray)) (cur : List ByteArray) : ∀ (l : List UInt8) (w : ByteArray), (∀ c ∈ l, c.toNat ≠ 10 ∧ c.toNat ≠ 35 ∧ c.toNat ≠ 32 ∧ c.toNat ≠ 9) → arunL l ⟨d, cur, w, false⟩ = ⟨d, cur, w ++ ⟨l.toArray⟩, false⟩
  | [], w, _ => by
    show (⟨d, cur, w, false⟩ : AQ) = _
    rw [show (⟨([] : List UInt8).toArray⟩ : ByteArray) = ByteArray.empty from rfl, ba_add_nil]
  | c :: l, w, h => by
    obtain ⟨h1, h2, h3, h4⟩ := h c (List.mem_cons_self ..)
    have : astep ⟨d, cur, w, false⟩ c = ⟨d, cur, w ++ ⟨#[c]⟩, false⟩ := astep_in _ h1 (by simp [h2]) (fun q => q.elim h3 h4)
    have ih := clean_run d cur l (w ++ ⟨#[c]⟩) (fun x hx => h x (List.mem_cons_of_mem _ hx))
    rw [arunL, List.foldl_cons, this, ← arunL, ih, ByteArray.append_assoc]
    congr 2
theorem arun_clean {w : ByteArray} (h : Clean w) (d : List (List ByteArray)) (cur : List ByteArray) (v : ByteArray) : arun w ⟨d, cur, v, false⟩ = ⟨d, cur, v ++ w, false⟩ := by
  unfold arun
  rw [clean_run d cur _ _ h]
theorem arun_byte (c : UInt8) (q : AQ) : arun ⟨#[c]⟩ q = astep q c := rfl
theorem sp_close (d : List (List ByteArray)) (cur : List ByteArray) (v : ByteArray) (h : 0 < v.size) : astep ⟨d, cur, v, false⟩ 32 = ⟨d, cur ++ [v], noB, false⟩ := by
  rw [astep_sp _ (show (32 : UInt8).toNat ≠ 10 by decide) (by simp) (.inl (show (32 : UInt8).toNat = 32 by decide))]
  unfold AQ.close
  rw [if_neg (show ¬ v.size = 0 by omega)]
theorem nl_lines (d : List (List ByteArray)) (cur : List ByteArray) (v : ByteArray) (h : 0 < v.size) : astep ⟨d, cur, v, false⟩ 10 = aZ (d ++ [cur ++ [v]]) := by
  rw [astep_nl _ (show (10 : UInt8).toNat = 10 by decide)]
  unfold AQ.lines AQ.close aZ
  rw [if_neg (show ¬ v.size = 0 by omega), if_neg (by simp)]
end Go.Proofs.YtlpffgmfgkleiaaDoor

/-
  The walk over whether two rows of words are the same.
-/
namespace Go.Proofs.YtlpffgmfgkleiaaDoor
open Go.RowKit Go.Maps

theorem wordGuard : Tryd.prog.eqGuardType Tryd.prog.depth 68 = false := by kernel_rfl
theorem wordFields : Tryd.prog.underlying 68 = some (.struct (Tryd.prog.fieldsOf 68)) := by kernel_rfl
theorem wordStood : Tryd.prog.stoodInHeld 68 = false := by kernel_rfl
theorem word_ne (x y : WV) (w : World) : (binOp .neq 68 (.agg #[.int .i64 x.at_, .int .i64 x.ln, .string x.tx]) (.agg #[.int .i64 y.at_, .int .i64 y.ln, .string y.tx])).run Tryd.prog w = .ok (.bool (decide (¬ x = y))) w := by
  have u1 := Tryd.underlying3
  have u2 := Tryd.underlying9
  rw [run_neq_struct, show (10000 : Nat) = 9999 + 1 from rfl, run_equalIn_agg w 9999 _ _ _ wordFields wordStood]
  simp only [Program.fieldsOf, Tryd.underlying68]
  go_simp
  obtain ⟨a, b, c⟩ := x
  obtain ⟨d, e, f⟩ := y
  simp only [WV.mk.injEq]
  have e3 := beq_toListBytes c f
  by_cases h3 : c = f
  · subst h3
    by_cases h1 : a = d <;> by_cases h2 : b = e <;> simp [h1, h2]
  · have d3 : (c == f) = false := by
      obtain ⟨c⟩ := c
      obtain ⟨f⟩ := f
      change (c == f) = false
      rw [beq_eq_false_iff_ne]
      intro q; exact h3 (by rw [q])
    rw [d3] at e3
    have q3 : ¬ c.toList = f.toList := by have := e3.symm; rwa [beq_eq_false_iff_ne] at this
    by_cases h1 : a = d <;> by_cases h2 : b = e <;> simp [h1, h2, h3, q3]

theorem wsame_step {l m : List WV} {k : Nat} {x y : WV} (h : l.take k = m.take k) (hx : l[k]? = some x) (hy : m[k]? = some y) (e : x = y) : l.take (k + 1) = m.take (k + 1) := by
  rw [List.take_add_one, List.take_add_one, h, hx, hy, e]
theorem wsame_end {l m : List WV} {k : Nat} (h : l.take k = m.take k) (hl : l.length = k) (hm : m.length = k) : l = m := by
  rwa [List.take_of_length_le (by omega), List.take_of_length_le (by omega)] at h
theorem wsame_not {l m : List WV} {k : Nat} {x y : WV} (hx : l[k]? = some x) (hy : m[k]? = some y) (e : ¬ x = y) : ¬ l = m := by
  rintro rfl; rw [hx] at hy; cases hy; exact e rfl

attribute [-go_sem] run_neq_struct
attribute [local go_sem] word_ne wordGuard
end Go.Proofs.YtlpffgmfgkleiaaDoor

/-
  The walks over digits, as the program writes them; what is asked of all words at the beginning.
-/
namespace Go.Proofs.YtlpffgmfgkleiaaDoor
open Go.RowKit Go.Maps

/-- The table of the powers of ten. -/
def PT (w : World) : Prop := Lib.TabIs Tryd.prog w "internal/strconv.uint64pow10" .u64 Lib.pow10Tab
theorem PT.below {w w' : World} (h : PT w) (hb : Below w.heap.size w w') : PT w' := Lib.tabBelow_of_tabIs h w' hb
theorem upOf_dec (n : Nat) : upOf n = ⟨(Lib.decDigits n).toArray⟩ := by
  induction n using Nat.strongRecOn with
  | _ n ih =>
    by_cases h : n < 10
    · rw [upOf_small h, Lib.decDigits, dif_pos h]
    · rw [upOf_more h, Lib.decDigits, dif_neg h, ih (n / 10) (by omega)]
      apply ByteArray.ext
      rw [ByteArray.data_append]
      simp
theorem digOf_itoa (n : Int) : (⟨(Lib.itoa n).toArray⟩ : ByteArray) = digOf n := by
  unfold Lib.itoa digOf
  split
  · rw [upOf_dec]
    apply ByteArray.ext
    rw [ByteArray.data_append]
    simp
  · rw [upOf_dec, show n.natAbs = n.toNat by omega]
theorem digits_any (n : Int) (hn : I64 n) (w : World) (hT : PT w) : Calls Tryd.prog 30 #[.int .i64 n] w fun e w' => e = .returned (.string (digOf n)) ∧ Below w.heap.size w w' := by
  have C := Lib.hid (Tryd.strconv_FormatInt_10 n hn.1 hn.2 w hT)
  rw [digOf_itoa] at C
  generalize digOf n = s at C ⊢
  clear hT
  go_enter Tryd.func30, Tryd.ntmps30
  go_wp2_with (go_at_call 52; (with_reducible refine C.out.mono ?_); rintro e w' ⟨rfl, hw⟩)
  go_ret
  obtain ⟨k, os, rfl⟩ := hw
  exact ⟨rfl, Lib.below_grow _ _ (Nat.le_refl _) k os⟩
theorem digits_12 (w : World) : Calls Tryd.prog 30 #[.int .i64 12] w fun e w' => e = .returned (.string ⟨#[49, 50]⟩) ∧ Below w.heap.size w w' := by
  have C := Lib.hid (Tryd.strconv_FormatInt_10_small 12 (by decide) w)
  rw [show Lib.decDigits 12 = [49, 50] by rw [Lib.decDigits, dif_neg (by decide), Lib.decDigits, dif_pos (by decide)]; rfl] at C
  go_enter Tryd.func30, Tryd.ntmps30
  go_wp2_with (go_at_call 52; (refine C.out.mono ?_); rintro e w' ⟨rfl, rfl⟩)
  go_ret
  exact ⟨rfl, Below.refl _ _⟩

/-- The words of the chapter's example. -/
def exWords : List WV := [⟨0, 1, ⟨#[97]⟩⟩, ⟨3, 1, ⟨#[98]⟩⟩, ⟨7, 2, ⟨#[100]⟩⟩]
theorem exWords_is : wordsOf ⟨#[97, 32, 32, 98, 35, 99, 10, 100]⟩ = exWords := by decide +kernel
theorem ex_view (w : World) : WView (w.alloc (.cells #[.int .i64 0, .int .i64 1, .string ⟨#[97]⟩, .int .i64 3, .int .i64 1, .string ⟨#[98]⟩, .int .i64 7, .int .i64 2, .string ⟨#[100]⟩] WT)) (some ⟨w.heap.size, 0, none⟩) exWords :=
  .inr ⟨_, 0, rfl, fun j u hj => by
    rw [World.cell?_alloc_new]
    match j, hj with
    | 0, hj => exact hj
    | 1, hj => exact hj
    | 2, hj => exact hj
    | 3, hj => exact hj
    | 4, hj => exact hj
    | 5, hj => exact hj
    | 6, hj => exact hj
    | 7, hj => exact hj
    | 8, hj => exact hj
    | j + 9, hj => simp [exWords, wflat, WV.cells] at hj⟩
end Go.Proofs.YtlpffgmfgkleiaaDoor

/-
  The walk over numbers put together, as the program does.
-/
namespace Go.Proofs.YtlpffgmfgkleiaaDoor
open Go.RowKit Go.Maps

abbrev Bld (B : Nat) (t : ByteArray) (w : World) : Prop := Lib.IsBuilderF 79 5 B B (Lib.byteCells t.data.toList) w
theorem grown_of {w w' : World} (h : Below w.heap.size w w') : w.grownBy w' none := ⟨h.os, h.tape, h.output, h.size, fun k hk _ => h.block k hk⟩
theorem atF_below {T e : TypeId} {B b : Nat} {p : Value} {bs : List Value} {w w' : World} (h : Lib.BuilderAtF T e B b p bs w) (hb : Below w.heap.size w w') : Lib.BuilderAtF T e B b p bs w' := by
  obtain ⟨h1, v, h2, h3, h4⟩ := h
  refine ⟨h1, v, kept_obj hb h2, h3.kept (grown_of hb) ?_, h4⟩
  cases v.ownBlock with
  | none => exact .inl rfl
  | some k => exact .inr (by simp)
theorem bld_below {B : Nat} {t : ByteArray} {w w' : World} (h : Bld B t w) (hb : Below w.heap.size w w') : Bld B t w' := h.elim (fun x => .inl (atF_below x hb)) (fun x => .inr (atF_below x hb))
theorem list_size (t : ByteArray) : t.data.toList.length = t.size := by simp
theorem bld_comma {B : Nat} {t : ByteArray} {w : World} (h : Bld B t w) (ht : t.size ≤ 1000000000) (hB : B ≤ w.heap.size) : Calls Tryd.prog 74 #[.pointer (some ⟨B, 0, none⟩), .int .u8 44] w fun e w' =>
    e = .returned .nilIface ∧ Bld B (t ++ ⟨#[44]⟩) w' ∧ Below B w w' :=
  (Any.Builder_WriteByte_k Tryd.buildLays167 Tryd.buildExtra B B (Lib.byteCells t.data.toList) 44 w h (by rw [Lib.byteCells_length, list_size]; omega) hB).mono fun e w' ⟨h1, h2, h3, _⟩ => ⟨h1, .inr (by rw [ByteArray.data_append, Array.toList_append, Lib.byteCells_append]; exact h2), h3⟩
theorem bld_text {B : Nat} {t : ByteArray} {w : World} (h : Bld B t w) (u : ByteArray) (ht : t.size + u.size ≤ 1000000000) (hB : B ≤ w.heap.size) : Calls Tryd.prog 29 #[.pointer (some ⟨B, 0, none⟩), .string u] w fun e w' =>
    ∃ v, e = .returned v ∧ Bld B (t ++ u) w' ∧ Below B w w' :=
  (Any.Builder_WriteString_k Tryd.buildLays166 Tryd.buildExtra B B (Lib.byteCells t.data.toList) u w h (by rw [Lib.byteCells_length, list_size]; omega) hB).mono fun e w' ⟨h1, h2, h3, _⟩ => ⟨_, h1, .inr (by rw [ByteArray.data_append, Array.toList_append, Lib.byteCells_append]; exact h2), h3⟩
theorem bld_string {B : Nat} {t : ByteArray} {w : World} (h : Bld B t w) (hB : B ≤ w.heap.size) : Calls Tryd.prog 32 #[.pointer (some ⟨B, 0, none⟩)] w fun e w' =>
    e = .returned (.string t) ∧ Below B w w' :=
  (Tryd.Builder_String_any_k B B t.data.toList w h hB).mono fun e w' ⟨h1, _, h3, _⟩ => ⟨by rw [h1], h3⟩

set_option maxRecDepth 100000 in
set_option maxHeartbeats 4000000 in
theorem join_any (a : Option Addr) (n cap : Nat) (l : List Int) (hl : l.length = n) (hn : n ≤ 1000000) (hw : ∀ x ∈ l, I64 x) (w : World) (h : Ints w a l) (hT : PT w) : Calls Tryd.prog 54 #[.slice a n cap] w fun e w' => e = .returned (.string (joinOf l)) ∧ Below w.heap.size w w' := by
  have H := Lib.hid h
  have HL := Lib.hid hl
  have HW := Lib.hid hw
  have HT : Hid (PT w) := hT
  clear h hl hw hT
  go_enter Tryd.func54, Tryd.ntmps54
  go_wp2
  go_loopw [8] (fun u wr => ∃ (i : Nat) (t : ByteArray), i ≤ n ∧ u = .int .i64 i ∧ Hid (jrun l i = t) ∧ Hid (Below w.heap.size w wr) ∧ Hid (Bld w.heap.size t wr)) (fun u _ => (n - intOf u).toNat)
  case atStart => exact ⟨0, ⟨#[]⟩, by omega, rfl, rfl, (Below.refl _ w).alloc (Nat.le_refl _) _, Lib.IsBuilderF.of (Lib.fresh_isBuilder _ _ w)⟩
  case round =>
    obtain ⟨i, t, hi, rfl, HJ, HB, HP⟩ := hrel
    by_cases hlt : i < n
    · obtain ⟨x, hx⟩ := nth_of HL.out hlt
      obtain ⟨g, o, rfl, hc⟩ := (H.out.below HB.out).at_ hx
      have hxI := HW.out x (List.mem_of_getElem? hx)
      have HTB : Hid (PT wr) := HT.out.below HB.out
      have hsz := jrun_size l HW.out i
      rw [HJ.out] at hsz
      have hds := digOf_size x hxI
      obtain ⟨d, hd⟩ : ∃ d, digOf x = d := ⟨_, rfl⟩
      have HD := Lib.hid (fun w hT => digits_any x hxI w hT)
      rw [hd] at HD hds
      have hpl : (i : Int) < (n : Int) := by omega
      have hwi : IntKind.i64.wrap ((i : Int) + 1) = (i : Int) + 1 := IntWalk.i64_in _ (by omega)
      have hwB := HB.out.size
      by_cases h0 : i = 0
      · have hp0 : ¬ (0 : Int) < (i : Int) := by omega
        have HJ2 : Hid (jrun l (i + 1) = t ++ d) := by show _ = _; rw [jrun, if_pos h0, hx, HJ.out]; simp only [Option.getD_some]; rw [hd]
        have HSZ : Hid (t.size + d.size ≤ 1000000000) := by show _ ≤ _; omega
        clear h0 hd hsz hds hx
        go_wp2_with (first
          | (go_at_call 30; (with_reducible refine (HD.out _ HTB.out).mono ?_); rintro e w1 ⟨rfl, b1⟩; have B1 := Lib.hid b1; have P1 := Lib.hid (bld_below HP.out b1); have S1 := b1.size; clear b1)
          | (go_at_call 29; (with_reducible refine (bld_text P1.out d HSZ.out (Nat.le_trans hwB S1)).mono ?_); rintro e w2 ⟨v, rfl, p2, b2⟩; have B2 := Lib.hid b2; have P2 := Lib.hid p2; clear b2 p2))
        go_roundw
        case rel => exact ⟨i + 1, t ++ d, by omega, by go_num, HJ2, (below_up HB.out B1.out).trans B2.out, P2⟩
        case measure => simp [intOf]; omega
      · have hp0 : (0 : Int) < (i : Int) := by omega
        have hns : (⟨#[44]⟩ : ByteArray).size = 1 := rfl
        have HJ2 : Hid (jrun l (i + 1) = t ++ ⟨#[44]⟩ ++ d) := by show _ = _; rw [jrun, if_neg h0, hx, HJ.out]; simp only [Option.getD_some]; rw [hd]
        have HSZ : Hid ((t ++ ⟨#[44]⟩).size + d.size ≤ 1000000000) := by show _ ≤ _; rw [ByteArray.size_append, hns]; omega
        have HS0 : Hid (t.size ≤ 1000000000) := by show _ ≤ _; omega
        clear h0 hd hsz hds hx
        go_wp2_with (first
          | (go_at_call 74; (with_reducible refine (bld_comma HP.out HS0.out hwB).mono ?_); rintro e w0 ⟨rfl, p0, b0⟩; have B0 := Lib.hid b0; have P0 := Lib.hid p0; have S0 := b0.size; have T0 := Lib.hid (HT.out.below (HB.out.trans b0)); clear b0 p0)
          | (go_at_call 30; (with_reducible refine (HD.out _ T0.out).mono ?_); rintro e w1 ⟨rfl, b1⟩; have B1 := Lib.hid b1; have P1 := Lib.hid (bld_below P0.out b1); have S1 := b1.size; clear b1)
          | (go_at_call 29; (with_reducible refine (bld_text P1.out d HSZ.out (Nat.le_trans hwB (Nat.le_trans S0 S1))).mono ?_); rintro e w2 ⟨v, rfl, p2, b2⟩; have B2 := Lib.hid b2; have P2 := Lib.hid p2; clear b2 p2))
        go_roundw
        case rel => exact ⟨i + 1, t ++ ⟨#[44]⟩ ++ d, by omega, by go_num, HJ2, ((HB.out.trans B0.out).trans (B1.out.mono (Nat.le_trans hwB S0))).trans B2.out, P2⟩
        case measure => simp [intOf]; omega
    · obtain rfl : i = n := by omega
      have HF : Hid (joinOf l = t) := by show _ = _; unfold joinOf; rw [HL.out, HJ.out]
      have hwB := HB.out.size
      go_wp2_with (go_at_call 32; (with_reducible refine (bld_string HP.out hwB).mono ?_); rintro e w2 ⟨rfl, b2⟩; have B2 := Lib.hid b2; clear b2)
      go_ret
      exact ⟨by rw [HF.out]; rfl, HB.out.trans B2.out⟩
end Go.Proofs.YtlpffgmfgkleiaaDoor

/-
  Rows of texts: what lies in memory; a text put behind one's own; texts joined.
-/
namespace Go.Proofs.YtlpffgmfgkleiaaDoor
open Go.RowKit Go.Maps

def Strs (w : World) (a : Option Addr) (l : List ByteArray) : Prop := l = [] ∨ ∃ g o, a = some ⟨g, o, none⟩ ∧ ∀ j u, l[j]? = some u → w.cell? ⟨g, o + j, none⟩ = some (.string u)
def vz (l : List ByteArray) : List Value := l.map .string
theorem vz_len (l : List ByteArray) : (vz l).length = l.length := by simp [vz]
theorem vz_at {l : List ByteArray} {j : Nat} {u : ByteArray} (h : l[j]? = some u) : (vz l)[j]? = some (.string u) := by simp [vz, h]
theorem vz_one (l : List ByteArray) : ∀ u ∈ vz l, u.oneCell' = true := by
  intro u hu
  obtain ⟨_, _, rfl⟩ := List.mem_map.1 hu
  rfl
/-- A row of texts of one's own. -/
def OwnZ (w : World) (B : Nat) (v : Value) (l : List ByteArray) : Prop := w.ownsRow B 9 1 v l.length (vz l)
theorem OwnZ.slice {w : World} {B : Nat} {v : Value} {l : List ByteArray} (h : OwnZ w B v l) : ∃ a cap, v = .slice a l.length cap ∧ Strs w a l ∧ l.length ≤ cap := by
  rcases h.2 with ⟨rfl, h0⟩ | ⟨g, cap, cur, rfl, _, h3, h1, h2, h4, h5⟩
  · exact ⟨none, 0, by rw [h0], .inl (List.length_eq_zero_iff.1 h0), by omega⟩
  · refine ⟨_, cap, rfl, .inr ⟨g, 0, rfl, fun j u hj => ?_⟩, h1⟩
    rw [Nat.zero_add, blk_cell h3]
    have := vz_at hj
    rw [← h5, List.getElem?_take] at this
    split at this
    · simpa using this
    · cases this
theorem OwnZ.below {w w' : World} {B : Nat} {v : Value} {l : List ByteArray} (h : OwnZ w B v l) (hb : Below w.heap.size w w') : OwnZ w' B v l := by
  rcases h with ⟨h0, h | ⟨g, cap, cur, rfl, hB, h3, r⟩⟩
  · exact ⟨h0, .inl h⟩
  · exact ⟨h0, .inr ⟨g, cap, cur, rfl, hB, kept_obj hb h3, r⟩⟩
theorem strs_new (w : World) (x : ByteArray) (T : TypeId) : Strs (w.alloc (.cells #[.string x] T)) (some ⟨w.heap.size, 0, none⟩) [x] :=
  .inr ⟨_, 0, rfl, fun j u hj => by
    match j, hj with
    | 0, hj => simp at hj; subst hj; rw [World.cell?_alloc_new]; rfl
    | j + 1, hj => simp at hj⟩
theorem ownz_six (w : World) (x0 x1 x2 x3 x4 x5 : ByteArray) : OwnZ (w.alloc (.cells #[.string x0, .string x1, .string x2, .string x3, .string x4, .string x5] 9)) w.heap.size (.slice (some ⟨w.heap.size, 0, none⟩) 6 6) [x0, x1, x2, x3, x4, x5] :=
  ⟨rfl, .inr ⟨w.heap.size, 6, #[.string x0, .string x1, .string x2, .string x3, .string x4, .string x5], rfl, Nat.le_refl _, heap_alloc_new w _, Nat.le_refl _, by unfold maxLen; omega, rfl, rfl⟩⟩
theorem strType : ∃ i, Tryd.prog.info? 9 = some i ∧ i.zero = some (.string ⟨#[]⟩) ∧ i.size = 1 ∧ i.bytes = 16 := by
  have h : (Tryd.prog.info? 9).map (fun i => (i.zero, i.size, i.bytes)) = some (some (.string ⟨#[]⟩), 1, 16) := by kernel_rfl
  obtain ⟨i, h1, h2⟩ := Option.map_eq_some_iff.1 h
  simp only [Prod.mk.injEq] at h2
  exact ⟨i, h1, h2.1, h2.2.1, h2.2.2⟩
theorem append_strs {w : World} {B m c : Nat} {v : Value} {q l : List ByteArray} {x : Addr} (h : OwnZ w B v q) (hB : B ≤ w.heap.size) (hv : Strs w (some x) l) (hl : l.length = m) (hs : (q.length + m : Int) ≤ 1000000) (ty : TypeId) :
    ∃ v' w', (Builtin.append_ #[111, 111] ty #[v, .slice (some x) m c]).run Tryd.prog w = .ok v' w' ∧ OwnZ w' B v' (q ++ l) ∧ w.grownBy w' v.ownBlock ∧ ∀ k, v'.ownBlock = some k → v.ownBlock = some k ∨ w.heap.size ≤ k := by
  obtain ⟨i0, hi, hz0, hz1, hz2⟩ := strType
  have hnews : ∀ j u, (vz l)[j]? = some u → w.cell? (x.add j) = some u := by
    intro j u hj
    rcases hv with rfl | ⟨g, o, e, hc⟩
    · simp [vz] at hj
    · cases e
      simp only [vz, List.getElem?_map, Option.map_eq_some_iff] at hj
      obtain ⟨y, hy, rfl⟩ := hj
      rw [addr_at]; exact hc j y hy
  obtain ⟨v', w', h1, h2, h3, _, h5⟩ := run_append_own_at (P := Tryd.prog) w B 111 ty 9 i0 _ 1 16 Tryd.underlying111 hi hz0 hz1 hz2 rfl (by decide) v q.length (vz q) h x m c (vz l) (by simp [vz, hl]) hnews (vz_one l) (by unfold maxLen; omega) (by omega) hB
  refine ⟨v', w', h1, ?_, h3, fun k hk => ?_⟩
  · unfold OwnZ
    rw [List.length_append, hl]
    unfold vz at h2 ⊢
    rw [List.map_append]
    exact h2
  · rcases h5 with z | z
    · left; rw [← z]; exact hk
    · right; rw [z] at hk; cases hk; exact Nat.le_refl _
theorem wp_strs {ops : Array Oper} {rest : List Oper} {o : Oper} {a : Act} {Q : Exit → Act → World → Prop} {w : World} (hgd : o.guard = none) (s x : Operand)
    (ho : o.op = .call { callee := .builtin .append, args := #[s, x], argTypes := #[111, 111] }) {B m c : Nat} {v : Value} {q l : List ByteArray} {ad : Addr} (hs : a.eval s = v) (hx : a.eval x = .slice (some ad) m c)
    (hown : OwnZ w B v q) (hB : B ≤ w.heap.size) (hv : Strs w (some ad) l) (hl : l.length = m) (hsm : (q.length + m : Int) ≤ 1000000) (N : Nat) (hN : q.length + m = N)
    (h : ∀ a' cp' w', OwnZ w' B (.slice a' N cp') (q ++ l) → w.grownBy w' v.ownBlock → (∀ k, (Value.slice a' N cp').ownBlock = some k → v.ownBlock = some k ∨ w.heap.size ≤ k) → wpList Tryd.prog ops Q rest (a.put o.dst (.slice a' N cp')) w') : wpList Tryd.prog ops Q (o :: rest) a w := by
  refine wpList_step fun K hK => ?_
  have hw : Region.wanted o (yielded ops a.tmps) = true := by simp [Region.wanted, hgd]
  rw [if_pos hw]
  obtain ⟨v', w', hr, h2, h3, h4⟩ := append_strs (c := c) hown hB hv hl hsm o.type
  obtain ⟨a', cp', hv', _⟩ := h2.slice
  rw [List.length_append, hl, hN] at hv'
  subst hv'
  unfold Oper.wp execOp
  simp only [ho, resolve, invoke, builtin, Sem.run_bind, Sem.run_pure, Result.andThen_ok, List.map_toArray, List.map_cons, List.map_nil, hs, hx, hr]
  exact hK _ _ (h a' cp' w' h2 h3 h4)
theorem grownz_new {w w1 w2 : World} {B N : Nat} {v : Value} {q : List ByteArray} (hl : Below N w w1) (ho : OwnZ w1 B v q) (hB : N ≤ B) (hN : N ≤ w1.heap.size) (hg : w1.grownBy w2 v.ownBlock) : Below N w w2 :=
  hl.grown hg hN (fun k hk => by have := (World.ownsRow.lt ho k hk).1; omega)

/-- Texts with a blank between. -/
def joinZ : List ByteArray → ByteArray
  | [] => ⟨#[]⟩
  | [x] => x
  | x :: y :: l => x ++ ⟨#[32]⟩ ++ joinZ (y :: l)
theorem joinz_lib : ∀ l : List ByteArray, (joinZ l).data.toList = Lib.join (l.map (·.data.toList)) [32]
  | [] => rfl
  | [x] => by rw [joinZ, List.map_cons, List.map_nil, Lib.join_one]
  | x :: y :: l => by
    have ih := joinz_lib (y :: l)
    rw [joinZ, ByteArray.data_append, ByteArray.data_append, Array.toList_append, Array.toList_append, ih, List.map_cons, List.map_cons, Lib.join_cons, Lib.join_cons]
    simp [Lib.joinTail]
theorem strjoin_any (g o c n : Nat) (l : List ByteArray) (hl : l.length = n) (w : World) (h : Strs w (some ⟨g, o, none⟩) l) (hp : 0 < n) (hn : n ≤ 1000000) (hc : n ≤ c) (hs : (joinZ l).size ≤ 1000000000) :
    Calls Tryd.prog 56 #[.slice (some ⟨g, o, none⟩) n c, .string ⟨#[32]⟩] w fun e w' => e = .returned (.string (joinZ l)) ∧ Below w.heap.size w w' := by
  subst hl
  have hcells : ∀ (j : Nat) x, l[j]? = some x → w.cell? ⟨g, o + j, none⟩ = some (.string x) := by
    rcases h with rfl | ⟨g', o', e, hc⟩
    · intro j x hj; cases hj
    · cases e; exact hc
  have hbk : g < w.heap.size := by
    obtain ⟨x, hx⟩ := nth_of (rfl : l.length = l.length) hp
    exact block_of_cell (hcells 0 x hx)
  have e := joinz_lib l
  have h2 : (joinZ l).data.toList.length = (joinZ l).size := by simp
  have := Tryd.strings_Join g o c l ⟨#[32]⟩ w hcells hbk (by omega) hc (by show (Lib.join (l.map (·.data.toList)) [32]).length ≤ _; rw [← e, h2]; omega)
  refine this.mono fun e' w' ⟨h1, h3⟩ => ⟨?_, h3⟩
  rw [h1]
  show Ending.returned (.string ⟨(Lib.join (l.map (·.data.toList)) [32]).toArray⟩) = _
  rw [← e]
end Go.Proofs.YtlpffgmfgkleiaaDoor

/-
  The words of a task's text, in plain words.
-/
namespace Go.Proofs.YtlpffgmfgkleiaaDoor
open Go.RowKit Go.Maps

abbrev tC : ByteArray := ⟨#[99, 61]⟩
abbrev tD : ByteArray := ⟨#[100, 61]⟩
abbrev tT : ByteArray := ⟨#[116, 61]⟩
abbrev tP : ByteArray := ⟨#[112, 61]⟩
abbrev tChunks : ByteArray := ⟨#[99, 104, 117, 110, 107, 115, 61]⟩
abbrev tUse : ByteArray := ⟨#[117, 115, 101, 61]⟩
def sixOf (t : Tk) : List ByteArray := [bTask, digOf t.id, tC ++ digOf t.c, tD ++ digOf t.d, tT ++ digOf t.t, tP ++ digOf t.p]
def chZ (t : Tk) : List ByteArray := if t.ch = [] then [] else [tChunks ++ joinOf t.ch]
def usZ (t : Tk) : List ByteArray := if t.us = [] then [] else [tUse ++ joinOf t.us]
theorem sTask_is : sTask = bTask ++ ⟨#[32]⟩ := rfl
theorem sC_is : sC = ⟨#[32]⟩ ++ tC := rfl
theorem sD_is : sD = ⟨#[32]⟩ ++ tD := rfl
theorem sT_is : sT = ⟨#[32]⟩ ++ tT := rfl
theorem sP_is : sP = ⟨#[32]⟩ ++ tP := rfl
theorem sChunks_is : sChunks = ⟨#[32]⟩ ++ tChunks := rfl
theorem sUse_is : sUse = ⟨#[32]⟩ ++ tUse := rfl
theorem whole_words (t : Tk) : wholeOf t = joinZ (sixOf t ++ chZ t ++ usZ t) := by
  unfold wholeOf midOf headOf chZ usZ sixOf
  by_cases h1 : t.ch = []
  · by_cases h2 : t.us = []
    · simp only [if_pos h1, if_pos h2, List.append_nil, joinZ, sTask_is, sC_is, sD_is, sT_is, sP_is, ByteArray.append_assoc]
    · simp only [if_pos h1, if_neg h2, List.append_nil, List.cons_append, List.nil_append, joinZ, sTask_is, sC_is, sD_is, sT_is, sP_is, sUse_is, ByteArray.append_assoc]
  · by_cases h2 : t.us = []
    · simp only [if_neg h1, if_pos h2, List.append_nil, List.cons_append, List.nil_append, joinZ, sTask_is, sC_is, sD_is, sT_is, sP_is, sChunks_is, ByteArray.append_assoc]
    · simp only [if_neg h1, if_neg h2, List.append_nil, List.cons_append, List.nil_append, joinZ, sTask_is, sC_is, sD_is, sT_is, sP_is, sChunks_is, sUse_is, ByteArray.append_assoc]
end Go.Proofs.YtlpffgmfgkleiaaDoor

/-
  Numbers that are read from their digits, in plain words.
-/
namespace Go.Proofs.YtlpffgmfgkleiaaDoor
open Go.RowKit Go.Maps

theorem nrun_same (s t : ByteArray) : ∀ i, (∀ j, j < i → byteAt s j = byteAt t j) → nrun s i = nrun t i
  | 0, _ => rfl
  | i + 1, h => by
    rw [nrun, nrun, nrun_same s t i (fun j hj => h j (by omega)), h i (by omega)]
theorem byte_one (c : UInt8) : byteAt ⟨#[c]⟩ 0 = c.toNat := (byteAt_in ⟨#[c]⟩ (i := 0) (show (0 : Nat) < 1 by omega)).2
theorem dig_nat {d : Nat} (h : d < 10) : (UInt8.ofNat (48 + d)).toNat = 48 + d := by rw [UInt8.toNat_ofNat']; omega
/-- What the digits of a number are. -/
structure DigsOf (s : ByteArray) (n : Nat) : Prop where
  has : 0 < s.size
  run : nrun s s.size = some n
  lead : 1 < s.size → byteAt s 0 ≠ 48
  pos : 0 < n → byteAt s 0 ≠ 48
  dig : ∀ j, j < s.size → 48 ≤ byteAt s j ∧ byteAt s j ≤ 57
theorem upOf_digs : ∀ n : Nat, n ≤ 9223372036854775807 → DigsOf (upOf n) n := by
  intro n
  induction n using Nat.strongRecOn with
  | ind n ih =>
    intro hn
    by_cases h : n < 10
    · rw [upOf_small h]
      have hb := byte_one (UInt8.ofNat (48 + n))
      rw [dig_nat h] at hb
      refine ⟨show (0 : Nat) < 1 by omega, ?_, fun z => absurd z (show ¬ (1 : Nat) < 1 by omega), fun _ => by omega, fun j hj => ?_⟩
      · show nrun _ (0 + 1) = _
        simp only [nrun, hb]
        rw [if_neg (by omega)]
        congr 1; omega
      · have : j = 0 := by
          have e : (⟨#[UInt8.ofNat (48 + n)]⟩ : ByteArray).size = 1 := rfl
          omega
        subst this; omega
    · have q := ih (n / 10) (by omega) (by omega)
      rw [upOf_more h]
      generalize upOf (n / 10) = u at q ⊢
      obtain ⟨q1, q2, q3, q4, q5⟩ := q
      have he : (⟨#[UInt8.ofNat (48 + n % 10)]⟩ : ByteArray).size = 1 := rfl
      have hb := byte_one (UInt8.ofNat (48 + n % 10))
      rw [dig_nat (by omega)] at hb
      have hl := byteAt_right u ⟨#[UInt8.ofNat (48 + n % 10)]⟩ 0
      rw [hb, Nat.add_zero] at hl
      have h0 := byteAt_left u ⟨#[UInt8.ofNat (48 + n % 10)]⟩ q1
      have hz := q4 (by omega)
      have hsz : (u ++ ⟨#[UInt8.ofNat (48 + n % 10)]⟩).size = u.size + 1 := by rw [ByteArray.size_append, he]
      refine ⟨by omega, ?_, fun _ => by rw [h0]; exact hz, fun _ => by rw [h0]; exact hz, fun j hj => ?_⟩
      · rw [hsz, nrun, nrun_same _ u u.size (fun j hj => byteAt_left _ _ hj), q2]
        simp only [hl]
        rw [if_neg (by omega)]
        congr 1; omega
      · rcases Nat.lt_or_ge j u.size with g | g
        · rw [byteAt_left _ _ g]; exact q5 j g
        · have : j = u.size := by omega
          subst this
          rw [hl]; omega
theorem digOf_digs {n : Int} (h0 : 0 ≤ n) (h : I64 n) : DigsOf (digOf n) n.toNat := by
  unfold digOf
  rw [if_neg (by omega), show n.natAbs = n.toNat by omega]
  exact upOf_digs _ (by unfold I64 at h; omega)
/-- A number is read from its digits, up to a bound. -/
theorem DigsOf.num {s : ByteArray} {n : Nat} (h : DigsOf s n) (most : Int) : numOf s most = if most < (n : Int) then none else some n := by
  unfold numOf
  have h1 := h.has
  rw [if_neg (by rintro (z | ⟨z1, z2⟩); omega; exact h.lead z1 z2), h.run]
/-- With a byte behind it that is no digit it is none. -/
theorem DigsOf.more {s : ByteArray} {n : Nat} (h : DigsOf s n) (most : Int) (c : UInt8) (hc : c.toNat < 48) : numOf (s ++ ⟨#[c]⟩) most = none := by
  have h1 := h.has
  have he : (⟨#[c]⟩ : ByteArray).size = 1 := rfl
  have hl := byteAt_right s ⟨#[c]⟩ 0
  rw [byte_one, Nat.add_zero] at hl
  unfold numOf
  rw [ByteArray.size_append, he]
  have e : nrun (s ++ ⟨#[c]⟩) (s.size + 1) = none := by
    rw [nrun, nrun_same _ s s.size (fun j hj => byteAt_left _ _ hj), h.run]
    simp only [hl]
    rw [if_pos (.inl hc)]
  rw [e]
  split <;> rfl

theorem nsrun_same (s t : ByteArray) (most : Int) : ∀ i, i ≤ s.size → i ≤ t.size → (∀ j, j < i → byteAt s j = byteAt t j) → (∀ f k, k < i → s.extract f k = t.extract f k) → nsrun s most i = nsrun t most i
  | 0, _, _, _, _ => rfl
  | i + 1, hs, ht, h, e => by
    rw [nsrun, nsrun, nsrun_same s t most i (by omega) (by omega) (fun j hj => h j (by omega)) (fun f k hk => e f k (by omega))]
    have c : (i < s.size ∧ byteAt s i ≠ 44) ↔ (i < t.size ∧ byteAt t i ≠ 44) := by rw [h i (by omega)]; constructor <;> rintro ⟨_, q⟩ <;> exact ⟨by omega, q⟩
    cases nsrun t most i with
    | none => rfl
    | some p =>
      obtain ⟨l, f⟩ := p
      simp only []
      by_cases g : i < t.size ∧ byteAt t i ≠ 44
      · rw [if_pos g, if_pos (c.2 g)]
      · rw [if_neg g, if_neg (fun z => g (c.1 z)), e f i (by omega)]
theorem nsrun_stay (s : ByteArray) (most : Int) (i : Nat) (l : List Int) (f : Nat) (h : nsrun s most i = some (l, f)) : ∀ n, (∀ j, j < n → i + j < s.size ∧ byteAt s (i + j) ≠ 44) → nsrun s most (i + n) = some (l, f)
  | 0, _ => h
  | n + 1, g => by
    rw [← Nat.add_assoc, nsrun, nsrun_stay s most i l f h n (fun j hj => g j (by omega))]
    simp only []
    rw [if_pos (g n (by omega))]
def comma : ByteArray := ⟨#[44]⟩
def MostOf : Int := 9223372036854775807
/-- What is known behind the first numbers of a row that was joined. -/
theorem joined (l : List Int) (hl : ∀ x ∈ l, 0 ≤ x ∧ I64 x) : ∀ k, k < l.length → ∃ f, f ≤ (jrun l (k + 1)).size ∧ nsrun (jrun l (k + 1)) MostOf (jrun l (k + 1)).size = some (l.take k, f) ∧ (jrun l (k + 1)).extract f (jrun l (k + 1)).size = digOf (l[k]?.getD 0)
  | 0, h => by
    obtain ⟨x, hx⟩ := nth_of (rfl : l.length = l.length) h
    have ⟨h0, hi⟩ := hl x (List.mem_of_getElem? hx)
    have D := digOf_digs h0 hi
    have e : jrun l (0 + 1) = digOf x := by
      rw [jrun, if_pos rfl, hx]
      exact ba_nil_add _
    rw [e, hx]
    show ∃ f, f ≤ (digOf x).size ∧ _ ∧ (digOf x).extract f (digOf x).size = digOf x
    generalize digOf x = d at D ⊢
    refine ⟨0, by omega, ?_, ?_⟩
    · have := nsrun_stay d MostOf 0 [] 0 rfl d.size (fun j hj => ⟨by omega, by rw [Nat.zero_add]; have := D.dig j hj; omega⟩)
      rw [Nat.zero_add] at this
      rw [this]; rfl
    · apply ByteArray.ext
      rw [ByteArray.data_extract]
      exact Array.extract_size
  | k + 1, h => by
    obtain ⟨f, hf, h1, h2⟩ := joined l hl k (by omega)
    obtain ⟨y, hy⟩ := nth_of (rfl : l.length = l.length) (show k < l.length by omega)
    obtain ⟨x, hx⟩ := nth_of (rfl : l.length = l.length) h
    have ⟨h0, hi⟩ := hl x (List.mem_of_getElem? hx)
    have ⟨g0, gi⟩ := hl y (List.mem_of_getElem? hy)
    have D := digOf_digs h0 hi
    have E := digOf_digs g0 gi
    have e : jrun l (k + 1 + 1) = jrun l (k + 1) ++ comma ++ digOf x := by
      rw [jrun, if_neg (by omega), hx]; rfl
    rw [e, hx]
    rw [hy] at h2
    change _ = digOf y at h2
    show ∃ f, _ ∧ _ ∧ _ = digOf x
    generalize jrun l (k + 1) = t at hf h1 h2 ⊢
    generalize digOf x = d at D ⊢
    have hcs : comma.size = 1 := rfl
    have htc : (t ++ comma).size = t.size + 1 := by rw [ByteArray.size_append, hcs]
    have hz : (t ++ comma ++ d).size = t.size + 1 + d.size := by rw [ByteArray.size_append, htc]
    have s1 : nsrun (t ++ comma ++ d) MostOf t.size = some (l.take k, f) := by
      rw [nsrun_same _ t MostOf t.size (by omega) (Nat.le_refl _) (fun j hj => by rw [byteAt_left _ _ (by omega), byteAt_left _ _ hj]) (fun f k hk => by rw [ex_left _ _ (by omega), ex_left _ _ (by omega)]), h1]
    have b44 : byteAt (t ++ comma ++ d) t.size = 44 := by
      rw [byteAt_left _ _ (by omega)]
      have := byteAt_right t comma 0
      rw [Nat.add_zero] at this
      rw [this]; rfl
    have htk : l.take (k + 1) = l.take k ++ [y] := by rw [List.take_add_one, hy]; rfl
    have s2 : nsrun (t ++ comma ++ d) MostOf (t.size + 1) = some (l.take (k + 1), t.size + 1) := by
      rw [nsrun, s1]
      simp only []
      rw [if_neg (by rintro ⟨_, z⟩; exact z b44), ex_left _ _ (by omega), ex_left _ _ (by omega), h2, E.num, if_neg (by unfold MostOf; unfold I64 at gi; omega), htk]
      simp only []
      rw [show ((y.toNat : Nat) : Int) = y by omega]
    refine ⟨t.size + 1, by omega, ?_, ?_⟩
    · rw [hz]
      exact nsrun_stay _ _ _ _ _ s2 d.size (fun j hj => ⟨by omega, by
        have e := byteAt_right (t ++ comma) d j
        rw [htc] at e
        rw [e]; have := D.dig j hj; omega⟩)
    · rw [hz]
      have := ex_right (t ++ comma) d 0 d.size
      rw [htc, Nat.add_zero] at this
      rw [this]
      apply ByteArray.ext
      rw [ByteArray.data_extract]
      exact Array.extract_size
/-- A row of numbers is read from what it was joined to. -/
theorem nums_join (l : List Int) (hl : ∀ x ∈ l, 0 ≤ x ∧ I64 x) (h : 0 < l.length) : numsOf (joinOf l) MostOf = some l := by
  obtain ⟨k, hk⟩ : ∃ k, l.length = k + 1 := ⟨l.length - 1, by omega⟩
  obtain ⟨f, hf, h1, h2⟩ := joined l hl k (by omega)
  obtain ⟨y, hy⟩ := nth_of (rfl : l.length = l.length) (show k < l.length by omega)
  have ⟨g0, gi⟩ := hl y (List.mem_of_getElem? hy)
  have E := digOf_digs g0 gi
  rw [hy] at h2
  change _ = digOf y at h2
  unfold numsOf joinOf
  rw [hk]
  generalize jrun l (k + 1) = t at hf h1 h2 ⊢
  have htk : l.take (k + 1) = l.take k ++ [y] := by rw [List.take_add_one, hy]; rfl
  rw [nsrun, h1]
  simp only []
  rw [if_neg (by omega), h2, E.num, if_neg (by unfold MostOf; unfold I64 at gi; omega)]
  simp only [Option.map_some]
  rw [show ((y.toNat : Nat) : Int) = y by omega, ← htk, List.take_of_length_le (by omega)]
theorem nums_join_none : numsOf (joinOf []) MostOf = none := by
  unfold numsOf joinOf jrun
  have e : (⟨#[]⟩ : ByteArray).size = 0 := rfl
  show Option.map _ (nsrun ⟨#[]⟩ MostOf (0 + 1)) = none
  simp only [nsrun]
  rw [if_neg (by rw [e]; omega)]
  have : numOf ((⟨#[]⟩ : ByteArray).extract 0 0) MostOf = none := by
    unfold numOf
    rw [if_pos (.inl (by rw [ByteArray.size_extract]; omega))]
  rw [this]; rfl
end Go.Proofs.YtlpffgmfgkleiaaDoor

/-
  The printed text's lines by their words' texts; texts that are turned, cut or go on.
-/
namespace Go.Proofs.YtlpffgmfgkleiaaDoor
open Go.RowKit Go.Maps

/-- Words with a blank between, behind what was under way. -/
theorem arun_joinZ (d : List (List ByteArray)) : ∀ (l : List ByteArray) (x : ByteArray) (cur : List ByteArray), (∀ w ∈ x :: l, Clean w ∧ 0 < w.size) → ∃ v, 0 < v.size ∧ ∃ c', arun (joinZ (x :: l)) ⟨d, cur, noB, false⟩ = ⟨d, c', v, false⟩ ∧ c' ++ [v] = cur ++ (x :: l)
  | [], x, cur, h => by
    obtain ⟨h1, h2⟩ := h x (List.mem_cons_self ..)
    refine ⟨x, h2, cur, ?_, rfl⟩
    rw [joinZ, arun_clean h1]
    congr 1
  | y :: l, x, cur, h => by
    obtain ⟨h1, h2⟩ := h x (List.mem_cons_self ..)
    obtain ⟨v, hv, c', e1, e2⟩ := arun_joinZ d l y (cur ++ [x]) (fun w hw => h w (List.mem_cons_of_mem _ hw))
    refine ⟨v, hv, c', ?_, by rw [e2, List.append_assoc]; rfl⟩
    rw [joinZ, arun_append, arun_append, arun_clean h1, show noB ++ x = x from ba_nil_add x, arun_byte, sp_close d cur x h2, e1]
/-- A line of words, and its end. -/
theorem arun_line (d : List (List ByteArray)) (x : ByteArray) (l : List ByteArray) (h : ∀ w ∈ x :: l, Clean w ∧ 0 < w.size) : arun (joinZ (x :: l) ++ sNl) (aZ d) = aZ (d ++ [x :: l]) := by
  obtain ⟨v, hv, c', e1, e2⟩ := arun_joinZ d l x [] h
  rw [arun_append, show aZ d = ⟨d, [], noB, false⟩ from rfl, e1]
  show astep ⟨d, c', v, false⟩ 10 = _
  rw [nl_lines d c' v hv, e2]; rfl
theorem aZ_lines (d : List (List ByteArray)) : (aZ d).lines = d := by
  unfold AQ.lines AQ.close aZ
  rw [if_pos (show noB.size = 0 from rfl), if_pos rfl]

/-! ### clean words -/
theorem clean_up : ∀ n : Nat, Clean (upOf n) ∧ 0 < (upOf n).size
  | n => by
    by_cases h : n < 10
    · rw [upOf_small h]
      refine ⟨fun c hc => ?_, show 0 < 1 by omega⟩
      simp only [List.mem_singleton] at hc
      subst hc
      rw [dig_nat h]; omega
    · rw [upOf_more h]
      obtain ⟨h1, h2⟩ := clean_up (n / 10)
      refine ⟨h1.append fun c hc => ?_, by rw [ByteArray.size_append]; omega⟩
      simp only [List.mem_singleton] at hc
      subst hc
      rw [dig_nat (by omega)]; omega
termination_by n => n
theorem clean_dig (n : Int) : Clean (digOf n) ∧ 0 < (digOf n).size := by
  obtain ⟨h1, h2⟩ := clean_up n.natAbs
  unfold digOf
  split
  · refine ⟨Clean.append (fun c hc => ?_) h1, by rw [ByteArray.size_append]; omega⟩
    simp only [List.mem_singleton] at hc
    subst hc
    decide
  · exact ⟨h1, h2⟩
theorem clean_join (l : List Int) : ∀ i, Clean (jrun l i)
  | 0 => fun c hc => by simp [jrun] at hc
  | i + 1 => by
    rw [jrun]
    refine Clean.append ?_ (clean_dig _).1
    split
    · exact clean_join l i
    · refine (clean_join l i).append fun c hc => ?_
      simp only [List.mem_singleton] at hc
      subst hc
      decide
theorem clean_lit (w : ByteArray) (h : w.data.toList.all (fun c => decide (c.toNat ≠ 10 ∧ c.toNat ≠ 35 ∧ c.toNat ≠ 32 ∧ c.toNat ≠ 9)) = true) : Clean w := fun c hc => by
  have := List.all_eq_true.1 h c hc
  exact of_decide_eq_true this
/-- The words of a task's text. -/
def tkTx (t : Tk) : List ByteArray := sixOf t ++ chZ t ++ usZ t
theorem clean_tk (t : Tk) : ∀ w ∈ tkTx t, Clean w ∧ 0 < w.size := by
  have named (n g : ByteArray) (h : Clean n) (hn : 0 < n.size) (k : Clean g) : Clean (n ++ g) ∧ 0 < (n ++ g).size := ⟨h.append k, by rw [ByteArray.size_append]; omega⟩
  intro w hw
  unfold tkTx at hw
  rcases List.mem_append.1 hw with hw | hw
  · rcases List.mem_append.1 hw with hw | hw
    · unfold sixOf at hw
      simp only [List.mem_cons, List.not_mem_nil, or_false] at hw
      rcases hw with rfl | rfl | rfl | rfl | rfl | rfl
      · exact ⟨clean_lit _ (by decide), by decide⟩
      · exact clean_dig _
      · exact named _ _ (clean_lit _ (by decide)) (by decide) (clean_dig _).1
      · exact named _ _ (clean_lit _ (by decide)) (by decide) (clean_dig _).1
      · exact named _ _ (clean_lit _ (by decide)) (by decide) (clean_dig _).1
      · exact named _ _ (clean_lit _ (by decide)) (by decide) (clean_dig _).1
    · unfold chZ at hw
      split at hw
      · cases hw
      · simp only [List.mem_cons, List.not_mem_nil, or_false] at hw
        subst hw
        exact named _ _ (clean_lit _ (by decide)) (by decide) (clean_join _ _)
  · unfold usZ at hw
    split at hw
    · cases hw
    · simp only [List.mem_cons, List.not_mem_nil, or_false] at hw
      subst hw
      exact named _ _ (clean_lit _ (by decide)) (by decide) (clean_join _ _)
/-! ### the printed text -/
def cacheTx (S R : Int) : List ByteArray := [bCache, digOf S, digOf R]
theorem head_run (S R : Int) : arun (headText S R) (aZ []) = aZ [cacheTx S R] := by
  have e : headText S R = joinZ [bCache, digOf S, digOf R] ++ sNl := by
    unfold headText
    rw [show sCache = bCache ++ ⟨#[32]⟩ from rfl]
    simp only [joinZ, ByteArray.append_assoc]
  rw [e, arun_line [] _ _ (fun w hw => by
    simp only [List.mem_cons, List.not_mem_nil, or_false] at hw
    rcases hw with rfl | rfl | rfl
    · exact ⟨clean_lit _ (by decide), by decide⟩
    · exact clean_dig _
    · exact clean_dig _)]
  rfl
theorem line_run (t : Tk) (ht : rightOf t.tv 256 = 0) (d : List (List ByteArray)) : arun (lineText t ++ sNl) (aZ d) = aZ (d ++ [tkTx t]) := by
  unfold lineText
  rw [if_pos ht, whole_words]
  exact arun_line d _ _ (clean_tk t)
theorem print_run : ∀ (l : List Tk) (h : ByteArray) (d : List (List ByteArray)), (∀ t ∈ l, rightOf t.tv 256 = 0) → arun h (aZ []) = aZ d → arun (printRun h l) (aZ []) = aZ (d ++ l.map tkTx)
  | [], h, d, _, e => by rw [printRun, e, List.map_nil, List.append_nil]
  | t :: l, h, d, hr, e => by
    rw [printRun, print_run l _ (d ++ [tkTx t]) (fun x hx => hr x (List.mem_cons_of_mem _ hx)) (by rw [ByteArray.append_assoc, arun_append, e, line_run t (hr t (List.mem_cons_self ..))])]
    simp
/-- What is right beside some sets is right beside all of them. -/
theorem right_up {x : TV} {s : Int} (h : rightOf x s = 0) (hs : s ≤ 256) : rightOf x 256 = 0 := by
  unfold rightOf at h ⊢
  split at h
  · cases h
  · rename_i a1
    split at h
    · cases h
    · rename_i a2
      split at h
      · cases h
      · rename_i a3
        split at h
        · cases h
        · rename_i a4
          rw [if_neg a1, if_neg a2, if_neg a3, if_neg]
          unfold usBad at a4 ⊢
          rintro (q | q)
          · exact a4 (.inl q)
          · refine a4 (.inr ?_)
            rw [List.any_eq_true] at q ⊢
            obtain ⟨y, h1, h2⟩ := q
            refine ⟨y, h1, ?_⟩
            unfold badB at h2 ⊢
            simp only [decide_eq_true_eq, Bool.or_eq_true] at h2 ⊢
            omega
theorem tv_tk (t : Tk) : t.tv.tk = t := rfl
/-- The printed text, byte after byte. -/
theorem text_run {S R : Int} {l : List Tk} (h : checkT S R l = 0) : arun (printText S R l) (aZ []) = aZ (cacheTx S R :: l.map tkTx) := by
  have q := check_pass h
  unfold printText
  rw [if_pos h, print_run l _ [cacheTx S R] (fun t ht => right_up (q.all t.tv (List.mem_map_of_mem ht)) q.s.2) (head_run S R)]
  rfl
theorem text_lines {S R : Int} {l : List Tk} (h : checkT S R l = 0) : linesTx (printText S R l) = cacheTx S R :: l.map tkTx := by
  unfold linesTx; rw [text_run h, aZ_lines]
end Go.Proofs.YtlpffgmfgkleiaaDoor

/-
  What a text says depends on its words' texts alone; the printed text says its system.
-/
namespace Go.Proofs.YtlpffgmfgkleiaaDoor
open Go.RowKit Go.Maps

theorem wordAt_tx (W : List WV) (i : Nat) : wordAt W i = (W.map WV.tx)[i]? := by unfold wordAt; rw [List.getElem?_map]
theorem wordAt_same {W V : List WV} (h : W.map WV.tx = V.map WV.tx) : wordAt W = wordAt V := funext fun i => by rw [wordAt_tx, wordAt_tx, h]
theorem len_same {W V : List WV} (h : W.map WV.tx = V.map WV.tx) : W.length = V.length := by
  have := congrArg List.length h
  rwa [List.length_map, List.length_map] at this
theorem line_same {W V : List WV} (h : W.map WV.tx = V.map WV.tx) {t : Tk} (e : lineOf W = .ok t) : lineOf V = .ok t := by
  have hw := wordAt_same h
  have hl := len_same h
  have h1 : idOf W = idOf V := by unfold idOf; rw [hw]
  have h2 : ∀ k, numK W k = numK V k := fun k => by unfold numK numAt valAt; rw [hw]
  have h3 : chAt W = chAt V := by unfold chAt numsAt valAt; rw [hw]
  have h4 : plus1 W = plus1 V := by unfold plus1; rw [h3]
  have h5 : usAt W = usAt V := by unfold usAt numsAt valAt; rw [hw, h4]
  have h6 : plus2 W = plus2 V := by unfold plus2; rw [h5, h4]
  unfold lineOf at e ⊢
  rw [← hw, ← h1, ← h2 0, ← h2 1, ← h2 2, ← h2 3, ← h6, ← hl, ← h3, ← h5]
  by_cases a : wordAt W 0 ≠ some bTask
  · rw [if_pos a] at e; cases e
  rw [if_neg a] at e ⊢
  cases q0 : idOf W with
  | none => rw [q0] at e; cases e
  | some id =>
    rw [q0] at e
    simp only [] at e ⊢
    cases q1 : numK W 0 with
    | none => rw [q1] at e; cases e
    | some c =>
      rw [q1] at e
      simp only [] at e ⊢
      cases q2 : numK W 1 with
      | none => rw [q2] at e; cases e
      | some d =>
        rw [q2] at e
        simp only [] at e ⊢
        cases q3 : numK W 2 with
        | none => rw [q3] at e; cases e
        | some t =>
          rw [q3] at e
          simp only [] at e ⊢
          cases q4 : numK W 3 with
          | none => rw [q4] at e; cases e
          | some p =>
            rw [q4] at e
            simp only [] at e ⊢
            by_cases b : plus2 W < W.length
            · rw [if_pos b] at e; cases e
            · rw [if_neg b] at e ⊢; exact e
theorem cache_same {W V : List WV} (h : W.map WV.tx = V.map WV.tx) {t : Nat × Nat} (e : cacheOf W = .ok t) : cacheOf V = .ok t := by
  have hw := wordAt_same h
  have hl := len_same h
  have h1 : setsOf W = setsOf V := by unfold setsOf; rw [hw]
  have h2 : relOf W = relOf V := by unfold relOf; rw [hw]
  unfold cacheOf at e ⊢
  rw [← hw, ← h1, ← h2, ← hl]
  by_cases a : wordAt W 0 ≠ some bCache
  · rw [if_pos a] at e; cases e
  rw [if_neg a] at e ⊢
  cases q0 : setsOf W with
  | none => rw [q0] at e; cases e
  | some s =>
    rw [q0] at e
    simp only [] at e ⊢
    cases q1 : relOf W with
    | none => rw [q1] at e; cases e
    | some r =>
      rw [q1] at e
      simp only [] at e ⊢
      by_cases b : 3 < W.length
      · rw [if_pos b] at e; cases e
      · rw [if_neg b] at e ⊢; exact e
theorem tail_same {S R : Int} : ∀ (L M : List (List WV)) (acc l : List Tk), L.map (·.map WV.tx) = M.map (·.map WV.tx) → tailOf S R acc L = .ok l → tailOf S R acc M = .ok l
  | [], [], _, _, _, e => e
  | [], _ :: _, _, _, h, _ => by cases h
  | _ :: _, [], _, _, h, _ => by cases h
  | W :: L, V :: M, acc, l, h, e => by
    rw [List.map_cons, List.map_cons, List.cons.injEq] at h
    rw [tailOf] at e ⊢
    cases q : lineOf W with
    | error p => rw [q] at e; cases e
    | ok t =>
      rw [q] at e
      rw [line_same h.1 q]
      simp only [] at e ⊢
      by_cases b : checkT S R (acc ++ [t]) = 0
      · rw [if_pos b] at e ⊢; exact tail_same L M _ l h.2 e
      · rw [if_neg b] at e; cases e
/-- What was read is read from every text of the same words. -/
theorem parse_same {s t : ByteArray} (h : linesTx s = linesTx t) {r : Nat × Nat × List Tk} (e : parseOf s = .ok r) : parseOf t = .ok r := by
  have hl : (linesOf s).map (·.map WV.tx) = (linesOf t).map (·.map WV.tx) := by rw [lines_tx, lines_tx, h]
  unfold parseOf at e ⊢
  cases q : linesOf s with
  | nil => rw [q] at e; cases e
  | cons W L =>
    cases q' : linesOf t with
    | nil => rw [q, q'] at hl; cases hl
    | cons V M =>
      rw [q, q', List.map_cons, List.map_cons, List.cons.injEq] at hl
      rw [q] at e
      simp only [] at e ⊢
      cases c : cacheOf W with
      | error p => rw [c] at e; cases e
      | ok x =>
        rw [c] at e
        rw [cache_same hl.1 c]
        obtain ⟨S, R⟩ := x
        simp only [] at e ⊢
        cases z : tailOf S R [] L with
        | error p => rw [z] at e; cases e
        | ok l =>
          rw [z] at e
          rw [tail_same L M [] l hl.2 z]
          cases l with
          | nil => cases e
          | cons y l => exact e

/-! ### the words of a printed line -/
theorem num_dig {n most : Int} (h0 : 0 ≤ n) (h : n ≤ most) (hm : most ≤ 9223372036854775807) : numOf (digOf n) most = some n.toNat := by
  rw [(digOf_digs h0 (by unfold I64; omega)).num, if_neg (by omega)]
theorem pair_named (n v : ByteArray) (h : ∀ j, j < n.size → byteAt n j ≠ 61) : pairOf (n ++ ⟨#[61]⟩ ++ v) = some (n, v) := by
  have k1 : (⟨#[61]⟩ : ByteArray).size = 1 := rfl
  have hb : byteAt (n ++ ⟨#[61]⟩ ++ v) n.size = 61 := by
    rw [byteAt_left _ _ (by rw [ByteArray.size_append]; omega)]
    have := byteAt_right n ⟨#[61]⟩ 0
    rw [Nat.add_zero] at this
    rw [this]; rfl
  unfold pairOf
  rw [eqFrom_some _ hb _ 0 (Nat.zero_le _) (by rw [ByteArray.size_append, ByteArray.size_append]; omega) (fun j _ hj => by
    rw [byteAt_left _ _ (by rw [ByteArray.size_append]; omega), byteAt_left _ _ hj]; exact h j hj)]
  rw [Option.map_some]
  have e1 : (n ++ ⟨#[61]⟩ ++ v).extract 0 n.size = n := by
    rw [ex_left _ _ (by rw [ByteArray.size_append]; omega), ex_left _ _ (Nat.le_refl _), ByteArray.extract_zero_size]
  have e2 : (n ++ ⟨#[61]⟩ ++ v).extract (n.size + 1) (n ++ ⟨#[61]⟩ ++ v).size = v := by
    have h3 : (n ++ ⟨#[61]⟩).size = n.size + 1 := by rw [ByteArray.size_append, k1]
    have := ex_right (n ++ ⟨#[61]⟩) v 0 v.size
    rw [ByteArray.extract_zero_size, Nat.add_zero] at this
    rw [ByteArray.size_append, h3]
    rw [h3] at this
    exact this
  rw [e1, e2]
theorem named_is (n v : ByteArray) (h : ∀ j, j < n.size → byteAt n j ≠ 61) : namedV (n ++ ⟨#[61]⟩ ++ v) n = some v := by unfold namedV; rw [pair_named n v h]; simp
theorem named_not (n m v : ByteArray) (h : ∀ j, j < n.size → byteAt n j ≠ 61) (hm : n ≠ m) : namedV (n ++ ⟨#[61]⟩ ++ v) m = none := by unfold namedV; rw [pair_named n v h]; simp [hm]
theorem no_eq (n : ByteArray) (h : (List.range n.size).all (fun j => decide (byteAt n j ≠ 61)) = true) : ∀ j, j < n.size → byteAt n j ≠ 61 := fun j hj => of_decide_eq_true (List.all_eq_true.1 h j (List.mem_range.2 hj))
theorem no_eq1 (c : UInt8) (h : c.toNat ≠ 61) : ∀ j, j < (⟨#[c]⟩ : ByteArray).size → byteAt ⟨#[c]⟩ j ≠ 61 := fun j hj => by
  have hs : (⟨#[c]⟩ : ByteArray).size = 1 := rfl
  have : j = 0 := by omega
  subst this
  rw [byte_one]; exact h
theorem numOf_most {s : ByteArray} {a b : Int} {n : Nat} (h : numOf s a = some n) (hn : (n : Int) ≤ b) : numOf s b = some n := by
  unfold numOf at h ⊢
  by_cases c : s.size = 0 ∨ (1 < s.size ∧ byteAt s 0 = 48)
  · rw [if_pos c] at h; cases h
  rw [if_neg c] at h ⊢
  cases q : nrun s s.size with
  | none => rw [q] at h; cases h
  | some m =>
    rw [q] at h
    simp only [] at h ⊢
    split at h
    · cases h
    · cases h; rw [if_neg (by omega)]
theorem nsrun_most (s : ByteArray) (a b : Int) : ∀ i l f, nsrun s a i = some (l, f) → (∀ x ∈ l, x ≤ b) → nsrun s b i = some (l, f)
  | 0, _, _, h, _ => h
  | i + 1, l, f, h, hl => by
    rw [nsrun] at h ⊢
    cases q : nsrun s a i with
    | none => rw [q] at h; cases h
    | some z =>
      obtain ⟨l0, f0⟩ := z
      rw [q] at h
      simp only [] at h
      by_cases c : i < s.size ∧ byteAt s i ≠ 44
      · rw [if_pos c] at h
        cases h
        rw [nsrun_most s a b i l f q hl]
        simp only []
        rw [if_pos c]
      · rw [if_neg c] at h
        cases r : numOf (s.extract f0 i) a with
        | none => rw [r] at h; cases h
        | some n =>
          rw [r] at h
          cases h
          rw [nsrun_most s a b i l0 f0 q (fun x hx => hl x (List.mem_append_left _ hx))]
          simp only []
          rw [if_neg c, numOf_most r (hl _ (List.mem_append_right _ (List.mem_singleton.2 rfl)))]
theorem nums_most {s : ByteArray} {a b : Int} {l : List Int} (h : numsOf s a = some l) (hl : ∀ x ∈ l, x ≤ b) : numsOf s b = some l := by
  unfold numsOf at h ⊢
  obtain ⟨⟨l0, f⟩, h1, rfl⟩ := Option.map_eq_some_iff.1 h
  rw [nsrun_most s a b _ _ f h1 hl]; rfl
theorem nums_join_most {l : List Int} {b : Int} (h0 : l ≠ []) (hl : ∀ x ∈ l, 0 ≤ x ∧ x ≤ b) (hb : b ≤ 9223372036854775807) : numsOf (joinOf l) b = some l :=
  nums_most (nums_join l (fun x hx => ⟨(hl x hx).1, by have := hl x hx; unfold I64; omega⟩) (List.length_pos_iff.2 h0)) (fun x hx => (hl x hx).2)
theorem tC_is : tC = bC ++ ⟨#[61]⟩ := rfl
theorem tD_is : tD = bD ++ ⟨#[61]⟩ := rfl
theorem tT_is : tT = bT ++ ⟨#[61]⟩ := rfl
theorem tP_is : tP = bP ++ ⟨#[61]⟩ := rfl
theorem tChunks_is : tChunks = bChunks ++ ⟨#[61]⟩ := rfl
theorem tUse_is : tUse = bUse ++ ⟨#[61]⟩ := rfl
theorem noC : ∀ j, j < bC.size → byteAt bC j ≠ 61 := no_eq1 99 (by decide)
theorem noD : ∀ j, j < bD.size → byteAt bD j ≠ 61 := no_eq1 100 (by decide)
theorem noT : ∀ j, j < bT.size → byteAt bT j ≠ 61 := no_eq1 116 (by decide)
theorem noP : ∀ j, j < bP.size → byteAt bP j ≠ 61 := no_eq1 112 (by decide)
theorem noChunks : ∀ j, j < bChunks.size → byteAt bChunks j ≠ 61 := no_eq _ (by kernel_rfl)
theorem noUse : ∀ j, j < bUse.size → byteAt bUse j ≠ 61 := no_eq _ (by kernel_rfl)
theorem use_chunks : bUse ≠ bChunks := fun h => by
  have := congrArg ByteArray.size h
  have h1 : bUse.size = 3 := rfl
  have h2 : bChunks.size = 6 := rfl
  omega
set_option maxHeartbeats 2000000 in
/-- The task that a printed line's words say. -/
theorem line_tk {W : List WV} {t : Tk} (hW : W.map WV.tx = tkTx t) (hr : rightOf t.tv 256 = 0) : lineOf W = .ok t := by
  have hs := small_of (x := t.tv) (s := 256) hr (by omega)
  have wA : ∀ i, wordAt W i = (tkTx t)[i]? := fun i => by rw [wordAt_tx, hW]
  have hl : W.length = (tkTx t).length := by rw [← hW, List.length_map]
  have s1 : 1 ≤ t.id ∧ t.id ≤ 99 := hs.id
  have s2 : 1 ≤ t.p ∧ t.p ≤ 99 := hs.p
  have s3 : 1 ≤ t.c ∧ t.c ≤ t.d := hs.c
  have s4 : t.d ≤ t.t ∧ t.t ≤ 1073741824 := hs.d
  have s5 : ∀ y ∈ t.ch, 1 ≤ y ∧ y ≤ t.c := hs.ch
  have s6 : ∀ y ∈ t.us, 0 ≤ y ∧ y < 256 := hs.us
  have w0 : wordAt W 0 = some bTask := by rw [wA]; rfl
  have w1 : idOf W = some t.id.toNat := by
    unfold idOf; rw [wA, show (tkTx t)[1]? = some (digOf t.id) from rfl]
    exact num_dig (by omega) (by omega) (by omega)
  have wn (k : Nat) (n : ByteArray) (v : Int) (hn : ∀ j, j < (nameK k).size → byteAt (nameK k) j ≠ 61) (hk : (tkTx t)[2 + k]? = some (nameK k ++ ⟨#[61]⟩ ++ digOf v)) (h0 : 0 ≤ v) (h1 : v ≤ mostK k) : numK W k = some v.toNat := by
    unfold numK numAt valAt
    rw [wA, hk, Option.bind_some, named_is _ _ hn, Option.bind_some]
    exact num_dig h0 h1 (by unfold mostK; split <;> omega)
  have w2 : numK W 0 = some t.c.toNat := wn 0 bC t.c noC rfl (by omega) (by unfold mostK; rw [if_neg (by omega)]; omega)
  have w3 : numK W 1 = some t.d.toNat := wn 1 bD t.d noD rfl (by omega) (by unfold mostK; rw [if_neg (by omega)]; omega)
  have w4 : numK W 2 = some t.t.toNat := wn 2 bT t.t noT rfl (by omega) (by unfold mostK; rw [if_neg (by omega)]; omega)
  have w5 : numK W 3 = some t.p.toNat := wn 3 bP t.p noP rfl (by omega) (by unfold mostK; rw [if_pos rfl]; omega)
  have tx6 : ∀ j, (tkTx t)[6 + j]? = (chZ t ++ usZ t)[j]? := fun j => by
    unfold tkTx
    rw [List.append_assoc, List.getElem?_append_right (by show 6 ≤ _; omega)]
    congr 1
    show 6 + j - 6 = j
    omega
  have tl : (tkTx t).length = 6 + (chZ t).length + (usZ t).length := by unfold tkTx; rw [List.length_append, List.length_append]; rfl
  have wU (i : Nat) (hu : t.us ≠ []) (hi : wordAt W i = some (tUse ++ joinOf t.us)) : numsAt W i bUse 255 = some t.us := by
    unfold numsAt valAt
    rw [hi, tUse_is, Option.bind_some, named_is _ _ noUse, Option.bind_some]
    exact nums_join_most hu (fun x hx => by have := s6 x hx; omega) (by omega)
  have fin (ch us : List Int) (h1 : ch = t.ch) (h2 : us = t.us) : (⟨(t.id.toNat : Int), (t.c.toNat : Int), (t.d.toNat : Int), (t.t.toNat : Int), (t.p.toNat : Int), ch, us⟩ : Tk) = t := by
    subst h1 h2
    obtain ⟨a1, a2, a3, a4, a5, a6, a7⟩ := t
    simp only [] at s1 s2 s3 s4 ⊢
    rw [Int.toNat_of_nonneg (by omega), Int.toNat_of_nonneg (by omega), Int.toNat_of_nonneg (by omega), Int.toNat_of_nonneg (by omega), Int.toNat_of_nonneg (by omega)]
  by_cases hc : t.ch = []
  · have z1 : chZ t = [] := by unfold chZ; rw [if_pos hc]
    by_cases hu : t.us = []
    · have z2 : usZ t = [] := by unfold usZ; rw [if_pos hu]
      have v6 : wordAt W 6 = none := by rw [wA, tx6 0, z1, z2]; rfl
      have q1 : chAt W = none := by unfold chAt numsAt valAt; rw [v6]; rfl
      have q2 : plus1 W = 6 := by unfold plus1; rw [q1]; rfl
      have q3 : usAt W = none := by unfold usAt numsAt valAt; rw [q2, v6]; rfl
      have q4 : plus2 W = 6 := by unfold plus2; rw [q3, q2]; rfl
      rw [line_ok w0 w1 w2 w3 w4 w5 (by rw [q4, hl, tl, z1, z2]; simp), q1, q3, fin _ _ (show (none : Option (List Int)).getD [] = t.ch from hc.symm) (show (none : Option (List Int)).getD [] = t.us from hu.symm)]
    · have z2 : usZ t = [tUse ++ joinOf t.us] := by unfold usZ; rw [if_neg hu]
      have v6 : wordAt W 6 = some (tUse ++ joinOf t.us) := by rw [wA, tx6 0, z1, z2]; rfl
      have q1 : chAt W = none := by
        unfold chAt numsAt valAt
        rw [v6, tUse_is, Option.bind_some, named_not _ _ _ noUse use_chunks, Option.bind_none]
      have q2 : plus1 W = 6 := by unfold plus1; rw [q1]; rfl
      have q3 : usAt W = some t.us := by unfold usAt; rw [q2]; exact wU 6 hu v6
      have q4 : plus2 W = 7 := by unfold plus2; rw [q3, q2]; rfl
      rw [line_ok w0 w1 w2 w3 w4 w5 (by rw [q4, hl, tl, z1, z2]; simp), q1, q3, fin _ _ (show (none : Option (List Int)).getD [] = t.ch from hc.symm) (show (some t.us).getD [] = t.us from rfl)]
  · have z1 : chZ t = [tChunks ++ joinOf t.ch] := by unfold chZ; rw [if_neg hc]
    have v6 : wordAt W 6 = some (tChunks ++ joinOf t.ch) := by rw [wA, tx6 0, z1]; rfl
    have q1 : chAt W = some t.ch := by
      unfold chAt numsAt valAt
      rw [v6, tChunks_is, Option.bind_some, named_is _ _ noChunks, Option.bind_some]
      exact nums_join_most hc (fun x hx => by have := s5 x hx; omega) (by omega)
    have q2 : plus1 W = 7 := by unfold plus1; rw [q1]; rfl
    by_cases hu : t.us = []
    · have z2 : usZ t = [] := by unfold usZ; rw [if_pos hu]
      have v7 : wordAt W 7 = none := by rw [wA, tx6 1, z1, z2]; rfl
      have q3 : usAt W = none := by unfold usAt numsAt valAt; rw [q2, v7]; rfl
      have q4 : plus2 W = 7 := by unfold plus2; rw [q3, q2]; rfl
      rw [line_ok w0 w1 w2 w3 w4 w5 (by rw [q4, hl, tl, z1, z2]; simp), q1, q3, fin _ _ (show (some t.ch).getD [] = t.ch from rfl) (show (none : Option (List Int)).getD [] = t.us from hu.symm)]
    · have z2 : usZ t = [tUse ++ joinOf t.us] := by unfold usZ; rw [if_neg hu]
      have v7 : wordAt W 7 = some (tUse ++ joinOf t.us) := by rw [wA, tx6 1, z1, z2]; rfl
      have q3 : usAt W = some t.us := by unfold usAt; rw [q2]; exact wU 7 hu v7
      have q4 : plus2 W = 8 := by unfold plus2; rw [q3, q2]; rfl
      rw [line_ok w0 w1 w2 w3 w4 w5 (by rw [q4, hl, tl, z1, z2]; simp), q1, q3, fin _ _ (show (some t.ch).getD [] = t.ch from rfl) (show (some t.us).getD [] = t.us from rfl)]
theorem cache_tx {W : List WV} {S R : Int} (hW : W.map WV.tx = cacheTx S R) (hS : 0 ≤ S ∧ S ≤ 256) (hR : 0 ≤ R ∧ R ≤ 1000) : cacheOf W = .ok (S.toNat, R.toNat) := by
  have wA : ∀ i, wordAt W i = (cacheTx S R)[i]? := fun i => by rw [wordAt_tx, hW]
  have hl : W.length = 3 := by
    have := congrArg List.length hW
    rwa [List.length_map] at this
  have e1 : setsOf W = some S.toNat := by unfold setsOf; rw [wA, show (cacheTx S R)[1]? = some (digOf S) from rfl]; exact num_dig hS.1 hS.2 (by omega)
  have e2 : relOf W = some R.toNat := by unfold relOf; rw [wA, show (cacheTx S R)[2]? = some (digOf R) from rfl]; exact num_dig hR.1 hR.2 (by omega)
  unfold cacheOf
  rw [if_neg (by rw [wA]; exact fun q => q rfl), e1, e2]
  simp only []
  rw [if_neg (by omega)]
theorem first_front {s : Int} : ∀ (L M : List TV) (last : Int) (seen : List Int), firstOf s last seen (L ++ M) = 0 → firstOf s last seen L = 0
  | [], _, _, _, _ => rfl
  | x :: L, M, last, seen, h => by
    rw [List.cons_append, firstOf] at h
    rw [firstOf]
    split at h
    · rename_i c; exact absurd h c
    · rename_i c
      rw [if_neg c]
      split at h
      · cases h
      · rename_i c2
        rw [if_neg c2]
        split at h
        · cases h
        · rename_i c3
          rw [if_neg c3]
          exact first_front L M _ _ h
theorem check_front {S R : Int} {a b : List Tk} (h : checkT S R (a ++ b) = 0) (ha : a ≠ []) : checkT S R a = 0 := by
  have q := check_pass h
  have q0 := q.first
  have q1 := q.most
  rw [List.map_append] at q0
  rw [List.length_map, List.length_append] at q1
  have hp := List.length_pos_iff.2 ha
  have nb : ¬ sysBad S R (a.map Tk.tv) := by unfold sysBad; rw [List.length_map]; have := q.s; have := q.r; omega
  unfold checkT checkOf
  rw [if_neg nb, if_neg (by rw [List.length_map]; omega)]
  exact first_front _ _ _ _ q0
theorem tail_tk {S R : Int} : ∀ (l : List Tk) (acc : List Tk) (L : List (List WV)), L.map (·.map WV.tx) = l.map tkTx → (∀ t ∈ l, rightOf t.tv 256 = 0) → (l ≠ [] → checkT S R (acc ++ l) = 0) → tailOf S R acc L = .ok (acc ++ l)
  | [], acc, [], _, _, _ => by rw [tailOf, List.append_nil]
  | [], _, _ :: _, h, _, _ => by cases h
  | _ :: _, _, [], h, _, _ => by cases h
  | t :: l, acc, W :: L, h, hr, hc => by
    rw [List.map_cons, List.map_cons, List.cons.injEq] at h
    have e : acc ++ t :: l = (acc ++ [t]) ++ l := by simp
    have hc' := hc (by simp)
    rw [e] at hc'
    rw [tailOf, line_tk h.1 (hr t (List.mem_cons_self ..))]
    simp only []
    rw [if_pos (check_front hc' (by simp)), e]
    exact tail_tk l _ L h.2 (fun x hx => hr x (List.mem_cons_of_mem _ hx)) (fun _ => hc')
theorem check_all {S R : Int} {l : List Tk} (h : checkT S R l = 0) : ∀ t ∈ l, rightOf t.tv 256 = 0 := fun t ht => right_up ((check_pass h).all t.tv (List.mem_map_of_mem ht)) (check_pass h).s.2
/-- The printed text says its system. -/
theorem parse_print {S R : Int} {l : List Tk} (h : checkT S R l = 0) : parseOf (printText S R l) = .ok (S.toNat, R.toNat, l) := by
  have q := check_pass h
  have hl : (linesOf (printText S R l)).map (·.map WV.tx) = cacheTx S R :: l.map tkTx := by rw [lines_tx, text_lines h]
  have hp : l ≠ [] := fun e => by have := q.pos; rw [e] at this; simp at this
  unfold parseOf
  cases z : linesOf (printText S R l) with
  | nil => rw [z] at hl; cases hl
  | cons W L =>
    rw [z, List.map_cons, List.cons.injEq] at hl
    simp only []
    rw [cache_tx hl.1 q.s q.r]
    simp only []
    have e1 : ((S.toNat : Nat) : Int) = S := Int.toNat_of_nonneg q.s.1
    have e2 : ((R.toNat : Nat) : Int) = R := Int.toNat_of_nonneg q.r.1
    rw [e1, e2, tail_tk l [] L hl.2 (check_all h) (fun _ => h), List.nil_append]
    cases l with
    | nil => exact absurd rfl hp
    | cons t l => rfl
end Go.Proofs.YtlpffgmfgkleiaaDoor
