/- Texts of this claim, put together: COpen2, EDef, CArr, CPl, FHold, KW16, KW7, KW8, KW4. -/
import Derived.Test.YtlglncnhhgofoaaM3
set_option linter.unusedVariables false
set_option linter.unusedSimpArgs false

/-
  Rows of pairs that came in, opened.
-/
namespace Go.Proofs.Ytlglncnhhgofoaa
open Go.ChangeShapes Go.WideShapes Go.ChangeAt Go.RowKit

/-- A row of pairs. -/
structure Pairs (W : World) (a : Option Addr) (n : Nat) (l : Nat → Int × Int) : Prop where
  small : (n : Int) ≤ 9223372036854775807
  at_ : ∀ k, k < n → ∃ g o, a = some ⟨g, o, none⟩ ∧ W.cell? ⟨g, o + k * 2, none⟩ = some (.int .i64 (l k).1) ∧ W.cell? ⟨g, o + k * 2 + 1, none⟩ = some (.int .i64 (l k).2)
  wf : ∀ k, k < n → I64 (l k).1 ∧ I64 (l k).2
section
variable {H : Type} {enc : TypeId × Value → H} {W : World} {base : Nat} {spare : Nat → Bool} {held : Bool}
set_option maxRecDepth 100000 in
theorem open_pairs {r : Reach} {b0 : Nat} {v : Value} {d : DataW H} {p : List MemPlace} (hv : Value.okWide Try.prog W r b0 41 v) (h : DataW.Trod enc Try.prog W base spare held 41 v d p) :
    ∃ (a : Option Addr) (n c : Nat) (l : Nat → Int × Int), v = .slice a n c ∧ Pairs W a n l := by
  obtain ⟨a0, len, cap, rfl⟩ := okWide_slice Try.underlying41 hv
  refine ⟨a0, len, cap, ?_⟩
  obtain ⟨fuel, hf⟩ := h
  have k1 : Try.prog.cellsOf 3 = 1 := by kernel_rfl
  have k2 : Try.prog.cellsOf 52 = 2 := by kernel_rfl
  have hf : DataW.trod enc Try.prog W base spare held fuel 41 [.slice a0 len cap] = some (d, p) := by simpa [Value.cells] using hf
  rcases Go.Deep.open_slice Try.underlying41 hf with ⟨hcs, _⟩ | ⟨a, len', cap', m, n, D, Pl, hcs, hb, hl, hm, hmm, hx, hi⟩
  · simp at hcs
    obtain ⟨rfl, rfl, rfl⟩ := hcs
    exact ⟨fun _ => (0, 0), rfl, by omega, fun k hk => absurd hk (Nat.not_lt_zero _), fun k hk => absurd hk (Nat.not_lt_zero _)⟩
  · simp at hcs
    obtain ⟨rfl, rfl, rfl⟩ := hcs
    have hlm : len ≤ m := by rw [hmm]; split <;> omega
    obtain ⟨O, hO⟩ := Go.Deep.choose_lt (n := len) (p := fun i (o : Int × Int) => (I64 o.1 ∧ I64 o.2) ∧ W.cell? (a.add (i * 2)) = some (.int .i64 o.1) ∧ W.cell? (a.add (i * 2 + 1)) = some (.int .i64 o.2)) (fun i hil => by
      obtain ⟨cs, hc, htr⟩ := hi i (by omega)
      rw [k2] at hc
      obtain ⟨_, hcl, hat⟩ := World.cells?_some hc
      obtain ⟨ys, m', _, _, hlen, hyl, hall⟩ := DataW.trod_array Try.underlying52 htr
      rw [k1] at hall
      match cs, hcl, ys, hyl with
      | [v0, v1], _, [y0, y1], _ =>
        have t0 : DataW.trod enc Try.prog W base spare held m' 3 [v0] = some y0 := by have q := hall 0 (by omega); simpa using q
        have t1 : DataW.trod enc Try.prog W base spare held m' 3 [v1] = some y1 := by have q := hall 1 (by omega); simpa using q
        obtain ⟨n0, e0, _, w0⟩ := DataW.trod_int Try.underlying3 t0
        obtain ⟨n1, e1, _, w1⟩ := DataW.trod_int Try.underlying3 t1
        simp at e0 e1
        subst e0 e1
        have c0 := hat 0 (by omega)
        have c1 := hat 1 (by omega)
        rw [Go.Deep.add_add] at c0 c1
        exact ⟨(n0, n1), ⟨i64_of_wf w0, i64_of_wf w1⟩, c0, c1⟩)
    refine ⟨O, rfl, by unfold maxLen at hm; omega, fun k hk => ?_, fun k hk => (hO k hk).1⟩
    obtain ⟨_, c0, c1⟩ := hO k hk
    have z0 := (hO 0 (by omega)).2.1
    rcases a with ⟨b, off, spot⟩
    have hs : spot = none := by
      cases spot with
      | none => rfl
      | some s => simp [World.cell?, Addr.add] at z0; split at z0 <;> simp at z0
    subst hs
    rw [addr_at] at c0 c1
    exact ⟨b, off, rfl, c0, c1⟩
set_option maxRecDepth 100000 in
theorem Pairs.below {w w' : World} {a : Option Addr} {n : Nat} {l : Nat → Int × Int} (h : Pairs w a n l) (hb : Below w.heap.size w w') : Pairs w' a n l :=
  ⟨h.small, fun k hk => by obtain ⟨g, o, e, c0, c1⟩ := h.at_ k hk; exact ⟨g, o, e, kept_cell hb c0, kept_cell hb c1⟩, h.wf⟩
end
end Go.Proofs.Ytlglncnhhgofoaa

/-
  Which sets a job's ticks use: plain numbers, no program in this text.
-/
namespace Go.Proofs.Ytlglncnhhgofoaa
open Go.RowKit

/-- The set that tick k uses; below 0: none. -/
def useI (us : List Int) (k : Nat) : Int := us.getD (k % us.length) (-1)
/-- What the ticks from a on, below b, use. -/
def inP (us : List Int) (a b : Nat) (x : Nat) : Bool := (List.range b).any fun k => decide (a ≤ k) && decide (useI us k = (x : Int))
theorem inP_iff {us : List Int} {a b x : Nat} : inP us a b x = true ↔ ∃ k, a ≤ k ∧ k < b ∧ useI us k = (x : Int) := by
  unfold inP
  rw [List.any_eq_true]
  constructor
  · rintro ⟨k, h1, h2⟩
    rw [Bool.and_eq_true, decide_eq_true_eq, decide_eq_true_eq] at h2
    exact ⟨k, h2.1, List.mem_range.1 h1, h2.2⟩
  · rintro ⟨k, h1, h2, h3⟩
    exact ⟨k, List.mem_range.2 h2, by rw [decide_eq_true h1, decide_eq_true h3]; rfl⟩
/-- What the ticks of a row use. -/
def tkP (us : List Int) (l : List Nat) (x : Nat) : Bool := l.any fun k => decide (useI us k = (x : Int))
theorem tkP_iff {us : List Int} {l : List Nat} {x : Nat} : tkP us l x = true ↔ ∃ k, k ∈ l ∧ useI us k = (x : Int) := by
  unfold tkP
  rw [List.any_eq_true]
  constructor
  · rintro ⟨k, h1, h2⟩; exact ⟨k, h1, of_decide_eq_true h2⟩
  · rintro ⟨k, h1, h2⟩; exact ⟨k, h1, decide_eq_true h2⟩
theorem bool_ext {a b : Bool} (h : a = true ↔ b = true) : a = b := by
  cases a <;> cases b <;> simp at h <;> rfl
theorem tkP_snoc (us : List Int) (l : List Nat) (k : Nat) : tkP us (l ++ [k]) = orP (tkP us l) (oneP (useI us k)) := by
  funext x
  apply bool_ext
  unfold orP oneP
  rw [tkP_iff, Bool.or_eq_true, tkP_iff, decide_eq_true_eq]
  constructor
  · rintro ⟨j, hj, e⟩
    rcases List.mem_append.1 hj with h | h
    · exact .inl ⟨j, h, e⟩
    · rw [List.mem_singleton] at h; subst h; exact .inr e.symm
  · rintro (⟨j, hj, e⟩ | e)
    · exact ⟨j, List.mem_append_left _ hj, e⟩
    · exact ⟨k, by simp, e.symm⟩
theorem tkP_nil (us : List Int) : tkP us [] = noneP := rfl
/-- The rows that grow: what the first 0, 1, 2 .. ticks of a row use. -/
def rowsOf (us : List Int) (l : List Nat) : List (Nat → Bool) := (List.range (l.length + 1)).map fun j => tkP us (l.take j)
theorem rows_len (us : List Int) (l : List Nat) : (rowsOf us l).length = l.length + 1 := by unfold rowsOf; simp
theorem rows_at (us : List Int) (l : List Nat) {j : Nat} (h : j ≤ l.length) : (rowsOf us l)[j]? = some (tkP us (l.take j)) := by
  unfold rowsOf
  rw [List.getElem?_map, List.getElem?_range (by omega)]; rfl
theorem rows_nil (us : List Int) : rowsOf us [] = [noneP] := rfl
theorem rows_snoc (us : List Int) (l : List Nat) (k : Nat) : rowsOf us (l ++ [k]) = rowsOf us l ++ [tkP us (l ++ [k])] := by
  unfold rowsOf
  rw [List.length_append, List.length_singleton, List.range_succ, List.map_append]
  congr 1
  · apply List.map_congr_left
    intro j hj
    rw [List.take_append_of_le_length (by have := List.mem_range.1 hj; omega)]
  · simp only [List.map_cons, List.map_nil]
    rw [List.take_of_length_le (by simp)]

/-- The ticks from 0 on; the ticks below C, the last one first. -/
def upT (m : Nat) : List Nat := List.range m
def downT (C m : Nat) : List Nat := (List.range m).map fun i => C - 1 - i
theorem upT_len (m : Nat) : (upT m).length = m := by unfold upT; simp
theorem downT_len (C m : Nat) : (downT C m).length = m := by unfold downT; simp
theorem upT_succ (m : Nat) : upT (m + 1) = upT m ++ [m] := List.range_succ
theorem downT_succ (C m : Nat) : downT C (m + 1) = downT C m ++ [C - 1 - m] := by unfold downT; rw [List.range_succ, List.map_append]; rfl
theorem upT_take (m j : Nat) (h : j ≤ m) : (upT m).take j = upT j := by unfold upT; rw [List.take_range]; congr 1; omega
theorem downT_take (C m j : Nat) (h : j ≤ m) : (downT C m).take j = downT C j := by unfold downT; rw [← List.map_take, List.take_range]; congr 2; omega
theorem useI_mod (us : List Int) {a b : Nat} (h : a % us.length = b % us.length) : useI us a = useI us b := by unfold useI; rw [h]
theorem useI_nil (k : Nat) : useI [] k = -1 := by unfold useI; simp
theorem inP_nil (a b x : Nat) : inP [] a b x = false := by
  rw [Bool.eq_false_iff]
  intro h
  obtain ⟨k, _, _, e⟩ := inP_iff.1 h
  rw [useI_nil] at e; omega
theorem tkP_none (l : List Nat) (x : Nat) : tkP [] l x = false := by
  rw [Bool.eq_false_iff]
  intro h
  obtain ⟨k, _, e⟩ := tkP_iff.1 h
  rw [useI_nil] at e; omega
/-- What is used ahead of a place is used within one round. -/
theorem up_all (us : List Int) (m : Nat) : tkP us (upT (min m us.length)) = inP us 0 m := by
  funext x
  rcases Nat.eq_zero_or_pos us.length with h0 | h0
  · obtain rfl := List.length_eq_zero_iff.1 h0
    rw [tkP_none, inP_nil]
  apply bool_ext
  rw [tkP_iff, inP_iff]
  unfold upT
  constructor
  · rintro ⟨k, hk, e⟩
    have := List.mem_range.1 hk
    exact ⟨k, by omega, by omega, e⟩
  · rintro ⟨k, _, hk, e⟩
    have h1 := Nat.mod_lt k h0
    have h2 := Nat.mod_le k us.length
    exact ⟨k % us.length, List.mem_range.2 (by omega), by rw [← e]; exact useI_mod us (Nat.mod_mod _ _)⟩
/-- What is used behind a place is used within the last round. -/
theorem down_all (us : List Int) (C a : Nat) (ha : a ≤ C) : tkP us (downT C (min (C - a) us.length)) = inP us a C := by
  funext x
  rcases Nat.eq_zero_or_pos us.length with h0 | h0
  · obtain rfl := List.length_eq_zero_iff.1 h0
    rw [tkP_none, inP_nil]
  apply bool_ext
  rw [tkP_iff, inP_iff]
  unfold downT
  constructor
  · rintro ⟨k, hk, e⟩
    obtain ⟨i, hi, rfl⟩ := List.mem_map.1 hk
    have := List.mem_range.1 hi
    exact ⟨C - 1 - i, by omega, by omega, e⟩
  · rintro ⟨k, h1, hk, e⟩
    obtain ⟨d, hd⟩ : ∃ d, d = C - 1 - k := ⟨_, rfl⟩
    have h2 := Nat.mod_lt d h0
    have h3 := Nat.mod_le d us.length
    have h4 := Nat.div_add_mod d us.length
    refine ⟨C - 1 - d % us.length, List.mem_map.2 ⟨d % us.length, List.mem_range.2 (by omega), rfl⟩, ?_⟩
    rw [← e]
    apply useI_mod
    rw [show C - 1 - d % us.length = k + us.length * (d / us.length) by omega, Nat.add_mul_mod_self_left]

theorem inP_or (us : List Int) {a b c : Nat} (h1 : a ≤ b) (h2 : b ≤ c) : orP (inP us a b) (inP us b c) = inP us a c := by
  funext x
  apply bool_ext
  unfold orP
  rw [Bool.or_eq_true, inP_iff, inP_iff, inP_iff]
  constructor
  · rintro (⟨k, p, q, e⟩ | ⟨k, p, q, e⟩)
    · exact ⟨k, p, by omega, e⟩
    · exact ⟨k, by omega, q, e⟩
  · rintro ⟨k, p, q, e⟩
    rcases Nat.lt_or_ge k b with g | g
    · exact .inl ⟨k, p, g, e⟩
    · exact .inr ⟨k, g, q, e⟩
theorem inP_empty (us : List Int) {a b : Nat} (h : b ≤ a) : inP us a b = noneP := by
  funext x
  unfold noneP
  rw [Bool.eq_false_iff]
  intro q
  obtain ⟨k, p1, p2, _⟩ := inP_iff.1 q
  omega
theorem inP_mono (us : List Int) {a b a' b' : Nat} (h1 : a' ≤ a) (h2 : b ≤ b') {x : Nat} (h : inP us a b x = true) : inP us a' b' x = true := by
  obtain ⟨k, p, q, e⟩ := inP_iff.1 h
  exact inP_iff.2 ⟨k, by omega, by omega, e⟩
theorem inP_next (us : List Int) (b : Nat) {a : Nat} (h : a ≤ b) : inP us a (b + 1) = orP (inP us a b) (oneP (useI us b)) := by
  rw [← inP_or us h (Nat.le_succ b)]
  funext x
  unfold orP
  congr 1
  apply bool_ext
  unfold oneP
  rw [inP_iff, decide_eq_true_eq]
  constructor
  · rintro ⟨k, p, q, e⟩
    obtain rfl : k = b := by omega
    exact e.symm
  · intro e
    exact ⟨b, by omega, by omega, e.symm⟩
theorem inP_first (us : List Int) {a b : Nat} (h : a < b) : inP us a b = orP (inP us (a + 1) b) (oneP (useI us a)) := by
  rw [← inP_or us (Nat.le_succ a) (show a + 1 ≤ b by omega)]
  funext x
  unfold orP
  rw [Bool.or_comm]
  congr 1
  apply bool_ext
  unfold oneP
  rw [inP_iff, decide_eq_true_eq]
  constructor
  · rintro ⟨k, p, q, e⟩
    obtain rfl : k = a := by omega
    exact e.symm
  · intro e
    exact ⟨a, by omega, by omega, e.symm⟩
/-- Behind one round all has been used. -/
theorem inP_round (us : List Int) {b b' : Nat} (h : us.length ≤ b) (h' : us.length ≤ b') : inP us 0 b = inP us 0 b' := by
  rw [← up_all us b, ← up_all us b']
  congr 2
  omega

/-! ### how many -/
theorem cntN_mono {p q : Nat → Bool} : ∀ {n : Nat}, (∀ x, x < n → p x = true → q x = true) → cntN p n ≤ cntN q n
  | 0, _ => Nat.le_refl _
  | n + 1, h => by
    have ih := cntN_mono (p := p) (q := q) (n := n) (fun x hx => h x (by omega))
    have h1 := h n (by omega)
    simp only [cntN]
    cases hp : p n <;> cases hq : q n <;> simp [hp, hq] at h1 ⊢ <;> omega
theorem cntN_or (p q : Nat → Bool) : ∀ n : Nat, cntN (orP p q) n ≤ cntN p n + cntN q n
  | 0 => Nat.le_refl _
  | n + 1 => by
    have ih := cntN_or p q n
    simp only [cntN]
    unfold orP at ih ⊢
    cases hp : p n <;> cases hq : q n <;> simp <;> omega
theorem cntN_same {p q : Nat → Bool} : ∀ {n : Nat}, (∀ x, x < n → p x = q x) → cntN p n = cntN q n
  | 0, _ => rfl
  | n + 1, h => by
    simp only [cntN]
    rw [cntN_same (n := n) (fun x hx => h x (by omega)), h n (by omega)]
theorem cntN_one (v : Int) : ∀ n : Nat, cntN (oneP v) n ≤ 1 ∧ ((n : Int) ≤ v → cntN (oneP v) n = 0)
  | 0 => ⟨by simp [cntN], fun _ => rfl⟩
  | n + 1 => by
    obtain ⟨h1, h2⟩ := cntN_one v n
    simp only [cntN]
    unfold oneP at h1 h2 ⊢
    by_cases e : (n : Int) = v
    · have h0 := h2 (by omega)
      rw [h0]
      refine ⟨by simp [e], fun h => by omega⟩
    · rw [decide_eq_false e]
      exact ⟨by simpa using h1, fun h => by simpa using h2 (by omega)⟩

/-! ### the most -/
/-- Of the places from 1 to k the first one with the most, and how many these are. -/
def best (f : Nat → Nat) : Nat → Nat × Nat
  | 0 => (0, 0)
  | k + 1 => if (best f k).1 < f (k + 1) then (f (k + 1), k + 1) else best f k
theorem best_ge (f : Nat → Nat) : ∀ {k p : Nat}, 1 ≤ p → p ≤ k → f p ≤ (best f k).1
  | 0, p, h1, h2 => by omega
  | k + 1, p, h1, h2 => by
    unfold best
    by_cases e : p = k + 1
    · subst e; split
      · exact Nat.le_refl _
      · omega
    · have := best_ge f (k := k) h1 (by omega)
      split
      · dsimp only; omega
      · exact this
theorem best_at (f : Nat → Nat) : ∀ (k : Nat), ((best f k).1 = 0 ∧ (best f k).2 = 0) ∨ (0 < (best f k).1 ∧ 1 ≤ (best f k).2 ∧ (best f k).2 ≤ k ∧ f (best f k).2 = (best f k).1 ∧ ∀ p, 1 ≤ p → p < (best f k).2 → f p < (best f k).1)
  | 0 => .inl ⟨rfl, rfl⟩
  | k + 1 => by
    have ih := best_at f k
    unfold best
    split
    · right
      rename_i h
      refine ⟨by dsimp only; omega, by dsimp only; omega, Nat.le_refl _, rfl, fun p h1 h2 => ?_⟩
      dsimp only at h2 ⊢
      exact Nat.lt_of_le_of_lt (best_ge f h1 (by omega)) h
    · rcases ih with h | ⟨a, b, c, d, e⟩
      · exact .inl h
      · exact .inr ⟨a, b, by omega, d, e⟩
theorem best_mono {f g : Nat → Nat} {k : Nat} (h : ∀ p, 1 ≤ p → p ≤ k → f p ≤ g p) : (best f k).1 ≤ (best g k).1 := by
  rcases best_at f k with ⟨a, _⟩ | ⟨_, b, c, d, _⟩
  · omega
  · rw [← d]
    exact Nat.le_trans (h _ b c) (best_ge g b c)
theorem best_add {f g h : Nat → Nat} {k : Nat} (hh : ∀ p, 1 ≤ p → p ≤ k → h p ≤ f p + g p) : (best h k).1 ≤ (best f k).1 + (best g k).1 := by
  rcases best_at h k with ⟨a, _⟩ | ⟨_, b, c, d, _⟩
  · omega
  · rw [← d]
    have h1 := hh _ b c
    have h2 := best_ge f b c
    have h3 := best_ge g b c
    omega
theorem best_le {f : Nat → Nat} {k m : Nat} (h : ∀ p, 1 ≤ p → p ≤ k → f p ≤ m) : (best f k).1 ≤ m := by
  rcases best_at f k with ⟨a, _⟩ | ⟨_, b, c, d, _⟩
  · omega
  · rw [← d]; exact h _ b c

/-- How many of O are useful at a place. -/
def usefulN (us : List Int) (C : Nat) (O : Nat → Bool) (p : Nat) : Nat := cntN (andP (andP (inP us 0 p) (inP us p C)) O) 256
/-- What most tells. -/
def mostOf (us : List Int) (C : Nat) (O : Nat → Bool) : Nat × Nat := best (usefulN us C O) (min (C - 1) us.length)
theorem usefulN_far (us : List Int) {C p : Nat} (O : Nat → Bool) (h : us.length ≤ p) (hC : p < C) (h1 : 1 ≤ p) : usefulN us C O p ≤ (mostOf us C O).1 := by
  rcases Nat.eq_zero_or_pos us.length with h0 | h0
  · obtain rfl := List.length_eq_zero_iff.1 h0
    have : usefulN [] C O p = cntN noneP 256 := cntN_same fun x _ => by unfold andP noneP; rw [inP_nil]; rfl
    rw [this]
    have h2 : ∀ n, cntN noneP n = 0 := by
      intro n
      induction n with
      | zero => rfl
      | succ n ih => simp [cntN, noneP, ih]
    rw [h2]; omega
  · unfold mostOf
    refine Nat.le_trans (m := usefulN us C O us.length) ?_ (best_ge _ h0 (by omega))
    refine cntN_mono fun x _ hx => ?_
    unfold andP at hx ⊢
    rw [Bool.and_eq_true, Bool.and_eq_true] at hx ⊢
    exact ⟨⟨by rw [inP_round us (Nat.le_refl _) h]; exact hx.1.1, inP_mono us h (Nat.le_refl _) hx.1.2⟩, hx.2⟩
theorem most_ge (us : List Int) {C p : Nat} (O : Nat → Bool) (h1 : 1 ≤ p) (hC : p < C) : usefulN us C O p ≤ (mostOf us C O).1 := by
  rcases Nat.lt_or_ge p us.length with h | h
  · exact best_ge _ h1 (by omega)
  · exact usefulN_far us O h hC h1
theorem usefulN_le (us : List Int) (C : Nat) (O : Nat → Bool) (p : Nat) : usefulN us C O p ≤ 256 := cntN_le _ _
theorem most_le (us : List Int) (C : Nat) (O : Nat → Bool) : (mostOf us C O).1 ≤ 256 := best_le fun p _ _ => usefulN_le us C O p

theorem access_use (x : TV) (k : Nat) (hu : x.us ≠ []) : accOf x (k : Int) = (useI x.us k, true) := by
  unfold accOf useI
  rw [if_neg (by omega)]
  have h0 : 0 < x.us.length := List.length_pos_iff.2 hu
  have e : ((k : Int) % x.us.length).toNat = k % x.us.length := by omega
  have hl := Nat.mod_lt k h0
  rw [e, List.getD_eq_getElem?_getD, List.getElem?_eq_getElem hl]
  simp [hu]
end Go.Proofs.Ytlglncnhhgofoaa

/-
  Rows of works, in a box.
-/
namespace Go.Proofs.Ytlglncnhhgofoaa
open Go.RowKit Go.Maps

instance : Inhabited WK := ⟨⟨0, 0, 0, 0, fun _ => false⟩⟩
def WK.cells (k : WK) : List Value := [.int .i64 k.dn, .int .i64 k.dm, .int .i64 k.db, .int .i64 k.rl, .int .u64 (wd k.sn 0), .int .u64 (wd k.sn 1), .int .u64 (wd k.sn 2), .int .u64 (wd k.sn 3)]
/-- A row of m works. -/
def Arr (T : TypeId) (w : World) (g m : Nat) (f : Nat → WK) : Prop :=
  ∃ cur : Array Value, w.heap[g]? = some (.cells cur T (0, 0)) ∧ cur.size = m * 8 ∧ ∀ k, k < m → ∀ j u, (f k).cells[j]? = some u → cur[k * 8 + j]? = some u
theorem Arr.lt {T : TypeId} {w : World} {g m : Nat} {f : Nat → WK} (h : Arr T w g m f) : g < w.heap.size := let ⟨_, hb, _⟩ := h; lt_of_block hb
theorem Arr.free {T : TypeId} {w : World} {g m : Nat} {f : Nat → WK} (h : Arr T w g m f) (o : Nat) : w.frozen? ⟨g, o, none⟩ = false := let ⟨_, hb, _⟩ := h; blk_free hb o
theorem Arr.cells {T : TypeId} {w : World} {g m : Nat} {f : Nat → WK} (h : Arr T w g m f) {k : Nat} (hk : k < m) : w.cell? ⟨g, k * 8, none⟩ = some (.int .i64 (f k).dn) ∧ w.cell? ⟨g, k * 8 + 1, none⟩ = some (.int .i64 (f k).dm) ∧ w.cell? ⟨g, k * 8 + 2, none⟩ = some (.int .i64 (f k).db) ∧ w.cell? ⟨g, k * 8 + 3, none⟩ = some (.int .i64 (f k).rl) ∧ w.cell? ⟨g, k * 8 + 4, none⟩ = some (.int .u64 (wd (f k).sn 0)) ∧ w.cell? ⟨g, k * 8 + 5, none⟩ = some (.int .u64 (wd (f k).sn 1)) ∧ w.cell? ⟨g, k * 8 + 6, none⟩ = some (.int .u64 (wd (f k).sn 2)) ∧ w.cell? ⟨g, k * 8 + 7, none⟩ = some (.int .u64 (wd (f k).sn 3)) := by
  obtain ⟨cur, hb, _, hc⟩ := h
  refine ⟨?_, ?_, ?_, ?_, ?_, ?_, ?_, ?_⟩ <;> rw [blk_cell hb]
  · exact hc k hk 0 _ rfl
  · exact hc k hk 1 _ rfl
  · exact hc k hk 2 _ rfl
  · exact hc k hk 3 _ rfl
  · exact hc k hk 4 _ rfl
  · exact hc k hk 5 _ rfl
  · exact hc k hk 6 _ rfl
  · exact hc k hk 7 _ rfl
theorem Arr.turn {T : TypeId} {S : Nat → Prop} {w w' : World} {g m : Nat} {f : Nat → WK} (h : Arr T w g m f) (ht : Turn S w w') (hn : ¬ S g) : Arr T w' g m f := by
  obtain ⟨cur, hb, h1, h2⟩ := h
  exact ⟨cur, ht.obj hb hn, h1, h2⟩
theorem Arr.below {T : TypeId} {w w' : World} {g m : Nat} {f : Nat → WK} (h : Arr T w g m f) (hb : Below w.heap.size w w') : Arr T w' g m f := h.turn (S := fun _ => False) (Turn.of_below hb) (fun q => q)
theorem Arr.congr {T : TypeId} {w : World} {g m : Nat} {f f' : Nat → WK} (h : Arr T w g m f) (he : ∀ k, k < m → f' k = f k) : Arr T w g m f' := by
  obtain ⟨cur, hb, h1, h2⟩ := h
  exact ⟨cur, hb, h1, fun k hk j u hj => h2 k hk j u (by rw [← he k hk]; exact hj)⟩
def setW (f : Nat → WK) (k : Nat) (x : WK) (i : Nat) : WK := if i = k then x else f i
theorem setW_at (f : Nat → WK) (k : Nat) (x : WK) : setW f k x k = x := if_pos rfl
theorem set8 (cur : Array Value) (b : Nat) (y0 y1 y2 y3 y4 y5 y6 y7 : Value) (hb : b + 8 ≤ cur.size) :
    let c := (((((((cur.setIfInBounds b y0).setIfInBounds (b + 1) y1).setIfInBounds (b + 2) y2).setIfInBounds (b + 3) y3).setIfInBounds (b + 4) y4).setIfInBounds (b + 5) y5).setIfInBounds (b + 6) y6).setIfInBounds (b + 7) y7
    c.size = cur.size ∧ (∀ j u, [y0, y1, y2, y3, y4, y5, y6, y7][j]? = some u → c[b + j]? = some u) ∧ ∀ i, i < b ∨ b + 8 ≤ i → c[i]? = cur[i]? := by
  intro c
  refine ⟨by simp [c], fun j u hj => ?_, fun i hi => ?_⟩
  · match j, hj with
    | 0, hj => simp at hj; subst hj; simp [c, Array.getElem?_setIfInBounds]; omega
    | 1, hj => simp at hj; subst hj; simp [c, Array.getElem?_setIfInBounds]; omega
    | 2, hj => simp at hj; subst hj; simp [c, Array.getElem?_setIfInBounds]; omega
    | 3, hj => simp at hj; subst hj; simp [c, Array.getElem?_setIfInBounds]; omega
    | 4, hj => simp at hj; subst hj; simp [c, Array.getElem?_setIfInBounds]; omega
    | 5, hj => simp at hj; subst hj; simp [c, Array.getElem?_setIfInBounds]; omega
    | 6, hj => simp at hj; subst hj; simp [c, Array.getElem?_setIfInBounds]; omega
    | 7, hj => simp at hj; subst hj; simp [c, Array.getElem?_setIfInBounds]; omega
    | j + 8, hj => simp at hj
  · simp only [c]
    rw [Array.getElem?_setIfInBounds_ne (by omega), Array.getElem?_setIfInBounds_ne (by omega), Array.getElem?_setIfInBounds_ne (by omega), Array.getElem?_setIfInBounds_ne (by omega), Array.getElem?_setIfInBounds_ne (by omega), Array.getElem?_setIfInBounds_ne (by omega), Array.getElem?_setIfInBounds_ne (by omega), Array.getElem?_setIfInBounds_ne (by omega)]
theorem Arr.set {T : TypeId} {w : World} {g m : Nat} {f : Nat → WK} (h : Arr T w g m f) {k : Nat} (hk : k < m) (x : WK) :
    Arr T ((((((((w.setCell ⟨g, k * 8, none⟩ (.int .i64 x.dn)).setCell ⟨g, k * 8 + 1, none⟩ (.int .i64 x.dm)).setCell ⟨g, k * 8 + 2, none⟩ (.int .i64 x.db)).setCell ⟨g, k * 8 + 3, none⟩ (.int .i64 x.rl)).setCell ⟨g, k * 8 + 4, none⟩ (.int .u64 (wd x.sn 0))).setCell ⟨g, k * 8 + 5, none⟩ (.int .u64 (wd x.sn 1))).setCell ⟨g, k * 8 + 6, none⟩ (.int .u64 (wd x.sn 2))).setCell ⟨g, k * 8 + 7, none⟩ (.int .u64 (wd x.sn 3))) g m (setW f k x) := by
  obtain ⟨cur, hb, h1, h2⟩ := h
  have hsz : k * 8 + 8 ≤ cur.size := by rw [h1]; have := Nat.mul_le_mul_right 8 (show k + 1 ≤ m from hk); omega
  obtain ⟨s1, s2, s3⟩ := set8 cur (k * 8) (.int .i64 x.dn) (.int .i64 x.dm) (.int .i64 x.db) (.int .i64 x.rl) (.int .u64 (wd x.sn 0)) (.int .u64 (wd x.sn 1)) (.int .u64 (wd x.sn 2)) (.int .u64 (wd x.sn 3)) hsz
  have b0 : (w.setCell ⟨g, k * 8, none⟩ (.int .i64 x.dn)).heap[g]? = some (.cells (cur.setIfInBounds (k * 8) (.int .i64 x.dn)) T (0, 0)) := blk_set (o := k * 8) hb _
  generalize w.setCell ⟨g, k * 8, none⟩ (.int .i64 x.dn) = w0 at b0 ⊢
  have b1 : (w0.setCell ⟨g, k * 8 + 1, none⟩ (.int .i64 x.dm)).heap[g]? = some (.cells ((cur.setIfInBounds (k * 8) (.int .i64 x.dn)).setIfInBounds (k * 8 + 1) (.int .i64 x.dm)) T (0, 0)) := blk_set (o := k * 8 + 1) b0 _
  generalize w0.setCell ⟨g, k * 8 + 1, none⟩ (.int .i64 x.dm) = w1 at b1 ⊢
  have b2 : (w1.setCell ⟨g, k * 8 + 2, none⟩ (.int .i64 x.db)).heap[g]? = some (.cells (((cur.setIfInBounds (k * 8) (.int .i64 x.dn)).setIfInBounds (k * 8 + 1) (.int .i64 x.dm)).setIfInBounds (k * 8 + 2) (.int .i64 x.db)) T (0, 0)) := blk_set (o := k * 8 + 2) b1 _
  generalize w1.setCell ⟨g, k * 8 + 2, none⟩ (.int .i64 x.db) = w2 at b2 ⊢
  have b3 : (w2.setCell ⟨g, k * 8 + 3, none⟩ (.int .i64 x.rl)).heap[g]? = some (.cells ((((cur.setIfInBounds (k * 8) (.int .i64 x.dn)).setIfInBounds (k * 8 + 1) (.int .i64 x.dm)).setIfInBounds (k * 8 + 2) (.int .i64 x.db)).setIfInBounds (k * 8 + 3) (.int .i64 x.rl)) T (0, 0)) := blk_set (o := k * 8 + 3) b2 _
  generalize w2.setCell ⟨g, k * 8 + 3, none⟩ (.int .i64 x.rl) = w3 at b3 ⊢
  have b4 : (w3.setCell ⟨g, k * 8 + 4, none⟩ (.int .u64 (wd x.sn 0))).heap[g]? = some (.cells (((((cur.setIfInBounds (k * 8) (.int .i64 x.dn)).setIfInBounds (k * 8 + 1) (.int .i64 x.dm)).setIfInBounds (k * 8 + 2) (.int .i64 x.db)).setIfInBounds (k * 8 + 3) (.int .i64 x.rl)).setIfInBounds (k * 8 + 4) (.int .u64 (wd x.sn 0))) T (0, 0)) := blk_set (o := k * 8 + 4) b3 _
  generalize w3.setCell ⟨g, k * 8 + 4, none⟩ (.int .u64 (wd x.sn 0)) = w4 at b4 ⊢
  have b5 : (w4.setCell ⟨g, k * 8 + 5, none⟩ (.int .u64 (wd x.sn 1))).heap[g]? = some (.cells ((((((cur.setIfInBounds (k * 8) (.int .i64 x.dn)).setIfInBounds (k * 8 + 1) (.int .i64 x.dm)).setIfInBounds (k * 8 + 2) (.int .i64 x.db)).setIfInBounds (k * 8 + 3) (.int .i64 x.rl)).setIfInBounds (k * 8 + 4) (.int .u64 (wd x.sn 0))).setIfInBounds (k * 8 + 5) (.int .u64 (wd x.sn 1))) T (0, 0)) := blk_set (o := k * 8 + 5) b4 _
  generalize w4.setCell ⟨g, k * 8 + 5, none⟩ (.int .u64 (wd x.sn 1)) = w5 at b5 ⊢
  have b6 : (w5.setCell ⟨g, k * 8 + 6, none⟩ (.int .u64 (wd x.sn 2))).heap[g]? = some (.cells (((((((cur.setIfInBounds (k * 8) (.int .i64 x.dn)).setIfInBounds (k * 8 + 1) (.int .i64 x.dm)).setIfInBounds (k * 8 + 2) (.int .i64 x.db)).setIfInBounds (k * 8 + 3) (.int .i64 x.rl)).setIfInBounds (k * 8 + 4) (.int .u64 (wd x.sn 0))).setIfInBounds (k * 8 + 5) (.int .u64 (wd x.sn 1))).setIfInBounds (k * 8 + 6) (.int .u64 (wd x.sn 2))) T (0, 0)) := blk_set (o := k * 8 + 6) b5 _
  generalize w5.setCell ⟨g, k * 8 + 6, none⟩ (.int .u64 (wd x.sn 2)) = w6 at b6 ⊢
  have b7 : (w6.setCell ⟨g, k * 8 + 7, none⟩ (.int .u64 (wd x.sn 3))).heap[g]? = some (.cells ((((((((cur.setIfInBounds (k * 8) (.int .i64 x.dn)).setIfInBounds (k * 8 + 1) (.int .i64 x.dm)).setIfInBounds (k * 8 + 2) (.int .i64 x.db)).setIfInBounds (k * 8 + 3) (.int .i64 x.rl)).setIfInBounds (k * 8 + 4) (.int .u64 (wd x.sn 0))).setIfInBounds (k * 8 + 5) (.int .u64 (wd x.sn 1))).setIfInBounds (k * 8 + 6) (.int .u64 (wd x.sn 2))).setIfInBounds (k * 8 + 7) (.int .u64 (wd x.sn 3))) T (0, 0)) := blk_set (o := k * 8 + 7) b6 _
  refine ⟨_, b7, by rw [s1, h1], fun i hi j u hj => ?_⟩
  unfold setW at hj
  by_cases e : i = k
  · subst e
    rw [if_pos rfl] at hj
    exact s2 j u hj
  · rw [if_neg e] at hj
    have hj8 : j < 8 := (List.getElem?_eq_some_iff.1 hj).1
    rw [s3 (i * 8 + j) (by
      rcases Nat.lt_or_gt_of_ne e with q | q
      · left; have := Nat.mul_le_mul_right 8 (show i + 1 ≤ k from q); omega
      · right; have := Nat.mul_le_mul_right 8 (show k + 1 ≤ i from q); omega)]
    exact h2 i hi j u hj
theorem Arr.far {T : TypeId} {w : World} {g m : Nat} {f : Nat → WK} (h : Arr T w g m f) {b o : Nat} (hne : g ≠ b) (v : Value) : Arr T (w.setCell ⟨b, o, none⟩ v) g m f := by
  obtain ⟨cur, hb, h1, h2⟩ := h
  exact ⟨cur, (blk_far (a := ⟨b, o, none⟩) hne v).trans hb, h1, h2⟩
theorem wd_false (k : Nat) : wd (fun _ => false) k = 0 := wd_none k
/-- No work at all. -/
def noWork : WK := ⟨0, 0, 0, 0, fun _ => false⟩
theorem noWork_cells : noWork.cells = [.int .i64 0, .int .i64 0, .int .i64 0, .int .i64 0, .int .u64 0, .int .u64 0, .int .u64 0, .int .u64 0] := by
  unfold WK.cells noWork
  dsimp only
  rw [wd_false, wd_false, wd_false, wd_false]
  rfl
theorem zeros2 (k : Nat) (hk : k < 2) (j : Nat) (u : Value) (hj : noWork.cells[j]? = some u) : (#[Value.int .i64 0, Value.int .i64 0, Value.int .i64 0, Value.int .i64 0, Value.int .u64 0, Value.int .u64 0, Value.int .u64 0, Value.int .u64 0, Value.int .i64 0, Value.int .i64 0, Value.int .i64 0, Value.int .i64 0, Value.int .u64 0, Value.int .u64 0, Value.int .u64 0, Value.int .u64 0] : Array Value)[k * 8 + j]? = some u := by
  rw [noWork_cells] at hj
  match k, hk with
  | 0, _ =>
    match j, hj with
    | 0, hj => exact hj
    | 1, hj => exact hj
    | 2, hj => exact hj
    | 3, hj => exact hj
    | 4, hj => exact hj
    | 5, hj => exact hj
    | 6, hj => exact hj
    | 7, hj => exact hj
    | j + 8, hj => simp at hj
  | 1, _ =>
    match j, hj with
    | 0, hj => exact hj
    | 1, hj => exact hj
    | 2, hj => exact hj
    | 3, hj => exact hj
    | 4, hj => exact hj
    | 5, hj => exact hj
    | 6, hj => exact hj
    | 7, hj => exact hj
    | j + 8, hj => simp at hj
  | k + 2, hk => omega
theorem arr_new2 (T : TypeId) (w : World) : Arr T (w.alloc (.cells #[Value.int .i64 0, Value.int .i64 0, Value.int .i64 0, Value.int .i64 0, Value.int .u64 0, Value.int .u64 0, Value.int .u64 0, Value.int .u64 0, Value.int .i64 0, Value.int .i64 0, Value.int .i64 0, Value.int .i64 0, Value.int .u64 0, Value.int .u64 0, Value.int .u64 0, Value.int .u64 0] T)) w.heap.size 2 (fun _ => noWork) :=
  ⟨_, heap_alloc_new w _, rfl, fun k hk j u hj => zeros2 k hk j u hj⟩
theorem zeros6 (k : Nat) (hk : k < 6) (j : Nat) (u : Value) (hj : noWork.cells[j]? = some u) : (#[Value.int .i64 0, Value.int .i64 0, Value.int .i64 0, Value.int .i64 0, Value.int .u64 0, Value.int .u64 0, Value.int .u64 0, Value.int .u64 0, Value.int .i64 0, Value.int .i64 0, Value.int .i64 0, Value.int .i64 0, Value.int .u64 0, Value.int .u64 0, Value.int .u64 0, Value.int .u64 0, Value.int .i64 0, Value.int .i64 0, Value.int .i64 0, Value.int .i64 0, Value.int .u64 0, Value.int .u64 0, Value.int .u64 0, Value.int .u64 0, Value.int .i64 0, Value.int .i64 0, Value.int .i64 0, Value.int .i64 0, Value.int .u64 0, Value.int .u64 0, Value.int .u64 0, Value.int .u64 0, Value.int .i64 0, Value.int .i64 0, Value.int .i64 0, Value.int .i64 0, Value.int .u64 0, Value.int .u64 0, Value.int .u64 0, Value.int .u64 0, Value.int .i64 0, Value.int .i64 0, Value.int .i64 0, Value.int .i64 0, Value.int .u64 0, Value.int .u64 0, Value.int .u64 0, Value.int .u64 0] : Array Value)[k * 8 + j]? = some u := by
  rw [noWork_cells] at hj
  match k, hk with
  | 0, _ =>
    match j, hj with
    | 0, hj => exact hj
    | 1, hj => exact hj
    | 2, hj => exact hj
    | 3, hj => exact hj
    | 4, hj => exact hj
    | 5, hj => exact hj
    | 6, hj => exact hj
    | 7, hj => exact hj
    | j + 8, hj => simp at hj
  | 1, _ =>
    match j, hj with
    | 0, hj => exact hj
    | 1, hj => exact hj
    | 2, hj => exact hj
    | 3, hj => exact hj
    | 4, hj => exact hj
    | 5, hj => exact hj
    | 6, hj => exact hj
    | 7, hj => exact hj
    | j + 8, hj => simp at hj
  | 2, _ =>
    match j, hj with
    | 0, hj => exact hj
    | 1, hj => exact hj
    | 2, hj => exact hj
    | 3, hj => exact hj
    | 4, hj => exact hj
    | 5, hj => exact hj
    | 6, hj => exact hj
    | 7, hj => exact hj
    | j + 8, hj => simp at hj
  | 3, _ =>
    match j, hj with
    | 0, hj => exact hj
    | 1, hj => exact hj
    | 2, hj => exact hj
    | 3, hj => exact hj
    | 4, hj => exact hj
    | 5, hj => exact hj
    | 6, hj => exact hj
    | 7, hj => exact hj
    | j + 8, hj => simp at hj
  | 4, _ =>
    match j, hj with
    | 0, hj => exact hj
    | 1, hj => exact hj
    | 2, hj => exact hj
    | 3, hj => exact hj
    | 4, hj => exact hj
    | 5, hj => exact hj
    | 6, hj => exact hj
    | 7, hj => exact hj
    | j + 8, hj => simp at hj
  | 5, _ =>
    match j, hj with
    | 0, hj => exact hj
    | 1, hj => exact hj
    | 2, hj => exact hj
    | 3, hj => exact hj
    | 4, hj => exact hj
    | 5, hj => exact hj
    | 6, hj => exact hj
    | 7, hj => exact hj
    | j + 8, hj => simp at hj
  | k + 6, hk => omega
theorem arr_new6 (T : TypeId) (w : World) : Arr T (w.alloc (.cells #[Value.int .i64 0, Value.int .i64 0, Value.int .i64 0, Value.int .i64 0, Value.int .u64 0, Value.int .u64 0, Value.int .u64 0, Value.int .u64 0, Value.int .i64 0, Value.int .i64 0, Value.int .i64 0, Value.int .i64 0, Value.int .u64 0, Value.int .u64 0, Value.int .u64 0, Value.int .u64 0, Value.int .i64 0, Value.int .i64 0, Value.int .i64 0, Value.int .i64 0, Value.int .u64 0, Value.int .u64 0, Value.int .u64 0, Value.int .u64 0, Value.int .i64 0, Value.int .i64 0, Value.int .i64 0, Value.int .i64 0, Value.int .u64 0, Value.int .u64 0, Value.int .u64 0, Value.int .u64 0, Value.int .i64 0, Value.int .i64 0, Value.int .i64 0, Value.int .i64 0, Value.int .u64 0, Value.int .u64 0, Value.int .u64 0, Value.int .u64 0, Value.int .i64 0, Value.int .i64 0, Value.int .i64 0, Value.int .i64 0, Value.int .u64 0, Value.int .u64 0, Value.int .u64 0, Value.int .u64 0] T)) w.heap.size 6 (fun _ => noWork) :=
  ⟨_, heap_alloc_new w _, rfl, fun k hk j u hj => zeros6 k hk j u hj⟩
end Go.Proofs.Ytlglncnhhgofoaa

/-
  What a tick makes of a work, in plain words.
-/
namespace Go.Proofs.Ytlglncnhhgofoaa
open Go.RowKit Go.Maps

theorem wUp_small {x : Int} (h0 : 0 ≤ x) (h1 : x ≤ 4611686018427387904) : wUp x = x + 1 := by unfold wUp; exact IntWalk.i64_in _ (by omega)
/-- One tick of a work that may be stepped. -/
theorem tick_facts {n : Nat} {L : Nat → Int} {id s : Int} {u : Bool} {rel : Int} {k : WK} (hf : Fits id rel k) (h0 : 0 ≤ k.rl) (h1 : k.rl ≤ 4611686018427387904) :
    ∃ dn db rl p q, stepW n L id s u rel k = (⟨dn, k.dm, db, rl, p⟩, q) ∧
      ((q = false ∧ dn = k.dn + 1 ∧ db = 0 ∧ k.db = 0 ∧ rl = k.rl) ∨ (q = true ∧ dn = k.dn ∧ rl = k.rl + 1 ∧ 0 < k.db ∧ db = k.db - 1) ∨ (q = true ∧ dn = k.dn ∧ rl = k.rl + 1 ∧ k.db = 0 ∧ 0 < rel ∧ db = rel - 1)) := by
  have hd : 0 ≤ k.db := hf.2.2.2.2.2
  unfold stepW
  rw [if_pos hf]
  by_cases hp : 0 < k.db
  · rw [if_pos hp]
    exact ⟨_, _, _, _, _, rfl, .inr (.inl ⟨rfl, rfl, wUp_small h0 h1, hp, rfl⟩)⟩
  · rw [if_neg hp]
    have hz : k.db = 0 := by omega
    unfold workW
    split
    · split
      · rename_i hq
        exact ⟨_, _, _, _, _, rfl, .inr (.inr ⟨rfl, rfl, wUp_small h0 h1, hz, hq.2.1, rfl⟩)⟩
      · exact ⟨_, _, _, _, _, rfl, .inl ⟨rfl, rfl, hz, hz, rfl⟩⟩
    · exact ⟨_, _, _, _, _, rfl, .inl ⟨rfl, rfl, hz, hz, rfl⟩⟩
/-- How far a job may have come by the i-th tick. -/
structure Inv (rel : Int) (i : Nat) (k : WK) : Prop where
  d0 : 0 ≤ k.dn
  d1 : k.dn ≤ k.dm
  d2 : k.dm ≤ 24
  b0 : 0 ≤ k.db
  b1 : k.db = 0 ∨ k.db < rel
  r0 : 0 ≤ k.rl
  r1 : k.rl ≤ i
theorem Inv.up {rel : Int} {i : Nat} {k : WK} (h : Inv rel i k) : Inv rel (i + 1) k := ⟨h.d0, h.d1, h.d2, h.b0, h.b1, h.r0, by have := h.r1; omega⟩
theorem inv_none (rel : Int) (i : Nat) : Inv rel i noWork := by
  refine ⟨?_, ?_, ?_, ?_, .inl rfl, ?_, ?_⟩ <;> unfold noWork <;> dsimp only <;> omega
/-- A work that has all to do. -/
def freshW (c : Int) : WK := ⟨0, c, 0, 0, fun _ => false⟩
theorem inv_fresh (rel : Int) (i : Nat) {c : Int} (h0 : 0 ≤ c) (h1 : c ≤ 24) : Inv rel i (freshW c) := by
  refine ⟨?_, ?_, ?_, ?_, .inl rfl, ?_, ?_⟩ <;> unfold freshW <;> dsimp only <;> omega
end Go.Proofs.Ytlglncnhhgofoaa

/-
  What a preemption costs: plain numbers, no program in this text. A job's ticks beside what others take from it.
-/
namespace Go.Proofs.Ytlglncnhhgofoaa
open Go.RowKit

theorem cntN_drop {p q : Nat → Bool} {v : Nat} (hp : p v = true) (hq : q v = false) : ∀ {n : Nat}, v < n → (∀ x, x < n → q x = true → p x = true) → cntN q n + 1 ≤ cntN p n
  | 0, hv, _ => by omega
  | n + 1, hv, h => by
    simp only [cntN]
    by_cases e : v = n
    · subst e
      have := cntN_mono (p := q) (q := p) (n := v) (fun x hx => h x (by omega))
      rw [hp, hq]; simp; exact this
    · have ih := cntN_drop hp hq (n := n) (by omega) (fun x hx => h x (by omega))
      have hn := h n (by omega)
      cases hqn : q n <;> cases hpn : p n <;> simp [hqn, hpn] at hn ⊢ <;> omega

/-- What a job that has come to d has used, will use, and no longer has. -/
def lostP (us : List Int) (C : Nat) (id : Int) (L : Nat → Int) (d : Nat) (x : Nat) : Bool := (inP us 0 d x && inP us d C x) && decide (¬ L x = id)
theorem lost_iff {us : List Int} {C : Nat} {id : Int} {L : Nat → Int} {d x : Nat} : lostP us C id L d x = true ↔ inP us 0 d x = true ∧ inP us d C x = true ∧ ¬ L x = id := by
  unfold lostP
  rw [Bool.and_eq_true, Bool.and_eq_true, decide_eq_true_eq, and_assoc]

/-- A job that has come to d, preempted t times: what it has brought again, what it owes, and what it would have to bring again. -/
structure Held (us : List Int) (C : Nat) (id rel : Int) (M : Nat) (t : Nat) (L : Nat → Int) (d : Nat) (k : WK) : Prop where
  dn : k.dn = (d : Int)
  le : d ≤ C
  dm : k.dm = (C : Int)
  b0 : 0 ≤ k.db
  r0 : 0 ≤ k.rl
  sn : k.sn = inP us 0 d
  sum : k.rl + k.db + rel * (cntN (lostP us C id L d) 256 : Nat) ≤ (t : Int) * (rel * (M : Int))

theorem held_new (us : List Int) (C : Nat) (id rel : Int) (M : Nat) (L : Nat → Int) : Held us C id rel M 0 L 0 (freshW (C : Int)) := by
  refine ⟨rfl, Nat.zero_le _, rfl, Int.le_refl _, Int.le_refl _, ?_, ?_⟩
  · rw [inP_empty us (Nat.le_refl _)]; rfl
  · have : cntN (lostP us C id L 0) 256 = 0 := by
      have h : cntN (lostP us C id L 0) 256 = cntN noneP 256 := cntN_same fun x _ => by
        unfold lostP; rw [inP_empty us (Nat.le_refl _)]; rfl
      rw [h]
      have h2 : ∀ n, cntN noneP n = 0 := by
        intro n
        induction n with
        | zero => rfl
        | succ n ih => simp [cntN, noneP, ih]
      exact h2 _
    rw [this]
    show (0 : Int) + 0 + rel * ((0 : Nat) : Int) ≤ ((0 : Nat) : Int) * _
    simp

/-- Others run: what they take is what they use. -/
theorem Held.away {us : List Int} {C : Nat} {id rel : Int} {M t : Nat} {L L' : Nat → Int} {d : Nat} {k : WK} (h : Held us C id rel M t L d k) (h0 : 0 ≤ rel) (O : Nat → Bool) (hd : d < C)
    (hM : ∀ p, 1 ≤ p → p < C → usefulN us C O p ≤ M) (hL : ∀ x, x < 256 → L' x = L x ∨ O x = true) : Held us C id rel M (t + 1) L' d k := by
  refine ⟨h.dn, h.le, h.dm, h.b0, h.r0, h.sn, ?_⟩
  have hc : cntN (lostP us C id L' d) 256 ≤ cntN (lostP us C id L d) 256 + M := by
    have h1 : cntN (lostP us C id L' d) 256 ≤ cntN (orP (lostP us C id L d) (andP (andP (inP us 0 d) (inP us d C)) O)) 256 := cntN_mono fun x hx hq => by
      obtain ⟨a, b, c⟩ := lost_iff.1 hq
      unfold orP andP
      rw [a, b]
      rcases hL x hx with e | e
      · rw [e] at c
        rw [lost_iff.2 ⟨a, b, c⟩]; rfl
      · rw [e]; simp
    have h2 := cntN_or (lostP us C id L d) (andP (andP (inP us 0 d) (inP us d C)) O) 256
    have h3 : cntN (andP (andP (inP us 0 d) (inP us d C)) O) 256 ≤ M := by
      rcases Nat.eq_zero_or_pos d with e | e
      · subst e
        have : cntN (andP (andP (inP us 0 0) (inP us 0 C)) O) 256 ≤ cntN noneP 256 := cntN_mono fun x _ hq => by
          unfold andP at hq
          rw [inP_empty us (Nat.le_refl _)] at hq
          exact hq
        have h2 : ∀ n, cntN noneP n = 0 := by
          intro n
          induction n with
          | zero => rfl
          | succ n ih => simp [cntN, noneP, ih]
        rw [h2] at this; omega
      · exact hM d e hd
    omega
  have hs := h.sum
  have e1 : rel * (cntN (lostP us C id L' d) 256 : Nat) ≤ rel * ((cntN (lostP us C id L d) 256 : Nat) + (M : Int)) := Int.mul_le_mul_of_nonneg_left (by omega) h0
  rw [Int.mul_add] at e1
  have e2 : ((t + 1 : Nat) : Int) * (rel * (M : Int)) = (t : Int) * (rel * (M : Int)) + rel * (M : Int) := by
    rw [Int.natCast_add, Int.add_mul]; simp
  rw [e2]
  omega

/-- A tick of its own. -/
theorem Held.tick {us : List Int} {C : Nat} {id rel : Int} {M t : Nat} {L : Nat → Int} {d : Nat} {k : WK} {n : Nat} (h : Held us C id rel M t L d k) (hf : Fits id rel k) (hd : d < C) (hn : n ≤ 256)
    (hu0 : 0 ≤ useI us d) (hu1 : useI us d < (n : Int)) (hr : k.rl ≤ 4611686018427387904) :
    ∃ d', Held us C id rel M t (stepL n L id (useI us d) true rel k) d' (stepW n L id (useI us d) true rel k).1 ∧ (d' = d ∨ d' = d + 1) ∧ (stepW n L id (useI us d) true rel k).1.rl ≤ k.rl + 1 := by
  obtain ⟨s, hs⟩ : ∃ s : Nat, useI us d = (s : Int) := ⟨(useI us d).toNat, by omega⟩
  have hsn : s < n := by omega
  have h0 : 0 ≤ rel := hf.2.1
  have hw := wUp_small h.r0 hr
  have hsum := h.sum
  rw [hs]
  unfold stepW stepL
  rw [if_pos hf]
  by_cases hp : 0 < k.db
  · rw [if_pos hp, if_neg (by rintro ⟨_, q⟩; exact q hp)]
    refine ⟨d, ⟨h.dn, h.le, h.dm, ?_, ?_, h.sn, ?_⟩, .inl rfl, ?_⟩
    · dsimp only; omega
    · dsimp only; rw [hw]; have := h.r0; omega
    · dsimp only; rw [hw]; omega
    · dsimp only; rw [hw]; omega
  · have hz : k.db = 0 := by have := h.b0; omega
    rw [if_neg hp, if_pos ⟨hf, hp⟩]
    unfold workW workL
    have hok : (true = true ∧ okSet n (s : Int)) := ⟨rfl, by unfold okSet; omega⟩
    rw [if_pos hok, if_pos hok]
    have hP : inP us d C s = true := inP_iff.2 ⟨d, Nat.le_refl _, hd, hs⟩
    have hput : ∀ x : Nat, ¬ x = s → putL L (s : Int) id x = L x := fun x hx => by unfold putL; rw [if_neg (by omega)]
    have hputs : putL L (s : Int) id s = id := by unfold putL; rw [if_pos rfl]
    split
    · rename_i hq
      obtain ⟨hq1, hq2, hq3⟩ := hq
      have hq4 : inP us 0 d s = true := by
        rw [h.sn] at hq3
        unfold hasP at hq3
        rw [Bool.and_eq_true] at hq3
        exact hq3.2
      have hdrop : cntN (lostP us C id (putL L (s : Int) id) d) 256 + 1 ≤ cntN (lostP us C id L d) 256 := by
        refine cntN_drop (v := s) (lost_iff.2 ⟨hq4, hP, hq1⟩) ?_ (by omega) fun x _ hx => ?_
        · rw [Bool.eq_false_iff]; intro hx; exact (lost_iff.1 hx).2.2 hputs
        · obtain ⟨a, b, c⟩ := lost_iff.1 hx
          have hxs : ¬ x = s := fun e => c (by rw [e]; exact hputs)
          rw [hput x hxs] at c
          exact lost_iff.2 ⟨a, b, c⟩
      refine ⟨d, ⟨h.dn, h.le, h.dm, ?_, ?_, h.sn, ?_⟩, .inl rfl, ?_⟩
      · dsimp only; omega
      · dsimp only; rw [hw]; have := h.r0; omega
      · dsimp only; rw [hw]
        have e1 : rel * ((cntN (lostP us C id (putL L (s : Int) id) d) 256 : Nat) + 1) ≤ rel * (cntN (lostP us C id L d) 256 : Nat) := Int.mul_le_mul_of_nonneg_left (by omega) h0
        rw [Int.mul_add] at e1
        omega
      · dsimp only; rw [hw]; omega
    · have hmono : cntN (lostP us C id (putL L (s : Int) id) (d + 1)) 256 ≤ cntN (lostP us C id L d) 256 := cntN_mono fun x _ hx => by
        obtain ⟨a, b, c⟩ := lost_iff.1 hx
        have hxs : ¬ x = s := fun e => c (by rw [e]; exact hputs)
        rw [hput x hxs] at c
        refine lost_iff.2 ⟨?_, inP_mono us (Nat.le_succ d) (Nat.le_refl _) b, c⟩
        rw [inP_next us d (Nat.zero_le _)] at a
        unfold orP oneP at a
        rw [Bool.or_eq_true, decide_eq_true_eq, hs] at a
        rcases a with a | a
        · exact a
        · exact absurd (by omega) hxs
      refine ⟨d + 1, ⟨?_, hd, h.dm, ?_, h.r0, ?_, ?_⟩, .inr rfl, ?_⟩
      · dsimp only; have := h.dn; omega
      · dsimp only; exact h.b0
      · dsimp only; rw [h.sn, inP_next us d (Nat.zero_le _), hs]; rfl
      · dsimp only
        have e1 : rel * (cntN (lostP us C id (putL L (s : Int) id) (d + 1)) 256 : Nat) ≤ rel * (cntN (lostP us C id L d) 256 : Nat) := Int.mul_le_mul_of_nonneg_left (by omega) h0
        omega
      · dsimp only; omega

/-- What a job brings again, and owes. -/
theorem Held.cost {us : List Int} {C : Nat} {id rel : Int} {M t : Nat} {L : Nat → Int} {d : Nat} {k : WK} (h : Held us C id rel M t L d k) (h0 : 0 ≤ rel) : k.rl + k.db ≤ (t : Int) * (rel * (M : Int)) := by
  have := h.sum
  have e : 0 ≤ rel * (cntN (lostP us C id L d) 256 : Nat) := Int.mul_nonneg h0 (by omega)
  omega

/-- Others' ticks: what another one's tick takes is what it uses. -/
theorem step_takes {n : Nat} {L : Nat → Int} {id s : Int} {u : Bool} {rel : Int} {k : WK} (x : Nat) (h : ¬ stepL n L id s u rel k x = L x) : u = true ∧ s = (x : Int) := by
  unfold stepL at h
  split at h
  · unfold workL at h
    split at h
    · rename_i _ q
      refine ⟨q.1, ?_⟩
      unfold putL at h
      split at h
      · rename_i e; exact e.symm
      · exact absurd rfl h
    · exact absurd rfl h
  · exact absurd rfl h

/-! ### the three ways to tell a charge -/
theorem useful_mono (us : List Int) (C : Nat) {O O' : Nat → Bool} (h : ∀ x, x < 256 → O x = true → O' x = true) (p : Nat) : usefulN us C O p ≤ usefulN us C O' p :=
  cntN_mono fun x hx hq => by
    unfold andP at hq ⊢
    rw [Bool.and_eq_true] at hq ⊢
    exact ⟨hq.1, h x hx hq.2⟩
theorem most_mono (us : List Int) (C : Nat) {O O' : Nat → Bool} (h : ∀ x, x < 256 → O x = true → O' x = true) : (mostOf us C O).1 ≤ (mostOf us C O').1 :=
  best_mono fun p _ _ => useful_mono us C h p
theorem most_used (us : List Int) (C : Nat) (O : Nat → Bool) : (mostOf us C O).1 ≤ cntN O 256 :=
  best_le fun p _ _ => cntN_mono fun x _ hq => by
    unfold andP at hq
    rw [Bool.and_eq_true] at hq
    exact hq.2
theorem cntN_below {O : Nat → Bool} {n : Nat} (h : ∀ x, O x = true → x < n) : ∀ m, cntN O m ≤ n
  | 0 => Nat.zero_le _
  | m + 1 => by
    have ih := cntN_below h m
    have hm := h m
    simp only [cntN]
    cases e : O m
    · simpa using ih
    · have h1 := hm e
      have h2 := cntN_le O m
      simp; omega
theorem most_short (us : List Int) (O : Nat → Bool) : (mostOf us 1 O).1 = 0 := by unfold mostOf; simp [best]
theorem most_apart (us : List Int) (C : Nat) {O : Nat → Bool} (h : ∀ x, x < 256 → O x = true → ¬ inP us 0 C x = true) : (mostOf us C O).1 = 0 := by
  have : (mostOf us C O).1 ≤ 0 := best_le fun p h1 h2 => by
    have : usefulN us C O p ≤ cntN noneP 256 := cntN_mono fun x hx hq => by
      unfold andP at hq
      rw [Bool.and_eq_true, Bool.and_eq_true] at hq
      exact absurd (inP_mono us (Nat.le_refl _) (show p ≤ C by omega) hq.1.1) (h x hx hq.2)
    have h2 : ∀ n, cntN noneP n = 0 := by
      intro n
      induction n with
      | zero => rfl
      | succ n ih => simp [cntN, noneP, ih]
    rw [h2] at this; exact this
  omega
/-- The least of the three is the one by both. -/
theorem both_least (us : List Int) (C : Nat) (O : Nat → Bool) : (mostOf us C O).1 ≤ (mostOf us C (fun _ => true)).1 ∧ (mostOf us C O).1 ≤ cntN O 256 :=
  ⟨most_mono us C fun _ _ _ => rfl, most_used us C O⟩
end Go.Proofs.Ytlglncnhhgofoaa

/-
  The walk over the system that plain numbers mean.
-/
namespace Go.Proofs.Ytlglncnhhgofoaa
open Go.RowKit Go.Maps

/-- What is promised of a system by plain numbers. -/
structure Made (sets r : Int) (L : List TV) : Prop where
  s1 : 1 ≤ sets
  s8 : sets ≤ 8
  r0 : 0 ≤ r
  r3 : r ≤ 3
  pos : 0 < L.length
  six : L.length ≤ 6
  good : ∀ (k : Nat) (x : TV), L[k]? = some x → Good k sets x
/-- The system that comes back. -/
def MadeBack (w : World) (e : Ending) (w' : World) : Prop :=
  ∃ (s r : Int) (a : Option Addr) (n c : Nat) (L : List TV), e = .returned (.agg #[.int .i64 s, .int .i64 r, .slice a n c]) ∧ OwnT w' w.heap.size (.slice a n c) L ∧ AllOk w' L ∧ (∀ x ∈ L, IsI w' x.a1 x.ch ∧ IsI w' x.a2 x.us) ∧ Made s r L ∧ Below w.heap.size w w'

/-- Plain numbers in a box, a system that comes back, one that is being made. -/
structure MakeAt (w : World) (S R : Int) (a : Option Addr) (n cap : Nat) (g : Nat) (s r : Int) (v : Value) (L : List TV) (W : World) : Prop where
  low : Below w.heap.size w W
  gl : w.heap.size + 1 < g
  src : W.heap[w.heap.size]? = some (.cells #[.int .i64 S, .int .i64 R, .slice a n cap] 67 (0, 0))
  res : W.heap[w.heap.size + 1]? = some (.cells #[.int .i64 0, .int .i64 0, .slice none 0 0] 27 (0, 0))
  box : W.heap[g]? = some (.cells #[.int .i64 s, .int .i64 r, v] 27 (0, 0))
  own : OwnT W (g + 1) v L
  ok : AllOk W L
  ints : ∀ x ∈ L, IsI W x.a1 x.ch ∧ IsI W x.a2 x.us
theorem MakeAt.below {w W W' : World} {S R s r : Int} {a : Option Addr} {n cap g : Nat} {v : Value} {L : List TV} (h : MakeAt w S R a n cap g s r v L W) (hb : Below W.heap.size W W') : MakeAt w S R a n cap g s r v L W' :=
  ⟨below_up h.low hb, h.gl, kept_obj hb h.src, kept_obj hb h.res, kept_obj hb h.box, h.own.below hb, h.ok.below hb, fun x hx => ⟨(h.ints x hx).1.below hb, (h.ints x hx).2.below hb⟩⟩
theorem makeAt_new {w W : World} {S R s r : Int} {a : Option Addr} {n cap : Nat} (hl : Below w.heap.size w W) (h1 : W.heap[w.heap.size]? = some (.cells #[.int .i64 S, .int .i64 R, .slice a n cap] 67 (0, 0))) (h2 : W.heap[w.heap.size + 1]? = some (.cells #[.int .i64 0, .int .i64 0, .slice none 0 0] 27 (0, 0))) :
    MakeAt w S R a n cap W.heap.size s r (.slice none 0 0) [] (W.alloc (.cells #[.int .i64 s, .int .i64 r, .slice none 0 0] 27)) :=
  ⟨below_up hl (by repeat (first | exact Below.refl _ _ | (with_reducible assumption) | refine bw_alloc ?_ _ | refine bw_drew ?_)), lt_of_block h2, kept_obj (by repeat (first | exact Below.refl _ _ | (with_reducible assumption) | refine bw_alloc ?_ _ | refine bw_drew ?_)) h1, kept_obj (by repeat (first | exact Below.refl _ _ | (with_reducible assumption) | refine bw_alloc ?_ _ | refine bw_drew ?_)) h2, heap_alloc_new W _, OwnT.nil _ _, (fun x hx => by cases hx), (fun x hx => by cases hx)⟩

/-- A row of numbers is where it was, whatever is stored elsewhere. -/
theorem IsI.kept {w w' : World} {a : Option Addr} {l : List Int} (h : IsI w a l) (hk : ∀ (g : Nat) (cs : Array Value) (T : TypeId) (fr : Nat × Nat), w.heap[g]? = some (.cells cs T fr) → (T = 2 ∨ T = 3) → w'.heap[g]? = w.heap[g]?) : IsI w' a l := by
  rcases h with h | h
  · exact .inl h
  · refine .inr fun g o e => ?_
    obtain ⟨cs, T, fr, h1, h2⟩ := h g o e
    exact ⟨cs, T, fr, (hk g cs T fr h1 h2).trans h1, h2⟩
theorem Ints.kept {w w' : World} {a : Option Addr} {l : List Int} (h : Ints w a l) (hi : IsI w a l) (hk : ∀ (g : Nat) (cs : Array Value) (T : TypeId) (fr : Nat × Nat), w.heap[g]? = some (.cells cs T fr) → (T = 2 ∨ T = 3) → w'.heap[g]? = w.heap[g]?) : Ints w' a l := by
  rcases h with rfl | ⟨g, o, rfl, hc⟩
  · exact .inl rfl
  · rcases hi with rfl | hi
    · exact .inl rfl
    · obtain ⟨cs, T, fr, h1, h2⟩ := hi g o rfl
      refine .inr ⟨g, o, rfl, fun j u hj => ?_⟩
      rw [World.cell?_of_block (hk g cs T fr h1 h2)]; exact hc j u hj
theorem TV.ok.kept {w w' : World} {x : TV} (h : x.ok w) (hi : IsI w x.a1 x.ch ∧ IsI w x.a2 x.us) (hk : ∀ (g : Nat) (cs : Array Value) (T : TypeId) (fr : Nat × Nat), w.heap[g]? = some (.cells cs T fr) → (T = 2 ∨ T = 3) → w'.heap[g]? = w.heap[g]?) : x.ok w' :=
  ⟨h.one.kept hi.1 hk, h.two.kept hi.2 hk, h.l1, h.m1, h.l2, h.m2⟩
theorem OwnT.set {w : World} {B : Nat} {v : Value} {l : List TV} (h : OwnT w B v l) {a : Addr} (ha : a.block < B) (u : Value) : OwnT (w.setCell a u) B v l := ownsRow_setCell_below h ha u
theorem MakeAt.lay {w W w3 : World} {S R s r : Int} {a : Option Addr} {n cap g : Nat} {v v' : Value} {L L' : List TV} (h : MakeAt w S R a n cap g s r v L W) (hb : Below (g + 1) W w3) (hk3 : ∀ (b : Nat) (cs : Array Value) (T : TypeId) (fr : Nat × Nat), W.heap[b]? = some (.cells cs T fr) → (T = 2 ∨ T = 3) → w3.heap[b]? = W.heap[b]?) (ho : OwnT w3 (g + 1) v' L') (hall : ∀ x ∈ L', x.ok W ∧ (IsI W x.a1 x.ch ∧ IsI W x.a2 x.us)) :
    MakeAt w S R a n cap g s r v' L' (w3.setCell ⟨g, 2, none⟩ v') ∧ w3.cell? ⟨g, 2, none⟩ = some v ∧ w3.frozen? ⟨g, 2, none⟩ = false := by
  have hgl := h.gl
  have h3 := kept_objB hb (by omega) h.box
  have hk : ∀ (b : Nat) (cs : Array Value) (T : TypeId) (fr : Nat × Nat), W.heap[b]? = some (.cells cs T fr) → (T = 2 ∨ T = 3) → (w3.setCell ⟨g, 2, none⟩ v').heap[b]? = W.heap[b]? := by
    intro b cs T fr hc hT
    have e1 := hk3 b cs T fr hc hT
    rw [blk_far (a := ⟨g, 2, none⟩) ?_ v']
    · exact e1
    · rintro rfl
      rw [hc] at e1
      rw [h3] at e1
      simp at e1
      rcases hT with q | q <;> rw [q] at e1 <;> exact absurd e1.2.1 (by decide)
  refine ⟨⟨(h.low.trans (hb.mono (by omega))).setCell (p := ⟨g, 2, none⟩) (by show _ ≤ g; omega) _, h.gl, ?_, ?_, (blk_set h3 _).trans rfl, ho.set (by simp) _, fun x hx => (hall x hx).1.kept (hall x hx).2 hk, fun x hx => ⟨(hall x hx).2.1.kept hk, (hall x hx).2.2.kept hk⟩⟩, by rw [blk_cell h3]; rfl, blk_free h3 2⟩
  · rw [blk_far (a := ⟨g, 2, none⟩) (by show _ ≠ g; omega)]; exact kept_objB hb (by omega) h.src
  · rw [blk_far (a := ⟨g, 2, none⟩) (by show _ ≠ g; omega)]; exact kept_objB hb (by omega) h.res
theorem MakeAt.push {w W w3 : World} {S R s r : Int} {a : Option Addr} {n cap g : Nat} {v v' : Value} {L : List TV} {y : TV} (h : MakeAt w S R a n cap g s r v L W) (hg : W.grownBy w3 v.ownBlock) (ho : OwnT w3 (g + 1) v' (L ++ [y])) (hy : y.ok W) (hi : IsI W y.a1 y.ch ∧ IsI W y.a2 y.us) :
    MakeAt w S R a n cap g s r v' (L ++ [y]) (w3.setCell ⟨g, 2, none⟩ v') ∧ w3.cell? ⟨g, 2, none⟩ = some v ∧ w3.frozen? ⟨g, 2, none⟩ = false := by
  have hs : g + 1 ≤ W.heap.size := lt_of_block h.box
  have hb : Below (g + 1) W w3 := (Below.refl _ W).grown hg hs (fun k hk => (h.own.new hk).1)
  refine h.lay hb ?_ ho ?_
  · intro b cs T fr hc hT
    refine hg.block b (lt_of_block hc) ?_
    intro z
    rcases h.own with ⟨_, q | ⟨k', cap', cur', e', hB', h3', _⟩⟩
    · rw [q.1] at z; cases z
    · rw [e'] at z
      simp [Value.ownBlock] at z
      subst z
      rw [hc] at h3'
      simp at h3'
      rcases hT with q | q <;> rw [q] at h3' <;> exact absurd h3'.2.1 (by decide)
  · intro x hx
    rcases List.mem_append.1 hx with q | q
    · exact ⟨h.ok x q, h.ints x q⟩
    · simp at q; subst q; exact ⟨hy, hi⟩
/-- The task of a system that has none. -/
def lone : TV := ⟨1, 1, 4, 4, 10, none, [], 0, none, [], 0⟩
theorem lone_good (s : Int) : Good 0 s lone := ⟨rfl, by simp [lone], by simp [lone], by simp [lone], by simp [lone], by simp [lone], by simp [lone], by simp [lone], .inl rfl, (fun u hu => by simp [lone] at hu), by simp [lone]⟩
theorem lone_own (W : World) (B : Nat) (hB : B ≤ W.heap.size) : OwnT (W.alloc (.cells #[.int .i64 1, .int .i64 1, .int .i64 4, .int .i64 4, .int .i64 10, .slice none 0 0, .slice none 0 0] TT)) B (.slice (some ⟨W.heap.size, 0, none⟩) 1 1) [lone] :=
  World.ownsRow_lit (w := W) #[.int .i64 1, .int .i64 1, .int .i64 4, .int .i64 4, .int .i64 10, .slice none 0 0, .slice none 0 0] 1 hB (by decide) rfl
theorem MakeAt.lone {w W : World} {S R s r : Int} {a : Option Addr} {n cap g : Nat} {v : Value} {L : List TV} (h : MakeAt w S R a n cap g s r v L W) :
    MakeAt w S R a n cap g s r (.slice (some ⟨W.heap.size, 0, none⟩) 1 1) [lone] ((W.alloc (.cells #[.int .i64 1, .int .i64 1, .int .i64 4, .int .i64 4, .int .i64 10, .slice none 0 0, .slice none 0 0] TT)).setCell ⟨g, 2, none⟩ (.slice (some ⟨W.heap.size, 0, none⟩) 1 1)) := by
  have hs : g + 1 ≤ W.heap.size := lt_of_block h.box
  refine (h.lay (L' := [Go.Proofs.Ytlglncnhhgofoaa.lone]) (((Below.refl _ W).alloc (Nat.le_refl _) _).mono hs) ?_ (lone_own W _ hs) ?_).1
  · intro b cs T fr hc _
    exact Below.heap_alloc _ _ _ (lt_of_block hc)
  · intro x hx
    simp at hx; subst hx
    exact ⟨⟨.inl rfl, .inl rfl, by simp [Go.Proofs.Ytlglncnhhgofoaa.lone], by simp [Go.Proofs.Ytlglncnhhgofoaa.lone], by simp [Go.Proofs.Ytlglncnhhgofoaa.lone], by simp [Go.Proofs.Ytlglncnhhgofoaa.lone]⟩, .inl rfl, .inl rfl⟩
/-- The end. -/
theorem MakeAt.done {w W : World} {S R s r : Int} {a a' : Option Addr} {n cap g m c : Nat} {L : List TV} (h : MakeAt w S R a n cap g s r (.slice a' m c) L W) (hL : Made s r L) (x0 x1 x2 : Value) :
    MadeBack w (.returned (.agg #[.int .i64 s, .int .i64 r, .slice a' m c])) (((W.setCell ⟨w.heap.size + 1, 0, none⟩ x0).setCell ⟨w.heap.size + 1, 1, none⟩ x1).setCell ⟨w.heap.size + 1, 2, none⟩ x2) := by
  have hgl := h.gl
  have hb : Below w.heap.size w (((W.setCell ⟨w.heap.size + 1, 0, none⟩ x0).setCell ⟨w.heap.size + 1, 1, none⟩ x1).setCell ⟨w.heap.size + 1, 2, none⟩ x2) :=
    ((h.low.setCell (p := ⟨w.heap.size + 1, 0, none⟩) (Nat.le_succ _) x0).setCell (p := ⟨w.heap.size + 1, 1, none⟩) (Nat.le_succ _) x1).setCell (p := ⟨w.heap.size + 1, 2, none⟩) (Nat.le_succ _) x2
  have ho := ((h.own.set (a := ⟨w.heap.size + 1, 0, none⟩) (Nat.lt_succ_of_lt hgl) x0).set (a := ⟨w.heap.size + 1, 1, none⟩) (Nat.lt_succ_of_lt hgl) x1).set (a := ⟨w.heap.size + 1, 2, none⟩) (Nat.lt_succ_of_lt hgl) x2
  have hk : ∀ (b : Nat) (cs : Array Value) (T : TypeId) (fr : Nat × Nat), W.heap[b]? = some (.cells cs T fr) → (T = 2 ∨ T = 3) → (((W.setCell ⟨w.heap.size + 1, 0, none⟩ x0).setCell ⟨w.heap.size + 1, 1, none⟩ x1).setCell ⟨w.heap.size + 1, 2, none⟩ x2).heap[b]? = W.heap[b]? := by
    intro b cs T fr hc hT
    have hne : b ≠ w.heap.size + 1 := by
      rintro rfl
      rw [h.res] at hc
      simp at hc
      rcases hT with q | q <;> rw [q] at hc <;> exact absurd hc.2.1 (by decide)
    rw [blk_far (a := ⟨w.heap.size + 1, 2, none⟩) hne, blk_far (a := ⟨w.heap.size + 1, 1, none⟩) hne, blk_far (a := ⟨w.heap.size + 1, 0, none⟩) hne]
  exact ⟨s, r, a', m, c, L, rfl, ho.low (by omega), fun x hx => (h.ok x hx).kept (h.ints x hx) hk, fun x hx => ⟨(h.ints x hx).1.kept hk, (h.ints x hx).2.kept hk⟩, hL, hb⟩

set_option maxRecDepth 100000 in
set_option maxHeartbeats 4000000 in
theorem made_any {w : World} {a : Option Addr} {n cap : Nat} {L : List NV} (S R : Int) (hn : Nums w a n cap L) :
    Calls Try.prog 25 #[.agg #[.int .i64 S, .int .i64 R, .slice a n cap]] w (MadeBack w) := by
  have HA := Lib.hid hn
  have hz := zeroSys
  have hn9 := hn.small
  obtain ⟨s, hs⟩ : ∃ s, restI S 8 = s := ⟨_, rfl⟩
  have R1 := Lib.hid (fun w => hs ▸ rest_any S 8 (by omega) (by omega) w)
  have hs0 : 0 ≤ s := by rw [← hs]; exact Int.emod_nonneg _ (by omega)
  have hs1 : s < 8 := by rw [← hs]; exact Int.emod_lt_of_pos _ (by omega)
  have hw1 : IntKind.i64.wrap (1 + s) = 1 + s := IntWalk.i64_in _ (by omega)
  obtain ⟨r, hr, hr2⟩ := and_small R 3 (by omega)
  have hr3 : bits .and .i64 R 3 = (r : Int) := hr2
  have hr9 : (r : Int) ≤ 3 := by omega
  clear hn hs hr2
  go_enter Try.func25, Try.ntmps25
  go_upto_region 1 with fail
  refine gen_world (fun v => Below w.heap.size w v ∧ v.heap[w.heap.size]? = some (.cells #[.int .i64 S, .int .i64 R, .slice a n cap] 67 (0, 0)) ∧ v.heap[w.heap.size + 1]? = some (.cells #[.int .i64 0, .int .i64 0, .slice none 0 0] 27 (0, 0))) ⟨(by repeat (first | exact Below.refl _ _ | (with_reducible assumption) | refine bw_alloc ?_ _ | refine bw_drew ?_)), by rw [Below.heap_alloc _ _ _ (by simp)]; exact heap_alloc_new w _, by have := heap_alloc_new (w.alloc (.cells #[.int .i64 S, .int .i64 R, .slice a n cap] 67)) (.cells #[.int .i64 0, .int .i64 0, .slice none 0 0] 27); rwa [World.size_alloc] at this⟩ ?_
  intro W1 ⟨hl, h1, h2⟩
  have HL := Lib.hid hl
  have H1 := Lib.hid h1
  have H2 := Lib.hid h2
  have e0 : W1.cell? ⟨w.heap.size, 0, none⟩ = some (.int .i64 S) := by rw [blk_cell h1]; rfl
  have e1 : W1.cell? ⟨w.heap.size, 1, none⟩ = some (.int .i64 R) := by rw [blk_cell h1]; rfl
  have hlt := lt_of_block h1
  clear hl h1 h2
  go_cut [3] from 5 to 12 (fun u wx => u = .pointer (some ⟨W1.heap.size, 0, none⟩) ∧ wx = (W1.alloc (.cells #[.int .i64 (1 + s), .int .i64 r, .slice none 0 0] 27)).drew)
  case first =>
    have MK : Hid (∀ v, Below W1.heap.size W1 v → (Below W1.heap.size W1 v ∧ v.cell? ⟨w.heap.size, 0, none⟩ = some (.int .i64 S) ∧ v.cell? ⟨w.heap.size, 1, none⟩ = some (.int .i64 R))) := fun v hb => ⟨hb, kept_cell hb (by rw [blk_cell H1.out]; rfl), kept_cell hb (by rw [blk_cell H1.out]; rfl)⟩
    go_region_held3 (fun v => Below W1.heap.size W1 v ∧ v.cell? ⟨w.heap.size, 0, none⟩ = some (.int .i64 S) ∧ v.cell? ⟨w.heap.size, 1, none⟩ = some (.int .i64 R)) (exact MK.out _ (by repeat (first | exact Below.refl _ _ | (with_reducible assumption) | refine bw_alloc ?_ _ | refine bw_drew ?_))) ((go_at_call 42; (with_reducible refine (R1.out _).mono ?_); rintro e w3 ⟨rfl, rfl⟩))
    all_goals (go_wp2_with fail; go_meet; exact ⟨rfl, rfl⟩)
  case rest =>
    obtain ⟨rfl, rfl⟩ := hcut
    have hgl0 : w.heap.size + 1 < W1.heap.size := lt_of_block H2.out
    go_wp2_with fail
    refine gen_world (MakeAt w S R a n cap W1.heap.size (1 + s) r (.slice none 0 0) []) ((makeAt_new HL.out H1.out H2.out).below (Below.refl _ _).drew) ?_
    intro W3 hw3
    have H3 := Lib.hid hw3
    have hs1' : 1 ≤ 1 + s := by omega
    have hs8' : 1 + s ≤ 8 := by omega
    have hr0 : (0 : Int) ≤ (r : Int) := by omega
    clear hw3 HL H1 H2 e0 e1 hlt hw1 hr3 R1 hs0 hs1
    generalize W1.heap.size = g at *
    generalize 1 + s = s at *
    generalize (r : Int) = r at *
    clear hgl0
    obtain ⟨m, hm⟩ : ∃ m, m = min n 6 := ⟨_, rfl⟩
    have hm1 : m ≤ n := by omega
    have hm6 : m ≤ 6 := by omega
    have hor : m = n ∨ (m = 6 ∧ 6 < n) := by omega
    have HOR := Lib.hid hor
    clear hm hor
    go_loopw [4] (fun u wr => ∃ (k : Nat) (a' : Option Addr) (cp' : Nat) (M : List TV), k ≤ m ∧ u = .int .i64 k ∧ Hid (M.length = k) ∧ Hid (∀ (j : Nat) (x : TV), M[j]? = some x → Good j s x) ∧ Hid (MakeAt w S R a n cap g s r (.slice a' k cp') M wr)) (fun u _ => (m - intOf u).toNat)
    case atStart => exact ⟨0, _, _, [], by omega, rfl, rfl, (fun j x hx => by simp at hx), H3⟩
    case round =>
      obtain ⟨k, a', cp', M, hk, rfl, HML, HMG, HP⟩ := hrel
      clear H3
      have b0 : wr.cell? ⟨g, 0, none⟩ = some (.int .i64 s) := by rw [blk_cell HP.out.box]; rfl
      have b2 : wr.cell? ⟨g, 2, none⟩ = some (.slice a' k cp') := by rw [blk_cell HP.out.box]; rfl
      have s2 : wr.cell? ⟨w.heap.size, 2, none⟩ = some (.slice a n cap) := by rw [blk_cell HP.out.src]; rfl
      have hgw : g < wr.heap.size := lt_of_block HP.out.box
      by_cases hlt : k < m
      · obtain ⟨x, hx⟩ := nth_of HA.out.len (show k < n by omega)
        obtain ⟨g', o', rfl, ⟨c0, c1, c2, c3, c4, c5⟩⟩ := (HA.out.view.below HP.out.low).at_ hx
        have hk1 : (k : Int) < (n : Int) := by omega
        have hk6 : (k : Int) < 6 := by omega
        have hk0 : (0 : Int) ≤ (k : Int) := by omega
        have HXO := Lib.hid ((HA.out.ok x (List.mem_of_getElem? hx)).below HP.out.low)
        have T : Hid (∀ v, Below wr.heap.size wr v → _) := fun v hb => task_any x k s ⟨hk0, hk6⟩ ⟨hs1', hs8'⟩ v (HXO.out.below hb)
        have HSM : Hid (M.length + 1 ≤ 1000000) := by show _ ≤ _; have := HML.out; omega
        have HNN : Hid (M.length + 1 = k + 1) := by show _ = _; rw [HML.out]
        have HL2 : Hid (∀ y, (M ++ [y]).length = k + 1) := fun y => by rw [List.length_append, HML.out]; rfl
        have HG2 : Hid (∀ y, Good k s y → ∀ (j : Nat) (x : TV), (M ++ [y])[j]? = some x → Good j s x) := fun y hy j x hj => by
          rw [List.getElem?_append] at hj
          split at hj
          · exact HMG.out j x hj
          · rename_i q
            have hjk : j = k := by
              have := (List.getElem?_eq_some_iff.1 hj).1
              simp at this
              have := HML.out; omega
            subst hjk
            have hj0 : j - M.length = 0 := by have := HML.out; omega
            rw [hj0] at hj
            simp at hj; subst hj; exact hy
        clear hx
        go_upto_region 5 with fail
        go_region_law (first
          | (refine step_append (m := 1) (l := [y]) rfl (.tmp 25) (.tmp 35) rfl (by rfl) (by rfl) (H5.out.below (by repeat (first | exact Below.refl _ _ | (with_reducible assumption) | refine bw_alloc ?_ _ | refine bw_drew ?_))).own (Nat.le_trans (lt_of_block H5.out.box) ((by repeat (first | exact Below.refl _ _ | (with_reducible assumption) | refine bw_alloc ?_ _ | refine bw_drew ?_)) : Below w5.heap.size w5 _).size) (by first | exact View.of_at (at_new _ _ _) | exact (View.of_at (at_new _ _ _)).below (by repeat (first | exact Below.refl _ _ | (with_reducible assumption) | refine bw_alloc ?_ _ | refine bw_drew ?_))) rfl HSM.out (fun z => by cases z) (k + 1) HNN.out ?_
             intro a3 k3 w3 o3 g3 l3
             obtain ⟨hn, z1, z2⟩ := (H5.out.below (by repeat (first | exact Below.refl _ _ | (with_reducible assumption) | refine bw_alloc ?_ _ | refine bw_drew ?_))).push g3 o3 (HY.out.below (by repeat (first | exact Below.refl _ _ | (with_reducible assumption) | refine bw_alloc ?_ _ | refine bw_drew ?_))) ⟨HI.out.1.below (by repeat (first | exact Below.refl _ _ | (with_reducible assumption) | refine bw_alloc ?_ _ | refine bw_drew ?_)), HI.out.2.below (by repeat (first | exact Below.refl _ _ | (with_reducible assumption) | refine bw_alloc ?_ _ | refine bw_drew ?_))⟩
             have HN := Lib.hid hn
             clear hn o3 g3 l3)
          | (go_simp; (with_reducible refine (T.out _ (by repeat (first | exact Below.refl _ _ | (with_reducible assumption) | refine bw_alloc ?_ _ | refine bw_drew ?_))).mono ?_); rintro e w5 ⟨y, rfl, hy, hgood, b5, hi1, hi2⟩; have H5 := Lib.hid (HP.out.below (below_up (W := wr) (by repeat (first | exact Below.refl _ _ | (with_reducible assumption) | refine bw_alloc ?_ _ | refine bw_drew ?_)) b5)); have b2' : w5.cell? ⟨g, 2, none⟩ = some (.slice a' k cp') := (by rw [blk_cell H5.out.box]; rfl); have hgw5 : g < w5.heap.size := lt_of_block H5.out.box; have HY := Lib.hid hy; have HG := Lib.hid hgood; have HI := Lib.hid (And.intro hi1 hi2); clear hy hgood b5 hi1 hi2))
        all_goals
          go_wp2
          go_roundw
          case rel => exact ⟨k + 1, a3, k3, M ++ [y], by omega, by go_num, HL2.out y, HG2.out y HG.out, HN⟩
          case measure => simp [intOf]; omega
      · obtain rfl : m = k := by omega
        have hr1 : w.heap.size + 1 < wr.heap.size := lt_of_block HP.out.res
        have b1 : wr.cell? ⟨g, 1, none⟩ = some (.int .i64 r) := by rw [blk_cell HP.out.box]; rfl
        have bf := blk_free HP.out.box 2
        have r0 : wr.cell? ⟨w.heap.size + 1, 0, none⟩ = some (.int .i64 0) := by rw [blk_cell HP.out.res]; rfl
        have r1 : wr.cell? ⟨w.heap.size + 1, 1, none⟩ = some (.int .i64 0) := by rw [blk_cell HP.out.res]; rfl
        have r2 : wr.cell? ⟨w.heap.size + 1, 2, none⟩ = some (.slice none 0 0) := by rw [blk_cell HP.out.res]; rfl
        have f0 := blk_free HP.out.res 0
        have f1 := blk_free HP.out.res 1
        have f2 := blk_free HP.out.res 2
        have hgne : ¬ g = w.heap.size + 1 := by have := HP.out.gl; omega
        by_cases hm0 : m = 0
        · have HD := Lib.hid (fun x0 x1 x2 => HP.out.lone.done (⟨hs1', hs8', hr0, hr9, by simp, by simp, (fun j x hx => by
            match j, hx with
            | 0, hx => simp at hx; subst hx; exact lone_good s
            | j + 1, hx => simp at hx)⟩ : Made s r [lone]) x0 x1 x2)
          have d1 : ((m : Int) == 0) = true := by rw [beq_iff_eq]; omega
          have d2 : ¬ (m : Int) < (n : Int) := by have := HOR.out; omega
          have HD2 : Hid (∀ x0 x1 x2, MadeBack w (.returned (.agg #[.int .i64 s, .int .i64 r, .slice (some ⟨wr.heap.size, 0, none⟩) 1 1])) (((((wr.setCell ⟨g, 2, none⟩ (.slice (some ⟨wr.heap.size, 0, none⟩) 1 1)).setCell ⟨w.heap.size + 1, 0, none⟩ x0).setCell ⟨w.heap.size + 1, 1, none⟩ x1).setCell ⟨w.heap.size + 1, 2, none⟩ x2).alloc (.cells #[.int .i64 1, .int .i64 1, .int .i64 4, .int .i64 4, .int .i64 10, .slice none 0 0, .slice none 0 0] TT))) := by
            intro x0 x1 x2
            have := HD.out x0 x1 x2
            rw [World.setCell_alloc_past _ _ _ _ hgw, World.setCell_alloc_past _ _ _ _ (by simpa using hr1), World.setCell_alloc_past _ _ _ _ (by simpa using hr1), World.setCell_alloc_past _ _ _ _ (by simpa using hr1)] at this
            exact this
          clear hm0 HMG HML hm1 HD
          go_wp2_with fail
          exact bodyPost_ret (v := .agg #[.int .i64 s, .int .i64 r, .slice (some ⟨wr.heap.size, 0, none⟩) 1 1]) (by simp [results, Try.results25, go_sem, r0, r1, r2, hr1]) rfl (HD2.out _ _ _)
        · have HD := Lib.hid (fun x0 x1 x2 => HP.out.done (⟨hs1', hs8', hr0, hr9, by rw [HML.out]; omega, by rw [HML.out]; omega, HMG.out⟩ : Made s r M) x0 x1 x2)
          have d1 : ((m : Int) == 0) = false := by rw [beq_eq_false_iff_ne]; omega
          have q1 : ¬ ((m : Int) < (n : Int)) ∨ ((m : Int) < (n : Int) ∧ ¬ ((m : Int) < 6)) := by
            rcases HOR.out with h | ⟨h1, h2⟩
            · left; omega
            · right; omega
          clear HMG HML
          rcases q1 with q1 | ⟨q1, q2⟩
          all_goals
            go_wp2_with fail
            exact bodyPost_ret (v := .agg #[.int .i64 s, .int .i64 r, .slice a' m cp']) (by simp [results, Try.results25, go_sem, r0, r1, r2, hr1]) rfl (HD.out _ _ _)
end Go.Proofs.Ytlglncnhhgofoaa

/-
  The walk over what is wrong with a task.
-/
namespace Go.Proofs.Ytlglncnhhgofoaa
open Go.RowKit Go.Maps

/-- What is wrong with a task, beside so many sets. -/
def idBad (x : TV) : Prop := ¬ (1 ≤ x.id ∧ x.id ≤ 99 ∧ 1 ≤ x.p ∧ x.p ≤ 99)
def cdBad (x : TV) : Prop := ¬ (1 ≤ x.c ∧ x.c ≤ x.d ∧ x.d ≤ x.t ∧ x.t ≤ 1073741824)
def chBad (x : TV) : Prop := 64 < x.ch.length ∨ (x.ch ≠ [] ∧ fillB x.ch x.c = false)
def usBad (x : TV) (s : Int) : Prop := 64 < x.us.length ∨ x.us.any (badB s) = true
instance (x : TV) : Decidable (idBad x) := by unfold idBad; infer_instance
instance (x : TV) : Decidable (cdBad x) := by unfold cdBad; infer_instance
instance (x : TV) : Decidable (chBad x) := by unfold chBad; infer_instance
instance (x : TV) (s : Int) : Decidable (usBad x s) := by unfold usBad; infer_instance
def rightOf (x : TV) (s : Int) : Int := if idBad x then 1 else if cdBad x then 10 else if chBad x then 13 else if usBad x s then 12 else 0

theorem fill_chunks (x : TV) (h : 1 ≤ x.c) : fillB (chunksOf x) x.c = true ↔ ¬ (x.ch ≠ [] ∧ fillB x.ch x.c = false) := by
  unfold chunksOf
  split
  · rename_i e
    rw [fillB, if_pos ⟨h, Int.le_refl _⟩, fillB]
    simp [e]
  · rename_i e
    simp [e]

/-- A task in a box, and its bound in another one. -/
structure Boxed (w : World) (x : TV) (s : Int) (v : World) : Prop where
  low : Below w.heap.size w v
  at_ : AtB v w.heap.size x
  cell : v.cell? ⟨w.heap.size + 1, 0, none⟩ = some (.int .i64 s)
theorem Boxed.below {w v v' : World} {x : TV} {s : Int} (h : Boxed w x s v) (hb : Below v.heap.size v v') : Boxed w x s v' :=
  ⟨below_up h.low hb, h.at_.below hb, kept_cell hb h.cell⟩
theorem boxed_new {w : World} {x : TV} {s : Int} {T T' : TypeId} :
    Boxed w x s ((w.alloc (.cells #[.int .i64 x.id, .int .i64 x.c, .int .i64 x.d, .int .i64 x.t, .int .i64 x.p, .slice x.a1 x.ch.length x.c1, .slice x.a2 x.us.length x.c2] T)).alloc (.cells #[.int .i64 s] T')) :=
  ⟨(by repeat (first | exact Below.refl _ _ | (with_reducible assumption) | refine bw_alloc ?_ _ | refine bw_drew ?_)), (atB_new w x T).below ((Below.refl _ _).alloc (Nat.le_refl _) _), (new_second w _ _ _ 0).trans rfl⟩

theorem fillC {w : World} {x : TV} (hx : x.ok w) (hc : x.c ≤ 9223372036854775807) {a : Option Addr} {cap : Nat} {v : World} (hv : Ints v a (chunksOf x)) (hl : ((chunksOf x).length : Int) ≤ 9223372036854775807) {q : Bool} (hq : fillB (chunksOf x) x.c = q) :
    Calls Try.prog 92 #[.slice a (chunksOf x).length cap, .int .i64 x.c] v fun e w' => e = .returned (.bool q) ∧ v = w' := by
  rw [← hq]
  exact fill_any a _ cap _ rfl hl _ hc v hv

set_option maxRecDepth 100000 in
set_option maxHeartbeats 8000000 in
theorem right_any (x : TV) (s : Int) (w : World) (hx : x.ok w) : Calls Try.prog 76 #[x.val, .int .i64 s] w fun e w' => e = .returned (.int .i64 (rightOf x s)) ∧ Below w.heap.size w w' := by
  have HX := Lib.hid hx
  unfold TV.val
  by_cases h1 : 1 ≤ x.id ∧ x.id ≤ 99
  rotate_left
  · have hr : rightOf x s = 1 := by unfold rightOf; rw [if_pos]; unfold idBad; omega
    rw [hr]
    have C := Lib.hid (fun w => within_no x.id 1 99 h1 w)
    clear hr h1 hx
    go_enter Try.func76, Try.ntmps76
    go_wp2_with (go_at_call 51; (with_reducible refine (C.out _).mono ?_); rintro e w1 ⟨rfl, rfl⟩)
    go_ret
    exact ⟨rfl, (by repeat (first | exact Below.refl _ _ | (with_reducible assumption) | refine bw_alloc ?_ _ | refine bw_drew ?_))⟩
  by_cases h2 : 1 ≤ x.p ∧ x.p ≤ 99
  rotate_left
  · have hr : rightOf x s = 1 := by unfold rightOf; rw [if_pos]; unfold idBad; omega
    rw [hr]
    have C := Lib.hid (fun w => within_yes x.id 1 99 h1.1 h1.2 w)
    have D := Lib.hid (fun w => within_no x.p 1 99 h2 w)
    clear hr h1 h2 hx
    go_enter Try.func76, Try.ntmps76
    go_wp2_with (first
      | (go_at_call 51; (with_reducible refine (C.out _).mono ?_); rintro e w1 ⟨rfl, rfl⟩)
      | (go_at_call 51; (with_reducible refine (D.out _).mono ?_); rintro e w1 ⟨rfl, rfl⟩))
    go_ret
    exact ⟨rfl, (by repeat (first | exact Below.refl _ _ | (with_reducible assumption) | refine bw_alloc ?_ _ | refine bw_drew ?_))⟩
  have hid : ¬ idBad x := fun z => z ⟨h1.1, h1.2, h2.1, h2.2⟩
  have C := Lib.hid (fun w => within_yes x.id 1 99 h1.1 h1.2 w)
  have D := Lib.hid (fun w => within_yes x.p 1 99 h2.1 h2.2 w)
  have hr0 : rightOf x s = if cdBad x then 10 else if chBad x then 13 else if usBad x s then 12 else 0 := by unfold rightOf; rw [if_neg hid]
  rw [hr0]
  clear h1 h2 hid hr0
  by_cases h3 : cdBad x
  · rw [if_pos h3]
    clear hx
    unfold cdBad at h3
    have d : decide (x.c < 1) = true ∨ (decide (x.c < 1) = false ∧ decide (x.d < x.c) = true) ∨ (decide (x.c < 1) = false ∧ decide (x.d < x.c) = false ∧ decide (x.t < x.d) = true) ∨ (decide (x.c < 1) = false ∧ decide (x.d < x.c) = false ∧ decide (x.t < x.d) = false ∧ decide (1073741824 < x.t) = true) := by
      simp only [decide_eq_true_eq, decide_eq_false_iff_not]; omega
    clear h3
    rcases d with d1 | ⟨d1, d2⟩ | ⟨d1, d2, d3⟩ | ⟨d1, d2, d3, d4⟩
    all_goals
      go_enter Try.func76, Try.ntmps76
      go_wp2_with (first
        | (go_at_call 51; (with_reducible refine (C.out _).mono ?_); rintro e w1 ⟨rfl, rfl⟩)
        | (go_at_call 51; (with_reducible refine (D.out _).mono ?_); rintro e w1 ⟨rfl, rfl⟩))
      go_ret
      exact ⟨rfl, (by repeat (first | exact Below.refl _ _ | (with_reducible assumption) | refine bw_alloc ?_ _ | refine bw_drew ?_))⟩
  rw [if_neg h3]
  unfold cdBad at h3
  have hc1 : 1 ≤ x.c := by omega
  have hc2 : x.c ≤ 9223372036854775807 := by omega
  have d1 : decide (x.c < 1) = false := decide_eq_false (by omega)
  have d2 : decide (x.d < x.c) = false := decide_eq_false (by omega)
  have d3 : decide (x.t < x.d) = false := decide_eq_false (by omega)
  have d4 : decide (1073741824 < x.t) = false := decide_eq_false (by omega)
  clear h3
  by_cases h4 : 64 < x.ch.length
  · rw [if_pos (show chBad x from .inl h4)]
    have d5 : decide ((64 : Int) < (x.ch.length : Int)) = true := decide_eq_true (by omega)
    clear hc1 hc2 hx
    have h5 : (64 : Int) < (x.ch.length : Int) := by omega
    go_enter Try.func76, Try.ntmps76
    go_wp2_with (first
      | (go_at_call 51; (with_reducible refine (C.out _).mono ?_); rintro e w1 ⟨rfl, rfl⟩)
      | (go_at_call 51; (with_reducible refine (D.out _).mono ?_); rintro e w1 ⟨rfl, rfl⟩))
    go_ret
    exact ⟨rfl, (by repeat (first | exact Below.refl _ _ | (with_reducible assumption) | refine bw_alloc ?_ _ | refine bw_drew ?_))⟩
  have d5 : decide ((64 : Int) < (x.ch.length : Int)) = false := decide_eq_false (by omega)
  have h5 : ¬ (64 : Int) < (x.ch.length : Int) := by omega
  by_cases h6 : fillB (chunksOf x) x.c = true
  rotate_left
  · have hb : chBad x := .inr (by have := mt (fill_chunks x hc1).2 h6; simpa using this)
    rw [if_pos hb]
    have F : Hid (∀ (a : Option Addr) (cap : Nat) (v : World), Ints v a (chunksOf x) → ((chunksOf x).length : Int) ≤ 9223372036854775807 → _) := fun a cap v hv hl => fillC (cap := cap) hx hc2 hv hl (q := false) (by simpa using h6)
    clear hb h6 hc1 hc2 hx h4
    go_enter Try.func76, Try.ntmps76
    go_upto_region 10 with (first
      | (go_at_call 51; (with_reducible refine (C.out _).mono ?_); rintro e w1 ⟨rfl, rfl⟩)
      | (go_at_call 51; (with_reducible refine (D.out _).mono ?_); rintro e w1 ⟨rfl, rfl⟩))
    refine gen_world (Boxed w x s) boxed_new ?_
    intro W1 hw1
    have H1 := Lib.hid hw1
    obtain ⟨_, ⟨c0, c1, c2, c3, c4, c5, c6⟩, e0⟩ := hw1
    have K : Hid (∀ v, Below W1.heap.size W1 v → _) := fun v hb => chunks_under x W1 v hb (HX.out.below H1.out.low)
    have MK : Hid (∀ v, Below W1.heap.size W1 v → (Below W1.heap.size W1 v ∧ v.cell? ⟨w.heap.size, 0, none⟩ = some (.int .i64 x.id) ∧ v.cell? ⟨w.heap.size, 1, none⟩ = some (.int .i64 x.c) ∧ v.cell? ⟨w.heap.size, 2, none⟩ = some (.int .i64 x.d) ∧ v.cell? ⟨w.heap.size, 3, none⟩ = some (.int .i64 x.t) ∧ v.cell? ⟨w.heap.size, 4, none⟩ = some (.int .i64 x.p) ∧ v.cell? ⟨w.heap.size, 5, none⟩ = some (.slice x.a1 x.ch.length x.c1) ∧ v.cell? ⟨w.heap.size, 6, none⟩ = some (.slice x.a2 x.us.length x.c2))) :=
      fun v hb => ⟨hb, (H1.out.below hb).at_.c0, (H1.out.below hb).at_.c1, (H1.out.below hb).at_.c2, (H1.out.below hb).at_.c3, (H1.out.below hb).at_.c4, (H1.out.below hb).at_.c5, (H1.out.below hb).at_.c6⟩
    clear e0
    go_region_held3 (fun v => Below W1.heap.size W1 v ∧ v.cell? ⟨w.heap.size, 0, none⟩ = some (.int .i64 x.id) ∧ v.cell? ⟨w.heap.size, 1, none⟩ = some (.int .i64 x.c) ∧ v.cell? ⟨w.heap.size, 2, none⟩ = some (.int .i64 x.d) ∧ v.cell? ⟨w.heap.size, 3, none⟩ = some (.int .i64 x.t) ∧ v.cell? ⟨w.heap.size, 4, none⟩ = some (.int .i64 x.p) ∧ v.cell? ⟨w.heap.size, 5, none⟩ = some (.slice x.a1 x.ch.length x.c1) ∧ v.cell? ⟨w.heap.size, 6, none⟩ = some (.slice x.a2 x.us.length x.c2)) (exact MK.out _ (by repeat (first | exact Below.refl _ _ | (with_reducible assumption) | refine bw_alloc ?_ _ | refine bw_drew ?_)))
      (first
        | (go_at_call 93; (with_reducible refine (K.out _ (by repeat (first | exact Below.refl _ _ | (with_reducible assumption) | refine bw_alloc ?_ _ | refine bw_drew ?_))).mono ?_); rintro e wx ⟨a, cp, rfl, hI, bx, hl⟩)
        | (go_at_call 92; (with_reducible refine (F.out _ _ _ hI hl).mono ?_); rintro e wy ⟨rfl, rfl⟩))
    all_goals
      have BX := Lib.hid bx
      clear bx hI hl
      go_wp2
      go_ret
      exact ⟨rfl, below_up H1.out.low BX.out⟩
  have hnc : ¬ chBad x := by
    rintro (z | z)
    · exact h4 z
    · exact (fill_chunks x hc1).1 h6 z
  rw [if_neg hnc]
  have F : Hid (∀ (a : Option Addr) (cap : Nat) (v : World), Ints v a (chunksOf x) → ((chunksOf x).length : Int) ≤ 9223372036854775807 → _) := fun a cap v hv hl => fillC (cap := cap) hx hc2 hv hl (q := true) h6
  have hul : (x.us.length : Int) ≤ 9223372036854775807 := by have := hx.l2; have := hx.m2; omega
  clear hnc h6 hc1 hc2 hx h4
  by_cases h7 : 64 < x.us.length
  · rw [if_pos (show usBad x s from .inl h7)]
    have d6 : decide ((64 : Int) < (x.us.length : Int)) = true := decide_eq_true (by omega)
    have h8 : (64 : Int) < (x.us.length : Int) := by omega
    clear h7 hul
    go_enter Try.func76, Try.ntmps76
    go_upto_region 10 with (first
      | (go_at_call 51; (with_reducible refine (C.out _).mono ?_); rintro e w1 ⟨rfl, rfl⟩)
      | (go_at_call 51; (with_reducible refine (D.out _).mono ?_); rintro e w1 ⟨rfl, rfl⟩))
    refine gen_world (Boxed w x s) boxed_new ?_
    intro W1 hw1
    have H1 := Lib.hid hw1
    obtain ⟨_, ⟨c0, c1, c2, c3, c4, c5, c6⟩, e0⟩ := hw1
    have K : Hid (∀ v, Below W1.heap.size W1 v → _) := fun v hb => chunks_under x W1 v hb (HX.out.below H1.out.low)
    have MK : Hid (∀ v, Below W1.heap.size W1 v → (Below W1.heap.size W1 v ∧ v.cell? ⟨w.heap.size, 0, none⟩ = some (.int .i64 x.id) ∧ v.cell? ⟨w.heap.size, 1, none⟩ = some (.int .i64 x.c) ∧ v.cell? ⟨w.heap.size, 2, none⟩ = some (.int .i64 x.d) ∧ v.cell? ⟨w.heap.size, 3, none⟩ = some (.int .i64 x.t) ∧ v.cell? ⟨w.heap.size, 4, none⟩ = some (.int .i64 x.p) ∧ v.cell? ⟨w.heap.size, 5, none⟩ = some (.slice x.a1 x.ch.length x.c1) ∧ v.cell? ⟨w.heap.size, 6, none⟩ = some (.slice x.a2 x.us.length x.c2))) :=
      fun v hb => ⟨hb, (H1.out.below hb).at_.c0, (H1.out.below hb).at_.c1, (H1.out.below hb).at_.c2, (H1.out.below hb).at_.c3, (H1.out.below hb).at_.c4, (H1.out.below hb).at_.c5, (H1.out.below hb).at_.c6⟩
    clear e0
    go_region_held3 (fun v => Below W1.heap.size W1 v ∧ v.cell? ⟨w.heap.size, 0, none⟩ = some (.int .i64 x.id) ∧ v.cell? ⟨w.heap.size, 1, none⟩ = some (.int .i64 x.c) ∧ v.cell? ⟨w.heap.size, 2, none⟩ = some (.int .i64 x.d) ∧ v.cell? ⟨w.heap.size, 3, none⟩ = some (.int .i64 x.t) ∧ v.cell? ⟨w.heap.size, 4, none⟩ = some (.int .i64 x.p) ∧ v.cell? ⟨w.heap.size, 5, none⟩ = some (.slice x.a1 x.ch.length x.c1) ∧ v.cell? ⟨w.heap.size, 6, none⟩ = some (.slice x.a2 x.us.length x.c2)) (exact MK.out _ (by repeat (first | exact Below.refl _ _ | (with_reducible assumption) | refine bw_alloc ?_ _ | refine bw_drew ?_)))
      (first
        | (go_at_call 93; (with_reducible refine (K.out _ (by repeat (first | exact Below.refl _ _ | (with_reducible assumption) | refine bw_alloc ?_ _ | refine bw_drew ?_))).mono ?_); rintro e wx ⟨a, cp, rfl, hI, bx, hl⟩)
        | (go_at_call 92; (with_reducible refine (F.out _ _ _ hI hl).mono ?_); rintro e wy ⟨rfl, rfl⟩))
    all_goals
      have H2 := Lib.hid (H1.out.below bx)
      obtain ⟨_, ⟨f0, f1, f2, f3, f4, f5, f6⟩, g0⟩ := H2.out
      clear bx hI hl c0 c1 c2 c3 c4 c5 c6
      go_wp2
      go_ret
      exact ⟨rfl, H2.out.low⟩
  have d6 : decide ((64 : Int) < (x.us.length : Int)) = false := decide_eq_false (by omega)
  have h8 : ¬ (64 : Int) < (x.us.length : Int) := by omega
  by_cases h9 : x.us.any (badB s) = true
  · rw [if_pos (show usBad x s from .inr h9)]
    have HN := Lib.hid h9
    clear h7 h9
    go_enter Try.func76, Try.ntmps76
    go_upto_region 10 with (first
      | (go_at_call 51; (with_reducible refine (C.out _).mono ?_); rintro e w1 ⟨rfl, rfl⟩)
      | (go_at_call 51; (with_reducible refine (D.out _).mono ?_); rintro e w1 ⟨rfl, rfl⟩))
    refine gen_world (Boxed w x s) boxed_new ?_
    intro W1 hw1
    have H1 := Lib.hid hw1
    obtain ⟨_, ⟨c0, c1, c2, c3, c4, c5, c6⟩, e0⟩ := hw1
    have K : Hid (∀ v, Below W1.heap.size W1 v → _) := fun v hb => chunks_under x W1 v hb (HX.out.below H1.out.low)
    have MK : Hid (∀ v, Below W1.heap.size W1 v → (Below W1.heap.size W1 v ∧ v.cell? ⟨w.heap.size, 0, none⟩ = some (.int .i64 x.id) ∧ v.cell? ⟨w.heap.size, 1, none⟩ = some (.int .i64 x.c) ∧ v.cell? ⟨w.heap.size, 2, none⟩ = some (.int .i64 x.d) ∧ v.cell? ⟨w.heap.size, 3, none⟩ = some (.int .i64 x.t) ∧ v.cell? ⟨w.heap.size, 4, none⟩ = some (.int .i64 x.p) ∧ v.cell? ⟨w.heap.size, 5, none⟩ = some (.slice x.a1 x.ch.length x.c1) ∧ v.cell? ⟨w.heap.size, 6, none⟩ = some (.slice x.a2 x.us.length x.c2))) :=
      fun v hb => ⟨hb, (H1.out.below hb).at_.c0, (H1.out.below hb).at_.c1, (H1.out.below hb).at_.c2, (H1.out.below hb).at_.c3, (H1.out.below hb).at_.c4, (H1.out.below hb).at_.c5, (H1.out.below hb).at_.c6⟩
    clear e0
    go_region_held3 (fun v => Below W1.heap.size W1 v ∧ v.cell? ⟨w.heap.size, 0, none⟩ = some (.int .i64 x.id) ∧ v.cell? ⟨w.heap.size, 1, none⟩ = some (.int .i64 x.c) ∧ v.cell? ⟨w.heap.size, 2, none⟩ = some (.int .i64 x.d) ∧ v.cell? ⟨w.heap.size, 3, none⟩ = some (.int .i64 x.t) ∧ v.cell? ⟨w.heap.size, 4, none⟩ = some (.int .i64 x.p) ∧ v.cell? ⟨w.heap.size, 5, none⟩ = some (.slice x.a1 x.ch.length x.c1) ∧ v.cell? ⟨w.heap.size, 6, none⟩ = some (.slice x.a2 x.us.length x.c2)) (exact MK.out _ (by repeat (first | exact Below.refl _ _ | (with_reducible assumption) | refine bw_alloc ?_ _ | refine bw_drew ?_)))
      (first
        | (go_at_call 93; (with_reducible refine (K.out _ (by repeat (first | exact Below.refl _ _ | (with_reducible assumption) | refine bw_alloc ?_ _ | refine bw_drew ?_))).mono ?_); rintro e wx ⟨a, cp, rfl, hI, bx, hl⟩)
        | (go_at_call 92; (with_reducible refine (F.out _ _ _ hI hl).mono ?_); rintro e wy ⟨rfl, rfl⟩))
    all_goals
      have H2 := Lib.hid (H1.out.below bx)
      obtain ⟨_, ⟨f0, f1, f2, f3, f4, f5, f6⟩, g0⟩ := H2.out
      have G := Lib.hid (contains_any x.a2 x.us.length x.c2 x.us rfl hul s (w.heap.size + 1) _ (HX.out.below H2.out.low).two g0)
      rw [HN.out] at G
      clear bx hI hl c0 c1 c2 c3 c4 c5 c6
      go_wp2_with (go_at_call 94; (with_reducible refine (G.out).mono ?_); rintro e w1 ⟨rfl, rfl⟩)
      go_ret
      exact ⟨rfl, H2.out.low⟩
  · have hnu : ¬ usBad x s := fun z => z.elim h7 h9
    rw [if_neg hnu]
    have HN : Hid (x.us.any (badB s) = false) := by show _ = _; simpa using h9
    clear h7 h9 hnu
    go_enter Try.func76, Try.ntmps76
    go_upto_region 10 with (first
      | (go_at_call 51; (with_reducible refine (C.out _).mono ?_); rintro e w1 ⟨rfl, rfl⟩)
      | (go_at_call 51; (with_reducible refine (D.out _).mono ?_); rintro e w1 ⟨rfl, rfl⟩))
    refine gen_world (Boxed w x s) boxed_new ?_
    intro W1 hw1
    have H1 := Lib.hid hw1
    obtain ⟨_, ⟨c0, c1, c2, c3, c4, c5, c6⟩, e0⟩ := hw1
    have K : Hid (∀ v, Below W1.heap.size W1 v → _) := fun v hb => chunks_under x W1 v hb (HX.out.below H1.out.low)
    have MK : Hid (∀ v, Below W1.heap.size W1 v → (Below W1.heap.size W1 v ∧ v.cell? ⟨w.heap.size, 0, none⟩ = some (.int .i64 x.id) ∧ v.cell? ⟨w.heap.size, 1, none⟩ = some (.int .i64 x.c) ∧ v.cell? ⟨w.heap.size, 2, none⟩ = some (.int .i64 x.d) ∧ v.cell? ⟨w.heap.size, 3, none⟩ = some (.int .i64 x.t) ∧ v.cell? ⟨w.heap.size, 4, none⟩ = some (.int .i64 x.p) ∧ v.cell? ⟨w.heap.size, 5, none⟩ = some (.slice x.a1 x.ch.length x.c1) ∧ v.cell? ⟨w.heap.size, 6, none⟩ = some (.slice x.a2 x.us.length x.c2))) :=
      fun v hb => ⟨hb, (H1.out.below hb).at_.c0, (H1.out.below hb).at_.c1, (H1.out.below hb).at_.c2, (H1.out.below hb).at_.c3, (H1.out.below hb).at_.c4, (H1.out.below hb).at_.c5, (H1.out.below hb).at_.c6⟩
    clear e0
    go_region_held3 (fun v => Below W1.heap.size W1 v ∧ v.cell? ⟨w.heap.size, 0, none⟩ = some (.int .i64 x.id) ∧ v.cell? ⟨w.heap.size, 1, none⟩ = some (.int .i64 x.c) ∧ v.cell? ⟨w.heap.size, 2, none⟩ = some (.int .i64 x.d) ∧ v.cell? ⟨w.heap.size, 3, none⟩ = some (.int .i64 x.t) ∧ v.cell? ⟨w.heap.size, 4, none⟩ = some (.int .i64 x.p) ∧ v.cell? ⟨w.heap.size, 5, none⟩ = some (.slice x.a1 x.ch.length x.c1) ∧ v.cell? ⟨w.heap.size, 6, none⟩ = some (.slice x.a2 x.us.length x.c2)) (exact MK.out _ (by repeat (first | exact Below.refl _ _ | (with_reducible assumption) | refine bw_alloc ?_ _ | refine bw_drew ?_)))
      (first
        | (go_at_call 93; (with_reducible refine (K.out _ (by repeat (first | exact Below.refl _ _ | (with_reducible assumption) | refine bw_alloc ?_ _ | refine bw_drew ?_))).mono ?_); rintro e wx ⟨a, cp, rfl, hI, bx, hl⟩)
        | (go_at_call 92; (with_reducible refine (F.out _ _ _ hI hl).mono ?_); rintro e wy ⟨rfl, rfl⟩))
    all_goals
      have H2 := Lib.hid (H1.out.below bx)
      obtain ⟨_, ⟨f0, f1, f2, f3, f4, f5, f6⟩, g0⟩ := H2.out
      have G := Lib.hid (contains_any x.a2 x.us.length x.c2 x.us rfl hul s (w.heap.size + 1) _ (HX.out.below H2.out.low).two g0)
      rw [HN.out] at G
      clear bx hI hl c0 c1 c2 c3 c4 c5 c6
      go_wp2_with (go_at_call 94; (with_reducible refine (G.out).mono ?_); rintro e w1 ⟨rfl, rfl⟩)
      go_ret
      exact ⟨rfl, H2.out.low⟩
end Go.Proofs.Ytlglncnhhgofoaa

/-
  The walk over what is wrong with a task, by the document's own words.
-/
namespace Go.Proofs.Ytlglncnhhgofoaa
open Go.RowKit Go.Maps

set_option maxRecDepth 100000 in
set_option maxHeartbeats 8000000 in
theorem rright_any (x : TV) (s : Int) (w : World) (hx : x.ok w) : Calls Try.prog 36 #[x.val, .int .i64 s] w fun e w' => e = .returned (.int .i64 (rightOf x s)) ∧ Below w.heap.size w w' := by
  obtain ⟨id, c, d, t, p, a1, ch, c1, a2, us, c2⟩ := x
  obtain ⟨i1, i2, l1, m1, l2, m2⟩ := hx
  simp only at i1 i2 l1 m1 l2 m2
  unfold TV.val
  simp only []
  by_cases h1 : idBad ⟨id, c, d, t, p, a1, ch, c1, a2, us, c2⟩
  · have hr : rightOf ⟨id, c, d, t, p, a1, ch, c1, a2, us, c2⟩ s = 1 := by unfold rightOf; rw [if_pos h1]
    rw [hr]
    clear hr i1 i2
    unfold idBad at h1
    simp only at h1
    have d : decide (id < 1) = true ∨ (decide (id < 1) = false ∧ decide (99 < id) = true) ∨ (decide (id < 1) = false ∧ decide (99 < id) = false ∧ decide (p < 1) = true) ∨ (decide (id < 1) = false ∧ decide (99 < id) = false ∧ decide (p < 1) = false ∧ decide (99 < p) = true) := by
      simp only [decide_eq_true_eq, decide_eq_false_iff_not]; omega
    clear h1
    rcases d with d1 | ⟨d1, d2⟩ | ⟨d1, d2, d3⟩ | ⟨d1, d2, d3, d4⟩
    all_goals
      go_enter Try.func36, Try.ntmps36
      go_wp2
      go_ret
      exact ⟨rfl, (by repeat (first | exact Below.refl _ _ | (with_reducible assumption) | refine bw_alloc ?_ _ | refine bw_drew ?_))⟩
  have hr0 : rightOf ⟨id, c, d, t, p, a1, ch, c1, a2, us, c2⟩ s = if cdBad ⟨id, c, d, t, p, a1, ch, c1, a2, us, c2⟩ then 10 else if chBad ⟨id, c, d, t, p, a1, ch, c1, a2, us, c2⟩ then 13 else if usBad ⟨id, c, d, t, p, a1, ch, c1, a2, us, c2⟩ s then 12 else 0 := by unfold rightOf; rw [if_neg h1]
  rw [hr0]
  unfold idBad at h1
  simp only at h1
  have x1 : decide (id < 1) = false := decide_eq_false (by omega)
  have x2 : decide (99 < id) = false := decide_eq_false (by omega)
  have x3 : decide (p < 1) = false := decide_eq_false (by omega)
  have x4 : decide (99 < p) = false := decide_eq_false (by omega)
  clear h1 hr0
  by_cases h3 : cdBad ⟨id, c, d, t, p, a1, ch, c1, a2, us, c2⟩
  · rw [if_pos h3]
    clear i1 i2
    unfold cdBad at h3
    simp only at h3
    have d : decide (c < 1) = true ∨ (decide (c < 1) = false ∧ decide (d < c) = true) ∨ (decide (c < 1) = false ∧ decide (d < c) = false ∧ decide (t < d) = true) ∨ (decide (c < 1) = false ∧ decide (d < c) = false ∧ decide (t < d) = false ∧ decide (1073741824 < t) = true) := by
      simp only [decide_eq_true_eq, decide_eq_false_iff_not]; omega
    clear h3
    rcases d with d1 | ⟨d1, d2⟩ | ⟨d1, d2, d3⟩ | ⟨d1, d2, d3, d4⟩
    all_goals
      go_enter Try.func36, Try.ntmps36
      go_wp2
      go_ret
      exact ⟨rfl, (by repeat (first | exact Below.refl _ _ | (with_reducible assumption) | refine bw_alloc ?_ _ | refine bw_drew ?_))⟩
  rw [if_neg h3]
  unfold cdBad at h3
  simp only at h3
  have hc1 : 1 ≤ c := by omega
  have hc2 : c ≤ 1073741824 := by omega
  have d1 : decide (c < 1) = false := decide_eq_false (by omega)
  have d2 : decide (d < c) = false := decide_eq_false (by omega)
  have d3 : decide (t < d) = false := decide_eq_false (by omega)
  have d4 : decide (1073741824 < t) = false := decide_eq_false (by omega)
  have I1 := Lib.hid i1
  have I2 := Lib.hid i2
  have HB : Hid ((fillB ch c = false ∧ 0 < ch.length) ∨ 64 < ch.length ↔ chBad ⟨id, c, d, t, p, a1, ch, c1, a2, us, c2⟩) := by
    show _ ↔ _
    unfold chBad
    simp only [ne_eq, ← List.length_eq_zero_iff]
    constructor
    · rintro (⟨h1, h2⟩ | h)
      · exact .inr ⟨by omega, h1⟩
      · exact .inl h
    · rintro (h | ⟨h1, h2⟩)
      · exact .inr h
      · exact .inl ⟨h2, by omega⟩
  have HU : Hid (us.any (badB s) = true ∨ 64 < us.length ↔ usBad ⟨id, c, d, t, p, a1, ch, c1, a2, us, c2⟩ s) := by
    show _ ↔ _
    unfold usBad
    exact or_comm
  generalize hcb : (if chBad ⟨id, c, d, t, p, a1, ch, c1, a2, us, c2⟩ then (13 : Int) else if usBad ⟨id, c, d, t, p, a1, ch, c1, a2, us, c2⟩ s then 12 else 0) = R
  have HR := Lib.hid hcb
  obtain ⟨n, hn⟩ : ∃ n, ch.length = n := ⟨_, rfl⟩
  obtain ⟨m, hm⟩ : ∃ m, us.length = m := ⟨_, rfl⟩
  rw [hn] at l1 HB ⊢
  rw [hm] at l2 HU ⊢
  have HL := Lib.hid hn
  have HM := Lib.hid hm
  have hn9 : (n : Int) ≤ 9223372036854775807 := by omega
  have hm9 : (m : Int) ≤ 9223372036854775807 := by omega
  clear i1 i2 hcb h3 hn hm l1 m1 l2 m2
  go_enter Try.func36, Try.ntmps36
  go_wp2
  go_loop [5, 6] (fun u v => ∃ (k : Nat) (c' : Int), k ≤ n ∧ v = .int .i64 k ∧ u = .int .i64 c' ∧ 0 ≤ c' ∧ c' ≤ 1073741824 ∧ Hid (fillB (ch.drop k) c' = fillB ch c)) (fun _ v => (n - intOf v).toNat)
  case atStart => exact ⟨0, c, by omega, rfl, rfl, by omega, by omega, by show _ = _; rw [List.drop_zero]⟩
  case round =>
    obtain ⟨k, c', hk, rfl, rfl, hc0, hc', HF⟩ := hrel
    by_cases hlt : k < n
    · obtain ⟨x, hx⟩ := nth_of HL.out hlt
      obtain ⟨g, o, rfl, z0⟩ := (I1.out.below (show Below w.heap.size w (w.alloc (.cells #[.int .i64 id, .int .i64 c, .int .i64 d, .int .i64 t, .int .i64 p, .slice a1 n c1, .slice a2 m c2] 36)) from (by repeat (first | exact Below.refl _ _ | (with_reducible assumption) | refine bw_alloc ?_ _ | refine bw_drew ?_)))).at_ hx
      have z1 : w.cell? ⟨g, o + k, none⟩ = some (.int .i64 x) := by
        obtain ⟨g', o', e, z1⟩ := I1.out.at_ hx
        cases e; exact z1
      have hk1 : (k : Int) < (n : Int) := by omega
      have hk0 : (0 : Int) ≤ (k : Int) := by omega
      have hg := block_of_cell z1
      by_cases hb : 1 ≤ x ∧ x ≤ c'
      · have y1 : decide (x < 1) = false := decide_eq_false (by omega)
        have y2 : decide (c' < x) = false := decide_eq_false (by omega)
        have HF2 : Hid (fillB (ch.drop (k + 1)) (c' - x) = fillB ch c) := by
          have := HF.out
          rw [fill_drop hx, if_pos hb] at this
          exact this
        have hw : IntKind.i64.wrap (c' - x) = c' - x := IntWalk.i64_in _ (by omega)
        have hx1 : 0 ≤ c' - x := by omega
        have hx2 : c' - x ≤ 1073741824 := by omega
        clear HF hb hx
        go_wp2
        go_round
        case rel => exact ⟨k + 1, c' - x, by omega, by go_num, by first | rfl | (rw [hw]), hx1, hx2, HF2⟩
        case measure => simp [intOf]; omega
      · have HF2 : Hid (fillB ch c = false) := by
          have := HF.out
          rw [fill_drop hx, if_neg hb] at this
          exact this.symm
        have hR : Hid (R = 13) := by
          show _ = _
          rw [← HR.out, if_pos (HB.out.1 (.inl ⟨HF2.out, by omega⟩))]
        have y : decide (x < 1) = true ∨ (decide (x < 1) = false ∧ decide (c' < x) = true) := by
          simp only [decide_eq_true_eq, decide_eq_false_iff_not]; omega
        clear HF hb hx
        rcases y with y1 | ⟨y1, y2⟩
        all_goals
          go_wp2
          go_ret
          rw [hR.out]
          exact ⟨rfl, (by repeat (first | exact Below.refl _ _ | (with_reducible assumption) | refine bw_alloc ?_ _ | refine bw_drew ?_))⟩
    · obtain rfl : n = k := by omega
      have HF2 : Hid ((c' == 0) = fillB ch c) := by
        have := HF.out
        rw [List.drop_of_length_le (by rw [HL.out]; exact Nat.le_refl _), fillB] at this
        exact this
      clear HF
      by_cases hbad : chBad ⟨id, c, d, t, p, a1, ch, c1, a2, us, c2⟩
      · have hR : Hid (R = 13) := by
          show _ = _
          rw [← HR.out, if_pos hbad]
        have y : decide ((64 : Int) < (n : Int)) = true ∨ (decide ((64 : Int) < (n : Int)) = false ∧ ¬ (64 : Int) < (n : Int) ∧ (0 : Int) < (n : Int) ∧ (c' == 0) = false) := by
          rcases HB.out.2 hbad with ⟨q1, q2⟩ | q
          · by_cases g : (64 : Int) < (n : Int)
            · exact .inl (decide_eq_true g)
            · exact .inr ⟨decide_eq_false g, g, by omega, HF2.out.trans q1⟩
          · exact .inl (decide_eq_true (by omega))
        clear hbad
        rcases y with y1 | ⟨y1, y2, y3, y4⟩
        · have y2 : (64 : Int) < (n : Int) := of_decide_eq_true y1
          go_wp2
          go_ret
          rw [hR.out]
          exact ⟨rfl, (by repeat (first | exact Below.refl _ _ | (with_reducible assumption) | refine bw_alloc ?_ _ | refine bw_drew ?_))⟩
        · have y5 : (c' != 0) = true := by rw [bne, y4]; rfl
          have y6 : 0 < n := by omega
          go_wp2
          go_ret
          rw [hR.out]
          exact ⟨rfl, (by repeat (first | exact Below.refl _ _ | (with_reducible assumption) | refine bw_alloc ?_ _ | refine bw_drew ?_))⟩
      · have HR2 : Hid ((if usBad ⟨id, c, d, t, p, a1, ch, c1, a2, us, c2⟩ s then (12 : Int) else 0) = R) := by
          show _ = _
          rw [← HR.out, if_neg hbad]
        have y1 : ¬ (64 : Int) < (n : Int) := fun z => hbad (HB.out.1 (.inr (by omega)))
        have y : (n = 0) ∨ (0 < n ∧ c' = 0) := by
          rcases Nat.eq_zero_or_pos n with z | z
          · exact .inl z
          · refine .inr ⟨z, ?_⟩
            by_cases g : c' = 0
            · exact g
            · exfalso
              refine hbad (HB.out.1 (.inl ⟨?_, z⟩))
              rw [← HF2.out, beq_eq_false_iff_ne]; exact g
        clear hbad HB HF2 HR
        have y' : (¬ (0 : Int) < (n : Int) ∧ ¬ 0 < n) ∨ ((0 : Int) < (n : Int) ∧ 0 < n ∧ (c' != 0) = false) := by
          rcases y with z | ⟨z, rfl⟩
          · exact .inl ⟨by omega, by omega⟩
          · exact .inr ⟨by omega, z, rfl⟩
        clear y
        rcases y' with ⟨y2, y3⟩ | ⟨y2, y3, y4⟩
        all_goals
          go_wp2
          go_loop [7] (fun u => ∃ k : Nat, k ≤ m ∧ u = .int .i64 k ∧ Hid ((us.take k).any (badB s) = false)) (fun u => (m - intOf u).toNat)
          case atStart => exact ⟨0, by omega, rfl, by show _ = _; simp⟩
          case round =>
            obtain ⟨k, hk, rfl, HS⟩ := hrel
            by_cases hlt2 : k < m
            · obtain ⟨x, hx⟩ := nth_of HM.out hlt2
              obtain ⟨g, o, rfl, z1⟩ := I2.out.at_ hx
              have hk1 : (k : Int) < (m : Int) := by omega
              have hk0 : (0 : Int) ≤ (k : Int) := by omega
              have hg := block_of_cell z1
              by_cases hf : badB s x = true
              · have HF := Lib.hid (any_found hx hf)
                have hR : Hid (R = 12) := by
                  show _ = _
                  rw [← HR2.out, if_pos (HU.out.1 (.inl HF.out))]
                have yy : decide (x < 0) = true ∨ (decide (x < 0) = false ∧ decide (s ≤ x) = true) := by
                  unfold badB at hf
                  simp only [decide_eq_true_eq, decide_eq_false_iff_not] at hf ⊢; omega
                clear hx hf HS
                rcases yy with y6 | ⟨y6, y7⟩
                all_goals
                  go_wp2
                  go_ret
                  rw [hR.out]
                  exact ⟨rfl, (by repeat (first | exact Below.refl _ _ | (with_reducible assumption) | refine bw_alloc ?_ _ | refine bw_drew ?_))⟩
              · have hf2 : badB s x = false := by simpa using hf
                have HS2 := Lib.hid (any_take HS.out hx hf2)
                unfold badB at hf2
                have y6 : decide (x < 0) = false := by simp only [decide_eq_false_iff_not] at hf2 ⊢; omega
                have y7 : decide (s ≤ x) = false := by simp only [decide_eq_false_iff_not] at hf2 ⊢; omega
                clear hx hf hf2 HS
                go_wp2
                go_round
                case rel => exact ⟨k + 1, by omega, by go_num, HS2⟩
                case measure => simp [intOf]; omega
            · obtain rfl : m = k := by omega
              have HF := Lib.hid (any_all HS.out HM.out)
              by_cases h9 : (64 : Int) < (m : Int)
              · have hR : Hid (R = 12) := by
                  show _ = _
                  rw [← HR2.out, if_pos (HU.out.1 (.inr (by omega)))]
                go_wp2
                go_ret
                rw [hR.out]
                exact ⟨rfl, (by repeat (first | exact Below.refl _ _ | (with_reducible assumption) | refine bw_alloc ?_ _ | refine bw_drew ?_))⟩
              · have hR : Hid (R = 0) := by
                  show _ = _
                  rw [← HR2.out, if_neg]
                  intro z
                  rcases HU.out.2 z with q | q
                  · rw [HF.out] at q; cases q
                  · omega
                go_wp2
                go_ret
                rw [hR.out]
                exact ⟨rfl, (by repeat (first | exact Below.refl _ _ | (with_reducible assumption) | refine bw_alloc ?_ _ | refine bw_drew ?_))⟩
end Go.Proofs.Ytlglncnhhgofoaa

/-
  The walks over whether two tasks are the same, by the document's own words.
-/
namespace Go.Proofs.Ytlglncnhhgofoaa
open Go.RowKit Go.Maps

/-- Two tasks in boxes of their own. -/
structure Boxes (w : World) (a1 : Option Addr) (n1 c1 : Nat) (a2 : Option Addr) (n2 c2 : Nat) (b1 : Option Addr) (m1 e1 : Nat) (b2 : Option Addr) (m2 e2 : Nat) (v : World) : Prop where
  low : Below w.heap.size w v
  x5 : v.cell? ⟨w.heap.size, 5, none⟩ = some (.slice a1 n1 c1)
  x6 : v.cell? ⟨w.heap.size, 6, none⟩ = some (.slice a2 n2 c2)
  y5 : v.cell? ⟨w.heap.size + 1, 5, none⟩ = some (.slice b1 m1 e1)
  y6 : v.cell? ⟨w.heap.size + 1, 6, none⟩ = some (.slice b2 m2 e2)
theorem Boxes.below {w v v' : World} {a1 a2 b1 b2 : Option Addr} {n1 c1 n2 c2 m1 e1 m2 e2 : Nat} (h : Boxes w a1 n1 c1 a2 n2 c2 b1 m1 e1 b2 m2 e2 v) (hb : Below v.heap.size v v') : Boxes w a1 n1 c1 a2 n2 c2 b1 m1 e1 b2 m2 e2 v' :=
  ⟨below_up h.low hb, kept_cell hb h.x5, kept_cell hb h.x6, kept_cell hb h.y5, kept_cell hb h.y6⟩
theorem boxes_new {w : World} {i0 i1 i2 i3 i4 j0 j1 j2 j3 j4 : Value} {a1 a2 b1 b2 : Option Addr} {n1 c1 n2 c2 m1 e1 m2 e2 : Nat} {T T' : TypeId} :
    Boxes w a1 n1 c1 a2 n2 c2 b1 m1 e1 b2 m2 e2 ((w.alloc (.cells #[i0, i1, i2, i3, i4, .slice a1 n1 c1, .slice a2 n2 c2] T)).alloc (.cells #[j0, j1, j2, j3, j4, .slice b1 m1 e1, .slice b2 m2 e2] T')) :=
  ⟨(by repeat (first | exact Below.refl _ _ | (with_reducible assumption) | refine bw_alloc ?_ _ | refine bw_drew ?_)), (new_first w _ _ _ 5).trans rfl, (new_first w _ _ _ 6).trans rfl, (new_second w _ _ _ 5).trans rfl, (new_second w _ _ _ 6).trans rfl⟩

end Go.Proofs.Ytlglncnhhgofoaa
