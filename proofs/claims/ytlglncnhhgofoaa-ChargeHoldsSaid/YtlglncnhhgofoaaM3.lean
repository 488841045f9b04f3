/- Texts of this claim, put together: EDef, CArr, CPl, FHold, KW16, KW7, KW8, KW4, KW5, KW9, KW10, KChk, KW18, KW19. -/
import Derived.Test.YtlglncnhhgofoaaM2
import Derived.Maps.Views
set_option linter.unusedVariables false
set_option linter.unusedSimpArgs false

/-
  Which sets a job's ticks use: plain numbers, no program in this text.
-/
namespace Go.Proofs.Ytlglncnhhgofoaa
open Go.RowKit

/-- The set that tick k uses; below 0: none. -/
def useI (us : List Int) (k : Nat) : Int := us.getD (k % us.length) (-1)
/-- What the ticks from a on, below b, use. -/
def inP (us : List Int) (a b : Nat) (x : Nat) : Bool := (List.range b).any fun k => decide (a ≤ k) && decide (useI us k = (x : Int))
theorem inP_iff {us : List Int} {a b x : Nat} : inP us a b x = true ↔ ∃ k, a ≤ k ∧ k < b ∧ useI us k = (x : Int) := by
  unfold inP
  rw [List.any_eq_true]
  constructor
  · rintro ⟨k, h1, h2⟩
    rw [Bool.and_eq_true, decide_eq_true_eq, decide_eq_true_eq] at h2
    exact ⟨k, h2.1, List.mem_range.1 h1, h2.2⟩
  · rintro ⟨k, h1, h2, h3⟩
    exact ⟨k, List.mem_range.2 h2, by rw [decide_eq_true h1, decide_eq_true h3]; rfl⟩
/-- What the ticks of a row use. -/
def tkP (us : List Int) (l : List Nat) (x : Nat) : Bool := l.any fun k => decide (useI us k = (x : Int))
theorem tkP_iff {us : List Int} {l : List Nat} {x : Nat} : tkP us l x = true ↔ ∃ k, k ∈ l ∧ useI us k = (x : Int) := by
  unfold tkP
  rw [List.any_eq_true]
  constructor
  · rintro ⟨k, h1, h2⟩; exact ⟨k, h1, of_decide_eq_true h2⟩
  · rintro ⟨k, h1, h2⟩; exact ⟨k, h1, decide_eq_true h2⟩
theorem bool_ext {a b : Bool} (h : a = true ↔ b = true) : a = b := by
  cases a <;> cases b <;> simp at h <;> rfl
theorem tkP_snoc (us : List Int) (l : List Nat) (k : Nat) : tkP us (l ++ [k]) = orP (tkP us l) (oneP (useI us k)) := by
  funext x
  apply bool_ext
  unfold orP oneP
  rw [tkP_iff, Bool.or_eq_true, tkP_iff, decide_eq_true_eq]
  constructor
  · rintro ⟨j, hj, e⟩
    rcases List.mem_append.1 hj with h | h
    · exact .inl ⟨j, h, e⟩
    · rw [List.mem_singleton] at h; subst h; exact .inr e.symm
  · rintro (⟨j, hj, e⟩ | e)
    · exact ⟨j, List.mem_append_left _ hj, e⟩
    · exact ⟨k, by simp, e.symm⟩
theorem tkP_nil (us : List Int) : tkP us [] = noneP := rfl
/-- The rows that grow: what the first 0, 1, 2 .. ticks of a row use. -/
def rowsOf (us : List Int) (l : List Nat) : List (Nat → Bool) := (List.range (l.length + 1)).map fun j => tkP us (l.take j)
theorem rows_len (us : List Int) (l : List Nat) : (rowsOf us l).length = l.length + 1 := by unfold rowsOf; simp
theorem rows_at (us : List Int) (l : List Nat) {j : Nat} (h : j ≤ l.length) : (rowsOf us l)[j]? = some (tkP us (l.take j)) := by
  unfold rowsOf
  rw [List.getElem?_map, List.getElem?_range (by omega)]; rfl
theorem rows_nil (us : List Int) : rowsOf us [] = [noneP] := rfl
theorem rows_snoc (us : List Int) (l : List Nat) (k : Nat) : rowsOf us (l ++ [k]) = rowsOf us l ++ [tkP us (l ++ [k])] := by
  unfold rowsOf
  rw [List.length_append, List.length_singleton, List.range_succ, List.map_append]
  congr 1
  · apply List.map_congr_left
    intro j hj
    rw [List.take_append_of_le_length (by have := List.mem_range.1 hj; omega)]
  · simp only [List.map_cons, List.map_nil]
    rw [List.take_of_length_le (by simp)]

/-- The ticks from 0 on; the ticks below C, the last one first. -/
def upT (m : Nat) : List Nat := List.range m
def downT (C m : Nat) : List Nat := (List.range m).map fun i => C - 1 - i
theorem upT_len (m : Nat) : (upT m).length = m := by unfold upT; simp
theorem downT_len (C m : Nat) : (downT C m).length = m := by unfold downT; simp
theorem upT_succ (m : Nat) : upT (m + 1) = upT m ++ [m] := List.range_succ
theorem downT_succ (C m : Nat) : downT C (m + 1) = downT C m ++ [C - 1 - m] := by unfold downT; rw [List.range_succ, List.map_append]; rfl
theorem upT_take (m j : Nat) (h : j ≤ m) : (upT m).take j = upT j := by unfold upT; rw [List.take_range]; congr 1; omega
theorem downT_take (C m j : Nat) (h : j ≤ m) : (downT C m).take j = downT C j := by unfold downT; rw [← List.map_take, List.take_range]; congr 2; omega
theorem useI_mod (us : List Int) {a b : Nat} (h : a % us.length = b % us.length) : useI us a = useI us b := by unfold useI; rw [h]
theorem useI_nil (k : Nat) : useI [] k = -1 := by unfold useI; simp
theorem inP_nil (a b x : Nat) : inP [] a b x = false := by
  rw [Bool.eq_false_iff]
  intro h
  obtain ⟨k, _, _, e⟩ := inP_iff.1 h
  rw [useI_nil] at e; omega
theorem tkP_none (l : List Nat) (x : Nat) : tkP [] l x = false := by
  rw [Bool.eq_false_iff]
  intro h
  obtain ⟨k, _, e⟩ := tkP_iff.1 h
  rw [useI_nil] at e; omega
/-- What is used ahead of a place is used within one round. -/
theorem up_all (us : List Int) (m : Nat) : tkP us (upT (min m us.length)) = inP us 0 m := by
  funext x
  rcases Nat.eq_zero_or_pos us.length with h0 | h0
  · obtain rfl := List.length_eq_zero_iff.1 h0
    rw [tkP_none, inP_nil]
  apply bool_ext
  rw [tkP_iff, inP_iff]
  unfold upT
  constructor
  · rintro ⟨k, hk, e⟩
    have := List.mem_range.1 hk
    exact ⟨k, by omega, by omega, e⟩
  · rintro ⟨k, _, hk, e⟩
    have h1 := Nat.mod_lt k h0
    have h2 := Nat.mod_le k us.length
    exact ⟨k % us.length, List.mem_range.2 (by omega), by rw [← e]; exact useI_mod us (Nat.mod_mod _ _)⟩
/-- What is used behind a place is used within the last round. -/
theorem down_all (us : List Int) (C a : Nat) (ha : a ≤ C) : tkP us (downT C (min (C - a) us.length)) = inP us a C := by
  funext x
  rcases Nat.eq_zero_or_pos us.length with h0 | h0
  · obtain rfl := List.length_eq_zero_iff.1 h0
    rw [tkP_none, inP_nil]
  apply bool_ext
  rw [tkP_iff, inP_iff]
  unfold downT
  constructor
  · rintro ⟨k, hk, e⟩
    obtain ⟨i, hi, rfl⟩ := List.mem_map.1 hk
    have := List.mem_range.1 hi
    exact ⟨C - 1 - i, by omega, by omega, e⟩
  · rintro ⟨k, h1, hk, e⟩
    obtain ⟨d, hd⟩ : ∃ d, d = C - 1 - k := ⟨_, rfl⟩
    have h2 := Nat.mod_lt d h0
    have h3 := Nat.mod_le d us.length
    have h4 := Nat.div_add_mod d us.length
    refine ⟨C - 1 - d % us.length, List.mem_map.2 ⟨d % us.length, List.mem_range.2 (by omega), rfl⟩, ?_⟩
    rw [← e]
    apply useI_mod
    rw [show C - 1 - d % us.length = k + us.length * (d / us.length) by omega, Nat.add_mul_mod_self_left]

theorem inP_or (us : List Int) {a b c : Nat} (h1 : a ≤ b) (h2 : b ≤ c) : orP (inP us a b) (inP us b c) = inP us a c := by
  funext x
  apply bool_ext
  unfold orP
  rw [Bool.or_eq_true, inP_iff, inP_iff, inP_iff]
  constructor
  · rintro (⟨k, p, q, e⟩ | ⟨k, p, q, e⟩)
    · exact ⟨k, p, by omega, e⟩
    · exact ⟨k, by omega, q, e⟩
  · rintro ⟨k, p, q, e⟩
    rcases Nat.lt_or_ge k b with g | g
    · exact .inl ⟨k, p, g, e⟩
    · exact .inr ⟨k, g, q, e⟩
theorem inP_empty (us : List Int) {a b : Nat} (h : b ≤ a) : inP us a b = noneP := by
  funext x
  unfold noneP
  rw [Bool.eq_false_iff]
  intro q
  obtain ⟨k, p1, p2, _⟩ := inP_iff.1 q
  omega
theorem inP_mono (us : List Int) {a b a' b' : Nat} (h1 : a' ≤ a) (h2 : b ≤ b') {x : Nat} (h : inP us a b x = true) : inP us a' b' x = true := by
  obtain ⟨k, p, q, e⟩ := inP_iff.1 h
  exact inP_iff.2 ⟨k, by omega, by omega, e⟩
theorem inP_next (us : List Int) (b : Nat) {a : Nat} (h : a ≤ b) : inP us a (b + 1) = orP (inP us a b) (oneP (useI us b)) := by
  rw [← inP_or us h (Nat.le_succ b)]
  funext x
  unfold orP
  congr 1
  apply bool_ext
  unfold oneP
  rw [inP_iff, decide_eq_true_eq]
  constructor
  · rintro ⟨k, p, q, e⟩
    obtain rfl : k = b := by omega
    exact e.symm
  · intro e
    exact ⟨b, by omega, by omega, e.symm⟩
theorem inP_first (us : List Int) {a b : Nat} (h : a < b) : inP us a b = orP (inP us (a + 1) b) (oneP (useI us a)) := by
  rw [← inP_or us (Nat.le_succ a) (show a + 1 ≤ b by omega)]
  funext x
  unfold orP
  rw [Bool.or_comm]
  congr 1
  apply bool_ext
  unfold oneP
  rw [inP_iff, decide_eq_true_eq]
  constructor
  · rintro ⟨k, p, q, e⟩
    obtain rfl : k = a := by omega
    exact e.symm
  · intro e
    exact ⟨a, by omega, by omega, e.symm⟩
/-- Behind one round all has been used. -/
theorem inP_round (us : List Int) {b b' : Nat} (h : us.length ≤ b) (h' : us.length ≤ b') : inP us 0 b = inP us 0 b' := by
  rw [← up_all us b, ← up_all us b']
  congr 2
  omega

/-! ### how many -/
theorem cntN_mono {p q : Nat → Bool} : ∀ {n : Nat}, (∀ x, x < n → p x = true → q x = true) → cntN p n ≤ cntN q n
  | 0, _ => Nat.le_refl _
  | n + 1, h => by
    have ih := cntN_mono (p := p) (q := q) (n := n) (fun x hx => h x (by omega))
    have h1 := h n (by omega)
    simp only [cntN]
    cases hp : p n <;> cases hq : q n <;> simp [hp, hq] at h1 ⊢ <;> omega
theorem cntN_or (p q : Nat → Bool) : ∀ n : Nat, cntN (orP p q) n ≤ cntN p n + cntN q n
  | 0 => Nat.le_refl _
  | n + 1 => by
    have ih := cntN_or p q n
    simp only [cntN]
    unfold orP at ih ⊢
    cases hp : p n <;> cases hq : q n <;> simp <;> omega
theorem cntN_same {p q : Nat → Bool} : ∀ {n : Nat}, (∀ x, x < n → p x = q x) → cntN p n = cntN q n
  | 0, _ => rfl
  | n + 1, h => by
    simp only [cntN]
    rw [cntN_same (n := n) (fun x hx => h x (by omega)), h n (by omega)]
theorem cntN_one (v : Int) : ∀ n : Nat, cntN (oneP v) n ≤ 1 ∧ ((n : Int) ≤ v → cntN (oneP v) n = 0)
  | 0 => ⟨by simp [cntN], fun _ => rfl⟩
  | n + 1 => by
    obtain ⟨h1, h2⟩ := cntN_one v n
    simp only [cntN]
    unfold oneP at h1 h2 ⊢
    by_cases e : (n : Int) = v
    · have h0 := h2 (by omega)
      rw [h0]
      refine ⟨by simp [e], fun h => by omega⟩
    · rw [decide_eq_false e]
      exact ⟨by simpa using h1, fun h => by simpa using h2 (by omega)⟩

/-! ### the most -/
/-- Of the places from 1 to k the first one with the most, and how many these are. -/
def best (f : Nat → Nat) : Nat → Nat × Nat
  | 0 => (0, 0)
  | k + 1 => if (best f k).1 < f (k + 1) then (f (k + 1), k + 1) else best f k
theorem best_ge (f : Nat → Nat) : ∀ {k p : Nat}, 1 ≤ p → p ≤ k → f p ≤ (best f k).1
  | 0, p, h1, h2 => by omega
  | k + 1, p, h1, h2 => by
    unfold best
    by_cases e : p = k + 1
    · subst e; split
      · exact Nat.le_refl _
      · omega
    · have := best_ge f (k := k) h1 (by omega)
      split
      · dsimp only; omega
      · exact this
theorem best_at (f : Nat → Nat) : ∀ (k : Nat), ((best f k).1 = 0 ∧ (best f k).2 = 0) ∨ (0 < (best f k).1 ∧ 1 ≤ (best f k).2 ∧ (best f k).2 ≤ k ∧ f (best f k).2 = (best f k).1 ∧ ∀ p, 1 ≤ p → p < (best f k).2 → f p < (best f k).1)
  | 0 => .inl ⟨rfl, rfl⟩
  | k + 1 => by
    have ih := best_at f k
    unfold best
    split
    · right
      rename_i h
      refine ⟨by dsimp only; omega, by dsimp only; omega, Nat.le_refl _, rfl, fun p h1 h2 => ?_⟩
      dsimp only at h2 ⊢
      exact Nat.lt_of_le_of_lt (best_ge f h1 (by omega)) h
    · rcases ih with h | ⟨a, b, c, d, e⟩
      · exact .inl h
      · exact .inr ⟨a, b, by omega, d, e⟩
theorem best_mono {f g : Nat → Nat} {k : Nat} (h : ∀ p, 1 ≤ p → p ≤ k → f p ≤ g p) : (best f k).1 ≤ (best g k).1 := by
  rcases best_at f k with ⟨a, _⟩ | ⟨_, b, c, d, _⟩
  · omega
  · rw [← d]
    exact Nat.le_trans (h _ b c) (best_ge g b c)
theorem best_add {f g h : Nat → Nat} {k : Nat} (hh : ∀ p, 1 ≤ p → p ≤ k → h p ≤ f p + g p) : (best h k).1 ≤ (best f k).1 + (best g k).1 := by
  rcases best_at h k with ⟨a, _⟩ | ⟨_, b, c, d, _⟩
  · omega
  · rw [← d]
    have h1 := hh _ b c
    have h2 := best_ge f b c
    have h3 := best_ge g b c
    omega
theorem best_le {f : Nat → Nat} {k m : Nat} (h : ∀ p, 1 ≤ p → p ≤ k → f p ≤ m) : (best f k).1 ≤ m := by
  rcases best_at f k with ⟨a, _⟩ | ⟨_, b, c, d, _⟩
  · omega
  · rw [← d]; exact h _ b c

/-- How many of O are useful at a place. -/
def usefulN (us : List Int) (C : Nat) (O : Nat → Bool) (p : Nat) : Nat := cntN (andP (andP (inP us 0 p) (inP us p C)) O) 256
/-- What most tells. -/
def mostOf (us : List Int) (C : Nat) (O : Nat → Bool) : Nat × Nat := best (usefulN us C O) (min (C - 1) us.length)
theorem usefulN_far (us : List Int) {C p : Nat} (O : Nat → Bool) (h : us.length ≤ p) (hC : p < C) (h1 : 1 ≤ p) : usefulN us C O p ≤ (mostOf us C O).1 := by
  rcases Nat.eq_zero_or_pos us.length with h0 | h0
  · obtain rfl := List.length_eq_zero_iff.1 h0
    have : usefulN [] C O p = cntN noneP 256 := cntN_same fun x _ => by unfold andP noneP; rw [inP_nil]; rfl
    rw [this]
    have h2 : ∀ n, cntN noneP n = 0 := by
      intro n
      induction n with
      | zero => rfl
      | succ n ih => simp [cntN, noneP, ih]
    rw [h2]; omega
  · unfold mostOf
    refine Nat.le_trans (m := usefulN us C O us.length) ?_ (best_ge _ h0 (by omega))
    refine cntN_mono fun x _ hx => ?_
    unfold andP at hx ⊢
    rw [Bool.and_eq_true, Bool.and_eq_true] at hx ⊢
    exact ⟨⟨by rw [inP_round us (Nat.le_refl _) h]; exact hx.1.1, inP_mono us h (Nat.le_refl _) hx.1.2⟩, hx.2⟩
theorem most_ge (us : List Int) {C p : Nat} (O : Nat → Bool) (h1 : 1 ≤ p) (hC : p < C) : usefulN us C O p ≤ (mostOf us C O).1 := by
  rcases Nat.lt_or_ge p us.length with h | h
  · exact best_ge _ h1 (by omega)
  · exact usefulN_far us O h hC h1
theorem usefulN_le (us : List Int) (C : Nat) (O : Nat → Bool) (p : Nat) : usefulN us C O p ≤ 256 := cntN_le _ _
theorem most_le (us : List Int) (C : Nat) (O : Nat → Bool) : (mostOf us C O).1 ≤ 256 := best_le fun p _ _ => usefulN_le us C O p

theorem access_use (x : TV) (k : Nat) (hu : x.us ≠ []) : accOf x (k : Int) = (useI x.us k, true) := by
  unfold accOf useI
  rw [if_neg (by omega)]
  have h0 : 0 < x.us.length := List.length_pos_iff.2 hu
  have e : ((k : Int) % x.us.length).toNat = k % x.us.length := by omega
  have hl := Nat.mod_lt k h0
  rw [e, List.getD_eq_getElem?_getD, List.getElem?_eq_getElem hl]
  simp [hu]
end Go.Proofs.Ytlglncnhhgofoaa

/-
  Rows of works, in a box.
-/
namespace Go.Proofs.Ytlglncnhhgofoaa
open Go.RowKit Go.Maps

instance : Inhabited WK := ⟨⟨0, 0, 0, 0, fun _ => false⟩⟩
def WK.cells (k : WK) : List Value := [.int .i64 k.dn, .int .i64 k.dm, .int .i64 k.db, .int .i64 k.rl, .int .u64 (wd k.sn 0), .int .u64 (wd k.sn 1), .int .u64 (wd k.sn 2), .int .u64 (wd k.sn 3)]
/-- A row of m works. -/
def Arr (T : TypeId) (w : World) (g m : Nat) (f : Nat → WK) : Prop :=
  ∃ cur : Array Value, w.heap[g]? = some (.cells cur T (0, 0)) ∧ cur.size = m * 8 ∧ ∀ k, k < m → ∀ j u, (f k).cells[j]? = some u → cur[k * 8 + j]? = some u
theorem Arr.lt {T : TypeId} {w : World} {g m : Nat} {f : Nat → WK} (h : Arr T w g m f) : g < w.heap.size := let ⟨_, hb, _⟩ := h; lt_of_block hb
theorem Arr.free {T : TypeId} {w : World} {g m : Nat} {f : Nat → WK} (h : Arr T w g m f) (o : Nat) : w.frozen? ⟨g, o, none⟩ = false := let ⟨_, hb, _⟩ := h; blk_free hb o
theorem Arr.cells {T : TypeId} {w : World} {g m : Nat} {f : Nat → WK} (h : Arr T w g m f) {k : Nat} (hk : k < m) : w.cell? ⟨g, k * 8, none⟩ = some (.int .i64 (f k).dn) ∧ w.cell? ⟨g, k * 8 + 1, none⟩ = some (.int .i64 (f k).dm) ∧ w.cell? ⟨g, k * 8 + 2, none⟩ = some (.int .i64 (f k).db) ∧ w.cell? ⟨g, k * 8 + 3, none⟩ = some (.int .i64 (f k).rl) ∧ w.cell? ⟨g, k * 8 + 4, none⟩ = some (.int .u64 (wd (f k).sn 0)) ∧ w.cell? ⟨g, k * 8 + 5, none⟩ = some (.int .u64 (wd (f k).sn 1)) ∧ w.cell? ⟨g, k * 8 + 6, none⟩ = some (.int .u64 (wd (f k).sn 2)) ∧ w.cell? ⟨g, k * 8 + 7, none⟩ = some (.int .u64 (wd (f k).sn 3)) := by
  obtain ⟨cur, hb, _, hc⟩ := h
  refine ⟨?_, ?_, ?_, ?_, ?_, ?_, ?_, ?_⟩ <;> rw [blk_cell hb]
  · exact hc k hk 0 _ rfl
  · exact hc k hk 1 _ rfl
  · exact hc k hk 2 _ rfl
  · exact hc k hk 3 _ rfl
  · exact hc k hk 4 _ rfl
  · exact hc k hk 5 _ rfl
  · exact hc k hk 6 _ rfl
  · exact hc k hk 7 _ rfl
theorem Arr.turn {T : TypeId} {S : Nat → Prop} {w w' : World} {g m : Nat} {f : Nat → WK} (h : Arr T w g m f) (ht : Turn S w w') (hn : ¬ S g) : Arr T w' g m f := by
  obtain ⟨cur, hb, h1, h2⟩ := h
  exact ⟨cur, ht.obj hb hn, h1, h2⟩
theorem Arr.below {T : TypeId} {w w' : World} {g m : Nat} {f : Nat → WK} (h : Arr T w g m f) (hb : Below w.heap.size w w') : Arr T w' g m f := h.turn (S := fun _ => False) (Turn.of_below hb) (fun q => q)
theorem Arr.congr {T : TypeId} {w : World} {g m : Nat} {f f' : Nat → WK} (h : Arr T w g m f) (he : ∀ k, k < m → f' k = f k) : Arr T w g m f' := by
  obtain ⟨cur, hb, h1, h2⟩ := h
  exact ⟨cur, hb, h1, fun k hk j u hj => h2 k hk j u (by rw [← he k hk]; exact hj)⟩
def setW (f : Nat → WK) (k : Nat) (x : WK) (i : Nat) : WK := if i = k then x else f i
theorem setW_at (f : Nat → WK) (k : Nat) (x : WK) : setW f k x k = x := if_pos rfl
theorem set8 (cur : Array Value) (b : Nat) (y0 y1 y2 y3 y4 y5 y6 y7 : Value) (hb : b + 8 ≤ cur.size) :
    let c := (((((((cur.setIfInBounds b y0).setIfInBounds (b + 1) y1).setIfInBounds (b + 2) y2).setIfInBounds (b + 3) y3).setIfInBounds (b + 4) y4).setIfInBounds (b + 5) y5).setIfInBounds (b + 6) y6).setIfInBounds (b + 7) y7
    c.size = cur.size ∧ (∀ j u, [y0, y1, y2, y3, y4, y5, y6, y7][j]? = some u → c[b + j]? = some u) ∧ ∀ i, i < b ∨ b + 8 ≤ i → c[i]? = cur[i]? := by
  intro c
  refine ⟨by simp [c], fun j u hj => ?_, fun i hi => ?_⟩
  · match j, hj with
    | 0, hj => simp at hj; subst hj; simp [c, Array.getElem?_setIfInBounds]; omega
    | 1, hj => simp at hj; subst hj; simp [c, Array.getElem?_setIfInBounds]; omega
    | 2, hj => simp at hj; subst hj; simp [c, Array.getElem?_setIfInBounds]; omega
    | 3, hj => simp at hj; subst hj; simp [c, Array.getElem?_setIfInBounds]; omega
    | 4, hj => simp at hj; subst hj; simp [c, Array.getElem?_setIfInBounds]; omega
    | 5, hj => simp at hj; subst hj; simp [c, Array.getElem?_setIfInBounds]; omega
    | 6, hj => simp at hj; subst hj; simp [c, Array.getElem?_setIfInBounds]; omega
    | 7, hj => simp at hj; subst hj; simp [c, Array.getElem?_setIfInBounds]; omega
    | j + 8, hj => simp at hj
  · simp only [c]
    rw [Array.getElem?_setIfInBounds_ne (by omega), Array.getElem?_setIfInBounds_ne (by omega), Array.getElem?_setIfInBounds_ne (by omega), Array.getElem?_setIfInBounds_ne (by omega), Array.getElem?_setIfInBounds_ne (by omega), Array.getElem?_setIfInBounds_ne (by omega), Array.getElem?_setIfInBounds_ne (by omega), Array.getElem?_setIfInBounds_ne (by omega)]
theorem Arr.set {T : TypeId} {w : World} {g m : Nat} {f : Nat → WK} (h : Arr T w g m f) {k : Nat} (hk : k < m) (x : WK) :
    Arr T ((((((((w.setCell ⟨g, k * 8, none⟩ (.int .i64 x.dn)).setCell ⟨g, k * 8 + 1, none⟩ (.int .i64 x.dm)).setCell ⟨g, k * 8 + 2, none⟩ (.int .i64 x.db)).setCell ⟨g, k * 8 + 3, none⟩ (.int .i64 x.rl)).setCell ⟨g, k * 8 + 4, none⟩ (.int .u64 (wd x.sn 0))).setCell ⟨g, k * 8 + 5, none⟩ (.int .u64 (wd x.sn 1))).setCell ⟨g, k * 8 + 6, none⟩ (.int .u64 (wd x.sn 2))).setCell ⟨g, k * 8 + 7, none⟩ (.int .u64 (wd x.sn 3))) g m (setW f k x) := by
  obtain ⟨cur, hb, h1, h2⟩ := h
  have hsz : k * 8 + 8 ≤ cur.size := by rw [h1]; have := Nat.mul_le_mul_right 8 (show k + 1 ≤ m from hk); omega
  obtain ⟨s1, s2, s3⟩ := set8 cur (k * 8) (.int .i64 x.dn) (.int .i64 x.dm) (.int .i64 x.db) (.int .i64 x.rl) (.int .u64 (wd x.sn 0)) (.int .u64 (wd x.sn 1)) (.int .u64 (wd x.sn 2)) (.int .u64 (wd x.sn 3)) hsz
  have b0 : (w.setCell ⟨g, k * 8, none⟩ (.int .i64 x.dn)).heap[g]? = some (.cells (cur.setIfInBounds (k * 8) (.int .i64 x.dn)) T (0, 0)) := blk_set (o := k * 8) hb _
  generalize w.setCell ⟨g, k * 8, none⟩ (.int .i64 x.dn) = w0 at b0 ⊢
  have b1 : (w0.setCell ⟨g, k * 8 + 1, none⟩ (.int .i64 x.dm)).heap[g]? = some (.cells ((cur.setIfInBounds (k * 8) (.int .i64 x.dn)).setIfInBounds (k * 8 + 1) (.int .i64 x.dm)) T (0, 0)) := blk_set (o := k * 8 + 1) b0 _
  generalize w0.setCell ⟨g, k * 8 + 1, none⟩ (.int .i64 x.dm) = w1 at b1 ⊢
  have b2 : (w1.setCell ⟨g, k * 8 + 2, none⟩ (.int .i64 x.db)).heap[g]? = some (.cells (((cur.setIfInBounds (k * 8) (.int .i64 x.dn)).setIfInBounds (k * 8 + 1) (.int .i64 x.dm)).setIfInBounds (k * 8 + 2) (.int .i64 x.db)) T (0, 0)) := blk_set (o := k * 8 + 2) b1 _
  generalize w1.setCell ⟨g, k * 8 + 2, none⟩ (.int .i64 x.db) = w2 at b2 ⊢
  have b3 : (w2.setCell ⟨g, k * 8 + 3, none⟩ (.int .i64 x.rl)).heap[g]? = some (.cells ((((cur.setIfInBounds (k * 8) (.int .i64 x.dn)).setIfInBounds (k * 8 + 1) (.int .i64 x.dm)).setIfInBounds (k * 8 + 2) (.int .i64 x.db)).setIfInBounds (k * 8 + 3) (.int .i64 x.rl)) T (0, 0)) := blk_set (o := k * 8 + 3) b2 _
  generalize w2.setCell ⟨g, k * 8 + 3, none⟩ (.int .i64 x.rl) = w3 at b3 ⊢
  have b4 : (w3.setCell ⟨g, k * 8 + 4, none⟩ (.int .u64 (wd x.sn 0))).heap[g]? = some (.cells (((((cur.setIfInBounds (k * 8) (.int .i64 x.dn)).setIfInBounds (k * 8 + 1) (.int .i64 x.dm)).setIfInBounds (k * 8 + 2) (.int .i64 x.db)).setIfInBounds (k * 8 + 3) (.int .i64 x.rl)).setIfInBounds (k * 8 + 4) (.int .u64 (wd x.sn 0))) T (0, 0)) := blk_set (o := k * 8 + 4) b3 _
  generalize w3.setCell ⟨g, k * 8 + 4, none⟩ (.int .u64 (wd x.sn 0)) = w4 at b4 ⊢
  have b5 : (w4.setCell ⟨g, k * 8 + 5, none⟩ (.int .u64 (wd x.sn 1))).heap[g]? = some (.cells ((((((cur.setIfInBounds (k * 8) (.int .i64 x.dn)).setIfInBounds (k * 8 + 1) (.int .i64 x.dm)).setIfInBounds (k * 8 + 2) (.int .i64 x.db)).setIfInBounds (k * 8 + 3) (.int .i64 x.rl)).setIfInBounds (k * 8 + 4) (.int .u64 (wd x.sn 0))).setIfInBounds (k * 8 + 5) (.int .u64 (wd x.sn 1))) T (0, 0)) := blk_set (o := k * 8 + 5) b4 _
  generalize w4.setCell ⟨g, k * 8 + 5, none⟩ (.int .u64 (wd x.sn 1)) = w5 at b5 ⊢
  have b6 : (w5.setCell ⟨g, k * 8 + 6, none⟩ (.int .u64 (wd x.sn 2))).heap[g]? = some (.cells (((((((cur.setIfInBounds (k * 8) (.int .i64 x.dn)).setIfInBounds (k * 8 + 1) (.int .i64 x.dm)).setIfInBounds (k * 8 + 2) (.int .i64 x.db)).setIfInBounds (k * 8 + 3) (.int .i64 x.rl)).setIfInBounds (k * 8 + 4) (.int .u64 (wd x.sn 0))).setIfInBounds (k * 8 + 5) (.int .u64 (wd x.sn 1))).setIfInBounds (k * 8 + 6) (.int .u64 (wd x.sn 2))) T (0, 0)) := blk_set (o := k * 8 + 6) b5 _
  generalize w5.setCell ⟨g, k * 8 + 6, none⟩ (.int .u64 (wd x.sn 2)) = w6 at b6 ⊢
  have b7 : (w6.setCell ⟨g, k * 8 + 7, none⟩ (.int .u64 (wd x.sn 3))).heap[g]? = some (.cells ((((((((cur.setIfInBounds (k * 8) (.int .i64 x.dn)).setIfInBounds (k * 8 + 1) (.int .i64 x.dm)).setIfInBounds (k * 8 + 2) (.int .i64 x.db)).setIfInBounds (k * 8 + 3) (.int .i64 x.rl)).setIfInBounds (k * 8 + 4) (.int .u64 (wd x.sn 0))).setIfInBounds (k * 8 + 5) (.int .u64 (wd x.sn 1))).setIfInBounds (k * 8 + 6) (.int .u64 (wd x.sn 2))).setIfInBounds (k * 8 + 7) (.int .u64 (wd x.sn 3))) T (0, 0)) := blk_set (o := k * 8 + 7) b6 _
  refine ⟨_, b7, by rw [s1, h1], fun i hi j u hj => ?_⟩
  unfold setW at hj
  by_cases e : i = k
  · subst e
    rw [if_pos rfl] at hj
    exact s2 j u hj
  · rw [if_neg e] at hj
    have hj8 : j < 8 := (List.getElem?_eq_some_iff.1 hj).1
    rw [s3 (i * 8 + j) (by
      rcases Nat.lt_or_gt_of_ne e with q | q
      · left; have := Nat.mul_le_mul_right 8 (show i + 1 ≤ k from q); omega
      · right; have := Nat.mul_le_mul_right 8 (show k + 1 ≤ i from q); omega)]
    exact h2 i hi j u hj
theorem Arr.far {T : TypeId} {w : World} {g m : Nat} {f : Nat → WK} (h : Arr T w g m f) {b o : Nat} (hne : g ≠ b) (v : Value) : Arr T (w.setCell ⟨b, o, none⟩ v) g m f := by
  obtain ⟨cur, hb, h1, h2⟩ := h
  exact ⟨cur, (blk_far (a := ⟨b, o, none⟩) hne v).trans hb, h1, h2⟩
theorem wd_false (k : Nat) : wd (fun _ => false) k = 0 := wd_none k
/-- No work at all. -/
def noWork : WK := ⟨0, 0, 0, 0, fun _ => false⟩
theorem noWork_cells : noWork.cells = [.int .i64 0, .int .i64 0, .int .i64 0, .int .i64 0, .int .u64 0, .int .u64 0, .int .u64 0, .int .u64 0] := by
  unfold WK.cells noWork
  dsimp only
  rw [wd_false, wd_false, wd_false, wd_false]
  rfl
theorem zeros2 (k : Nat) (hk : k < 2) (j : Nat) (u : Value) (hj : noWork.cells[j]? = some u) : (#[Value.int .i64 0, Value.int .i64 0, Value.int .i64 0, Value.int .i64 0, Value.int .u64 0, Value.int .u64 0, Value.int .u64 0, Value.int .u64 0, Value.int .i64 0, Value.int .i64 0, Value.int .i64 0, Value.int .i64 0, Value.int .u64 0, Value.int .u64 0, Value.int .u64 0, Value.int .u64 0] : Array Value)[k * 8 + j]? = some u := by
  rw [noWork_cells] at hj
  match k, hk with
  | 0, _ =>
    match j, hj with
    | 0, hj => exact hj
    | 1, hj => exact hj
    | 2, hj => exact hj
    | 3, hj => exact hj
    | 4, hj => exact hj
    | 5, hj => exact hj
    | 6, hj => exact hj
    | 7, hj => exact hj
    | j + 8, hj => simp at hj
  | 1, _ =>
    match j, hj with
    | 0, hj => exact hj
    | 1, hj => exact hj
    | 2, hj => exact hj
    | 3, hj => exact hj
    | 4, hj => exact hj
    | 5, hj => exact hj
    | 6, hj => exact hj
    | 7, hj => exact hj
    | j + 8, hj => simp at hj
  | k + 2, hk => omega
theorem arr_new2 (T : TypeId) (w : World) : Arr T (w.alloc (.cells #[Value.int .i64 0, Value.int .i64 0, Value.int .i64 0, Value.int .i64 0, Value.int .u64 0, Value.int .u64 0, Value.int .u64 0, Value.int .u64 0, Value.int .i64 0, Value.int .i64 0, Value.int .i64 0, Value.int .i64 0, Value.int .u64 0, Value.int .u64 0, Value.int .u64 0, Value.int .u64 0] T)) w.heap.size 2 (fun _ => noWork) :=
  ⟨_, heap_alloc_new w _, rfl, fun k hk j u hj => zeros2 k hk j u hj⟩
theorem zeros6 (k : Nat) (hk : k < 6) (j : Nat) (u : Value) (hj : noWork.cells[j]? = some u) : (#[Value.int .i64 0, Value.int .i64 0, Value.int .i64 0, Value.int .i64 0, Value.int .u64 0, Value.int .u64 0, Value.int .u64 0, Value.int .u64 0, Value.int .i64 0, Value.int .i64 0, Value.int .i64 0, Value.int .i64 0, Value.int .u64 0, Value.int .u64 0, Value.int .u64 0, Value.int .u64 0, Value.int .i64 0, Value.int .i64 0, Value.int .i64 0, Value.int .i64 0, Value.int .u64 0, Value.int .u64 0, Value.int .u64 0, Value.int .u64 0, Value.int .i64 0, Value.int .i64 0, Value.int .i64 0, Value.int .i64 0, Value.int .u64 0, Value.int .u64 0, Value.int .u64 0, Value.int .u64 0, Value.int .i64 0, Value.int .i64 0, Value.int .i64 0, Value.int .i64 0, Value.int .u64 0, Value.int .u64 0, Value.int .u64 0, Value.int .u64 0, Value.int .i64 0, Value.int .i64 0, Value.int .i64 0, Value.int .i64 0, Value.int .u64 0, Value.int .u64 0, Value.int .u64 0, Value.int .u64 0] : Array Value)[k * 8 + j]? = some u := by
  rw [noWork_cells] at hj
  match k, hk with
  | 0, _ =>
    match j, hj with
    | 0, hj => exact hj
    | 1, hj => exact hj
    | 2, hj => exact hj
    | 3, hj => exact hj
    | 4, hj => exact hj
    | 5, hj => exact hj
    | 6, hj => exact hj
    | 7, hj => exact hj
    | j + 8, hj => simp at hj
  | 1, _ =>
    match j, hj with
    | 0, hj => exact hj
    | 1, hj => exact hj
    | 2, hj => exact hj
    | 3, hj => exact hj
    | 4, hj => exact hj
    | 5, hj => exact hj
    | 6, hj => exact hj
    | 7, hj => exact hj
    | j + 8, hj => simp at hj
  | 2, _ =>
    match j, hj with
    | 0, hj => exact hj
    | 1, hj => exact hj
    | 2, hj => exact hj
    | 3, hj => exact hj
    | 4, hj => exact hj
    | 5, hj => exact hj
    | 6, hj => exact hj
    | 7, hj => exact hj
    | j + 8, hj => simp at hj
  | 3, _ =>
    match j, hj with
    | 0, hj => exact hj
    | 1, hj => exact hj
    | 2, hj => exact hj
    | 3, hj => exact hj
    | 4, hj => exact hj
    | 5, hj => exact hj
    | 6, hj => exact hj
    | 7, hj => exact hj
    | j + 8, hj => simp at hj
  | 4, _ =>
    match j, hj with
    | 0, hj => exact hj
    | 1, hj => exact hj
    | 2, hj => exact hj
    | 3, hj => exact hj
    | 4, hj => exact hj
    | 5, hj => exact hj
    | 6, hj => exact hj
    | 7, hj => exact hj
    | j + 8, hj => simp at hj
  | 5, _ =>
    match j, hj with
    | 0, hj => exact hj
    | 1, hj => exact hj
    | 2, hj => exact hj
    | 3, hj => exact hj
    | 4, hj => exact hj
    | 5, hj => exact hj
    | 6, hj => exact hj
    | 7, hj => exact hj
    | j + 8, hj => simp at hj
  | k + 6, hk => omega
theorem arr_new6 (T : TypeId) (w : World) : Arr T (w.alloc (.cells #[Value.int .i64 0, Value.int .i64 0, Value.int .i64 0, Value.int .i64 0, Value.int .u64 0, Value.int .u64 0, Value.int .u64 0, Value.int .u64 0, Value.int .i64 0, Value.int .i64 0, Value.int .i64 0, Value.int .i64 0, Value.int .u64 0, Value.int .u64 0, Value.int .u64 0, Value.int .u64 0, Value.int .i64 0, Value.int .i64 0, Value.int .i64 0, Value.int .i64 0, Value.int .u64 0, Value.int .u64 0, Value.int .u64 0, Value.int .u64 0, Value.int .i64 0, Value.int .i64 0, Value.int .i64 0, Value.int .i64 0, Value.int .u64 0, Value.int .u64 0, Value.int .u64 0, Value.int .u64 0, Value.int .i64 0, Value.int .i64 0, Value.int .i64 0, Value.int .i64 0, Value.int .u64 0, Value.int .u64 0, Value.int .u64 0, Value.int .u64 0, Value.int .i64 0, Value.int .i64 0, Value.int .i64 0, Value.int .i64 0, Value.int .u64 0, Value.int .u64 0, Value.int .u64 0, Value.int .u64 0] T)) w.heap.size 6 (fun _ => noWork) :=
  ⟨_, heap_alloc_new w _, rfl, fun k hk j u hj => zeros6 k hk j u hj⟩
end Go.Proofs.Ytlglncnhhgofoaa

/-
  What a tick makes of a work, in plain words.
-/
namespace Go.Proofs.Ytlglncnhhgofoaa
open Go.RowKit Go.Maps

theorem wUp_small {x : Int} (h0 : 0 ≤ x) (h1 : x ≤ 4611686018427387904) : wUp x = x + 1 := by unfold wUp; exact IntWalk.i64_in _ (by omega)
/-- One tick of a work that may be stepped. -/
theorem tick_facts {n : Nat} {L : Nat → Int} {id s : Int} {u : Bool} {rel : Int} {k : WK} (hf : Fits id rel k) (h0 : 0 ≤ k.rl) (h1 : k.rl ≤ 4611686018427387904) :
    ∃ dn db rl p q, stepW n L id s u rel k = (⟨dn, k.dm, db, rl, p⟩, q) ∧
      ((q = false ∧ dn = k.dn + 1 ∧ db = 0 ∧ k.db = 0 ∧ rl = k.rl) ∨ (q = true ∧ dn = k.dn ∧ rl = k.rl + 1 ∧ 0 < k.db ∧ db = k.db - 1) ∨ (q = true ∧ dn = k.dn ∧ rl = k.rl + 1 ∧ k.db = 0 ∧ 0 < rel ∧ db = rel - 1)) := by
  have hd : 0 ≤ k.db := hf.2.2.2.2.2
  unfold stepW
  rw [if_pos hf]
  by_cases hp : 0 < k.db
  · rw [if_pos hp]
    exact ⟨_, _, _, _, _, rfl, .inr (.inl ⟨rfl, rfl, wUp_small h0 h1, hp, rfl⟩)⟩
  · rw [if_neg hp]
    have hz : k.db = 0 := by omega
    unfold workW
    split
    · split
      · rename_i hq
        exact ⟨_, _, _, _, _, rfl, .inr (.inr ⟨rfl, rfl, wUp_small h0 h1, hz, hq.2.1, rfl⟩)⟩
      · exact ⟨_, _, _, _, _, rfl, .inl ⟨rfl, rfl, hz, hz, rfl⟩⟩
    · exact ⟨_, _, _, _, _, rfl, .inl ⟨rfl, rfl, hz, hz, rfl⟩⟩
/-- How far a job may have come by the i-th tick. -/
structure Inv (rel : Int) (i : Nat) (k : WK) : Prop where
  d0 : 0 ≤ k.dn
  d1 : k.dn ≤ k.dm
  d2 : k.dm ≤ 24
  b0 : 0 ≤ k.db
  b1 : k.db = 0 ∨ k.db < rel
  r0 : 0 ≤ k.rl
  r1 : k.rl ≤ i
theorem Inv.up {rel : Int} {i : Nat} {k : WK} (h : Inv rel i k) : Inv rel (i + 1) k := ⟨h.d0, h.d1, h.d2, h.b0, h.b1, h.r0, by have := h.r1; omega⟩
theorem inv_none (rel : Int) (i : Nat) : Inv rel i noWork := by
  refine ⟨?_, ?_, ?_, ?_, .inl rfl, ?_, ?_⟩ <;> unfold noWork <;> dsimp only <;> omega
/-- A work that has all to do. -/
def freshW (c : Int) : WK := ⟨0, c, 0, 0, fun _ => false⟩
theorem inv_fresh (rel : Int) (i : Nat) {c : Int} (h0 : 0 ≤ c) (h1 : c ≤ 24) : Inv rel i (freshW c) := by
  refine ⟨?_, ?_, ?_, ?_, .inl rfl, ?_, ?_⟩ <;> unfold freshW <;> dsimp only <;> omega
end Go.Proofs.Ytlglncnhhgofoaa

/-
  What a preemption costs: plain numbers, no program in this text. A job's ticks beside what others take from it.
-/
namespace Go.Proofs.Ytlglncnhhgofoaa
open Go.RowKit

theorem cntN_drop {p q : Nat → Bool} {v : Nat} (hp : p v = true) (hq : q v = false) : ∀ {n : Nat}, v < n → (∀ x, x < n → q x = true → p x = true) → cntN q n + 1 ≤ cntN p n
  | 0, hv, _ => by omega
  | n + 1, hv, h => by
    simp only [cntN]
    by_cases e : v = n
    · subst e
      have := cntN_mono (p := q) (q := p) (n := v) (fun x hx => h x (by omega))
      rw [hp, hq]; simp; exact this
    · have ih := cntN_drop hp hq (n := n) (by omega) (fun x hx => h x (by omega))
      have hn := h n (by omega)
      cases hqn : q n <;> cases hpn : p n <;> simp [hqn, hpn] at hn ⊢ <;> omega

/-- What a job that has come to d has used, will use, and no longer has. -/
def lostP (us : List Int) (C : Nat) (id : Int) (L : Nat → Int) (d : Nat) (x : Nat) : Bool := (inP us 0 d x && inP us d C x) && decide (¬ L x = id)
theorem lost_iff {us : List Int} {C : Nat} {id : Int} {L : Nat → Int} {d x : Nat} : lostP us C id L d x = true ↔ inP us 0 d x = true ∧ inP us d C x = true ∧ ¬ L x = id := by
  unfold lostP
  rw [Bool.and_eq_true, Bool.and_eq_true, decide_eq_true_eq, and_assoc]

/-- A job that has come to d, preempted t times: what it has brought again, what it owes, and what it would have to bring again. -/
structure Held (us : List Int) (C : Nat) (id rel : Int) (M : Nat) (t : Nat) (L : Nat → Int) (d : Nat) (k : WK) : Prop where
  dn : k.dn = (d : Int)
  le : d ≤ C
  dm : k.dm = (C : Int)
  b0 : 0 ≤ k.db
  r0 : 0 ≤ k.rl
  sn : k.sn = inP us 0 d
  sum : k.rl + k.db + rel * (cntN (lostP us C id L d) 256 : Nat) ≤ (t : Int) * (rel * (M : Int))

theorem held_new (us : List Int) (C : Nat) (id rel : Int) (M : Nat) (L : Nat → Int) : Held us C id rel M 0 L 0 (freshW (C : Int)) := by
  refine ⟨rfl, Nat.zero_le _, rfl, Int.le_refl _, Int.le_refl _, ?_, ?_⟩
  · rw [inP_empty us (Nat.le_refl _)]; rfl
  · have : cntN (lostP us C id L 0) 256 = 0 := by
      have h : cntN (lostP us C id L 0) 256 = cntN noneP 256 := cntN_same fun x _ => by
        unfold lostP; rw [inP_empty us (Nat.le_refl _)]; rfl
      rw [h]
      have h2 : ∀ n, cntN noneP n = 0 := by
        intro n
        induction n with
        | zero => rfl
        | succ n ih => simp [cntN, noneP, ih]
      exact h2 _
    rw [this]
    show (0 : Int) + 0 + rel * ((0 : Nat) : Int) ≤ ((0 : Nat) : Int) * _
    simp

/-- Others run: what they take is what they use. -/
theorem Held.away {us : List Int} {C : Nat} {id rel : Int} {M t : Nat} {L L' : Nat → Int} {d : Nat} {k : WK} (h : Held us C id rel M t L d k) (h0 : 0 ≤ rel) (O : Nat → Bool) (hd : d < C)
    (hM : ∀ p, 1 ≤ p → p < C → usefulN us C O p ≤ M) (hL : ∀ x, x < 256 → L' x = L x ∨ O x = true) : Held us C id rel M (t + 1) L' d k := by
  refine ⟨h.dn, h.le, h.dm, h.b0, h.r0, h.sn, ?_⟩
  have hc : cntN (lostP us C id L' d) 256 ≤ cntN (lostP us C id L d) 256 + M := by
    have h1 : cntN (lostP us C id L' d) 256 ≤ cntN (orP (lostP us C id L d) (andP (andP (inP us 0 d) (inP us d C)) O)) 256 := cntN_mono fun x hx hq => by
      obtain ⟨a, b, c⟩ := lost_iff.1 hq
      unfold orP andP
      rw [a, b]
      rcases hL x hx with e | e
      · rw [e] at c
        rw [lost_iff.2 ⟨a, b, c⟩]; rfl
      · rw [e]; simp
    have h2 := cntN_or (lostP us C id L d) (andP (andP (inP us 0 d) (inP us d C)) O) 256
    have h3 : cntN (andP (andP (inP us 0 d) (inP us d C)) O) 256 ≤ M := by
      rcases Nat.eq_zero_or_pos d with e | e
      · subst e
        have : cntN (andP (andP (inP us 0 0) (inP us 0 C)) O) 256 ≤ cntN noneP 256 := cntN_mono fun x _ hq => by
          unfold andP at hq
          rw [inP_empty us (Nat.le_refl _)] at hq
          exact hq
        have h2 : ∀ n, cntN noneP n = 0 := by
          intro n
          induction n with
          | zero => rfl
          | succ n ih => simp [cntN, noneP, ih]
        rw [h2] at this; omega
      · exact hM d e hd
    omega
  have hs := h.sum
  have e1 : rel * (cntN (lostP us C id L' d) 256 : Nat) ≤ rel * ((cntN (lostP us C id L d) 256 : Nat) + (M : Int)) := Int.mul_le_mul_of_nonneg_left (by omega) h0
  rw [Int.mul_add] at e1
  have e2 : ((t + 1 : Nat) : Int) * (rel * (M : Int)) = (t : Int) * (rel * (M : Int)) + rel * (M : Int) := by
    rw [Int.natCast_add, Int.add_mul]; simp
  rw [e2]
  omega

/-- A tick of its own. -/
theorem Held.tick {us : List Int} {C : Nat} {id rel : Int} {M t : Nat} {L : Nat → Int} {d : Nat} {k : WK} {n : Nat} (h : Held us C id rel M t L d k) (hf : Fits id rel k) (hd : d < C) (hn : n ≤ 256)
    (hu0 : 0 ≤ useI us d) (hu1 : useI us d < (n : Int)) (hr : k.rl ≤ 4611686018427387904) :
    ∃ d', Held us C id rel M t (stepL n L id (useI us d) true rel k) d' (stepW n L id (useI us d) true rel k).1 ∧ (d' = d ∨ d' = d + 1) ∧ (stepW n L id (useI us d) true rel k).1.rl ≤ k.rl + 1 := by
  obtain ⟨s, hs⟩ : ∃ s : Nat, useI us d = (s : Int) := ⟨(useI us d).toNat, by omega⟩
  have hsn : s < n := by omega
  have h0 : 0 ≤ rel := hf.2.1
  have hw := wUp_small h.r0 hr
  have hsum := h.sum
  rw [hs]
  unfold stepW stepL
  rw [if_pos hf]
  by_cases hp : 0 < k.db
  · rw [if_pos hp, if_neg (by rintro ⟨_, q⟩; exact q hp)]
    refine ⟨d, ⟨h.dn, h.le, h.dm, ?_, ?_, h.sn, ?_⟩, .inl rfl, ?_⟩
    · dsimp only; omega
    · dsimp only; rw [hw]; have := h.r0; omega
    · dsimp only; rw [hw]; omega
    · dsimp only; rw [hw]; omega
  · have hz : k.db = 0 := by have := h.b0; omega
    rw [if_neg hp, if_pos ⟨hf, hp⟩]
    unfold workW workL
    have hok : (true = true ∧ okSet n (s : Int)) := ⟨rfl, by unfold okSet; omega⟩
    rw [if_pos hok, if_pos hok]
    have hP : inP us d C s = true := inP_iff.2 ⟨d, Nat.le_refl _, hd, hs⟩
    have hput : ∀ x : Nat, ¬ x = s → putL L (s : Int) id x = L x := fun x hx => by unfold putL; rw [if_neg (by omega)]
    have hputs : putL L (s : Int) id s = id := by unfold putL; rw [if_pos rfl]
    split
    · rename_i hq
      obtain ⟨hq1, hq2, hq3⟩ := hq
      have hq4 : inP us 0 d s = true := by
        rw [h.sn] at hq3
        unfold hasP at hq3
        rw [Bool.and_eq_true] at hq3
        exact hq3.2
      have hdrop : cntN (lostP us C id (putL L (s : Int) id) d) 256 + 1 ≤ cntN (lostP us C id L d) 256 := by
        refine cntN_drop (v := s) (lost_iff.2 ⟨hq4, hP, hq1⟩) ?_ (by omega) fun x _ hx => ?_
        · rw [Bool.eq_false_iff]; intro hx; exact (lost_iff.1 hx).2.2 hputs
        · obtain ⟨a, b, c⟩ := lost_iff.1 hx
          have hxs : ¬ x = s := fun e => c (by rw [e]; exact hputs)
          rw [hput x hxs] at c
          exact lost_iff.2 ⟨a, b, c⟩
      refine ⟨d, ⟨h.dn, h.le, h.dm, ?_, ?_, h.sn, ?_⟩, .inl rfl, ?_⟩
      · dsimp only; omega
      · dsimp only; rw [hw]; have := h.r0; omega
      · dsimp only; rw [hw]
        have e1 : rel * ((cntN (lostP us C id (putL L (s : Int) id) d) 256 : Nat) + 1) ≤ rel * (cntN (lostP us C id L d) 256 : Nat) := Int.mul_le_mul_of_nonneg_left (by omega) h0
        rw [Int.mul_add] at e1
        omega
      · dsimp only; rw [hw]; omega
    · have hmono : cntN (lostP us C id (putL L (s : Int) id) (d + 1)) 256 ≤ cntN (lostP us C id L d) 256 := cntN_mono fun x _ hx => by
        obtain ⟨a, b, c⟩ := lost_iff.1 hx
        have hxs : ¬ x = s := fun e => c (by rw [e]; exact hputs)
        rw [hput x hxs] at c
        refine lost_iff.2 ⟨?_, inP_mono us (Nat.le_succ d) (Nat.le_refl _) b, c⟩
        rw [inP_next us d (Nat.zero_le _)] at a
        unfold orP oneP at a
        rw [Bool.or_eq_true, decide_eq_true_eq, hs] at a
        rcases a with a | a
        · exact a
        · exact absurd (by omega) hxs
      refine ⟨d + 1, ⟨?_, hd, h.dm, ?_, h.r0, ?_, ?_⟩, .inr rfl, ?_⟩
      · dsimp only; have := h.dn; omega
      · dsimp only; exact h.b0
      · dsimp only; rw [h.sn, inP_next us d (Nat.zero_le _), hs]; rfl
      · dsimp only
        have e1 : rel * (cntN (lostP us C id (putL L (s : Int) id) (d + 1)) 256 : Nat) ≤ rel * (cntN (lostP us C id L d) 256 : Nat) := Int.mul_le_mul_of_nonneg_left (by omega) h0
        omega
      · dsimp only; omega

/-- What a job brings again, and owes. -/
theorem Held.cost {us : List Int} {C : Nat} {id rel : Int} {M t : Nat} {L : Nat → Int} {d : Nat} {k : WK} (h : Held us C id rel M t L d k) (h0 : 0 ≤ rel) : k.rl + k.db ≤ (t : Int) * (rel * (M : Int)) := by
  have := h.sum
  have e : 0 ≤ rel * (cntN (lostP us C id L d) 256 : Nat) := Int.mul_nonneg h0 (by omega)
  omega

/-- Others' ticks: what another one's tick takes is what it uses. -/
theorem step_takes {n : Nat} {L : Nat → Int} {id s : Int} {u : Bool} {rel : Int} {k : WK} (x : Nat) (h : ¬ stepL n L id s u rel k x = L x) : u = true ∧ s = (x : Int) := by
  unfold stepL at h
  split at h
  · unfold workL at h
    split at h
    · rename_i _ q
      refine ⟨q.1, ?_⟩
      unfold putL at h
      split at h
      · rename_i e; exact e.symm
      · exact absurd rfl h
    · exact absurd rfl h
  · exact absurd rfl h

/-! ### the three ways to tell a charge -/
theorem useful_mono (us : List Int) (C : Nat) {O O' : Nat → Bool} (h : ∀ x, x < 256 → O x = true → O' x = true) (p : Nat) : usefulN us C O p ≤ usefulN us C O' p :=
  cntN_mono fun x hx hq => by
    unfold andP at hq ⊢
    rw [Bool.and_eq_true] at hq ⊢
    exact ⟨hq.1, h x hx hq.2⟩
theorem most_mono (us : List Int) (C : Nat) {O O' : Nat → Bool} (h : ∀ x, x < 256 → O x = true → O' x = true) : (mostOf us C O).1 ≤ (mostOf us C O').1 :=
  best_mono fun p _ _ => useful_mono us C h p
theorem most_used (us : List Int) (C : Nat) (O : Nat → Bool) : (mostOf us C O).1 ≤ cntN O 256 :=
  best_le fun p _ _ => cntN_mono fun x _ hq => by
    unfold andP at hq
    rw [Bool.and_eq_true] at hq
    exact hq.2
theorem cntN_below {O : Nat → Bool} {n : Nat} (h : ∀ x, O x = true → x < n) : ∀ m, cntN O m ≤ n
  | 0 => Nat.zero_le _
  | m + 1 => by
    have ih := cntN_below h m
    have hm := h m
    simp only [cntN]
    cases e : O m
    · simpa using ih
    · have h1 := hm e
      have h2 := cntN_le O m
      simp; omega
theorem most_short (us : List Int) (O : Nat → Bool) : (mostOf us 1 O).1 = 0 := by unfold mostOf; simp [best]
theorem most_apart (us : List Int) (C : Nat) {O : Nat → Bool} (h : ∀ x, x < 256 → O x = true → ¬ inP us 0 C x = true) : (mostOf us C O).1 = 0 := by
  have : (mostOf us C O).1 ≤ 0 := best_le fun p h1 h2 => by
    have : usefulN us C O p ≤ cntN noneP 256 := cntN_mono fun x hx hq => by
      unfold andP at hq
      rw [Bool.and_eq_true, Bool.and_eq_true] at hq
      exact absurd (inP_mono us (Nat.le_refl _) (show p ≤ C by omega) hq.1.1) (h x hx hq.2)
    have h2 : ∀ n, cntN noneP n = 0 := by
      intro n
      induction n with
      | zero => rfl
      | succ n ih => simp [cntN, noneP, ih]
    rw [h2] at this; exact this
  omega
/-- The least of the three is the one by both. -/
theorem both_least (us : List Int) (C : Nat) (O : Nat → Bool) : (mostOf us C O).1 ≤ (mostOf us C (fun _ => true)).1 ∧ (mostOf us C O).1 ≤ cntN O 256 :=
  ⟨most_mono us C fun _ _ _ => rfl, most_used us C O⟩
end Go.Proofs.Ytlglncnhhgofoaa

/-
  The walk over the system that plain numbers mean.
-/
namespace Go.Proofs.Ytlglncnhhgofoaa
open Go.RowKit Go.Maps

/-- What is promised of a system by plain numbers. -/
structure Made (sets r : Int) (L : List TV) : Prop where
  s1 : 1 ≤ sets
  s8 : sets ≤ 8
  r0 : 0 ≤ r
  r3 : r ≤ 3
  pos : 0 < L.length
  six : L.length ≤ 6
  good : ∀ (k : Nat) (x : TV), L[k]? = some x → Good k sets x
/-- The system that comes back. -/
def MadeBack (w : World) (e : Ending) (w' : World) : Prop :=
  ∃ (s r : Int) (a : Option Addr) (n c : Nat) (L : List TV), e = .returned (.agg #[.int .i64 s, .int .i64 r, .slice a n c]) ∧ OwnT w' w.heap.size (.slice a n c) L ∧ AllOk w' L ∧ (∀ x ∈ L, IsI w' x.a1 x.ch ∧ IsI w' x.a2 x.us) ∧ Made s r L ∧ Below w.heap.size w w'

/-- Plain numbers in a box, a system that comes back, one that is being made. -/
structure MakeAt (w : World) (S R : Int) (a : Option Addr) (n cap : Nat) (g : Nat) (s r : Int) (v : Value) (L : List TV) (W : World) : Prop where
  low : Below w.heap.size w W
  gl : w.heap.size + 1 < g
  src : W.heap[w.heap.size]? = some (.cells #[.int .i64 S, .int .i64 R, .slice a n cap] 67 (0, 0))
  res : W.heap[w.heap.size + 1]? = some (.cells #[.int .i64 0, .int .i64 0, .slice none 0 0] 27 (0, 0))
  box : W.heap[g]? = some (.cells #[.int .i64 s, .int .i64 r, v] 27 (0, 0))
  own : OwnT W (g + 1) v L
  ok : AllOk W L
  ints : ∀ x ∈ L, IsI W x.a1 x.ch ∧ IsI W x.a2 x.us
theorem MakeAt.below {w W W' : World} {S R s r : Int} {a : Option Addr} {n cap g : Nat} {v : Value} {L : List TV} (h : MakeAt w S R a n cap g s r v L W) (hb : Below W.heap.size W W') : MakeAt w S R a n cap g s r v L W' :=
  ⟨below_up h.low hb, h.gl, kept_obj hb h.src, kept_obj hb h.res, kept_obj hb h.box, h.own.below hb, h.ok.below hb, fun x hx => ⟨(h.ints x hx).1.below hb, (h.ints x hx).2.below hb⟩⟩
theorem makeAt_new {w W : World} {S R s r : Int} {a : Option Addr} {n cap : Nat} (hl : Below w.heap.size w W) (h1 : W.heap[w.heap.size]? = some (.cells #[.int .i64 S, .int .i64 R, .slice a n cap] 67 (0, 0))) (h2 : W.heap[w.heap.size + 1]? = some (.cells #[.int .i64 0, .int .i64 0, .slice none 0 0] 27 (0, 0))) :
    MakeAt w S R a n cap W.heap.size s r (.slice none 0 0) [] (W.alloc (.cells #[.int .i64 s, .int .i64 r, .slice none 0 0] 27)) :=
  ⟨below_up hl (by repeat (first | exact Below.refl _ _ | (with_reducible assumption) | refine bw_alloc ?_ _ | refine bw_drew ?_)), lt_of_block h2, kept_obj (by repeat (first | exact Below.refl _ _ | (with_reducible assumption) | refine bw_alloc ?_ _ | refine bw_drew ?_)) h1, kept_obj (by repeat (first | exact Below.refl _ _ | (with_reducible assumption) | refine bw_alloc ?_ _ | refine bw_drew ?_)) h2, heap_alloc_new W _, OwnT.nil _ _, (fun x hx => by cases hx), (fun x hx => by cases hx)⟩

/-- A row of numbers is where it was, whatever is stored elsewhere. -/
theorem IsI.kept {w w' : World} {a : Option Addr} {l : List Int} (h : IsI w a l) (hk : ∀ (g : Nat) (cs : Array Value) (T : TypeId) (fr : Nat × Nat), w.heap[g]? = some (.cells cs T fr) → (T = 2 ∨ T = 3) → w'.heap[g]? = w.heap[g]?) : IsI w' a l := by
  rcases h with h | h
  · exact .inl h
  · refine .inr fun g o e => ?_
    obtain ⟨cs, T, fr, h1, h2⟩ := h g o e
    exact ⟨cs, T, fr, (hk g cs T fr h1 h2).trans h1, h2⟩
theorem Ints.kept {w w' : World} {a : Option Addr} {l : List Int} (h : Ints w a l) (hi : IsI w a l) (hk : ∀ (g : Nat) (cs : Array Value) (T : TypeId) (fr : Nat × Nat), w.heap[g]? = some (.cells cs T fr) → (T = 2 ∨ T = 3) → w'.heap[g]? = w.heap[g]?) : Ints w' a l := by
  rcases h with rfl | ⟨g, o, rfl, hc⟩
  · exact .inl rfl
  · rcases hi with rfl | hi
    · exact .inl rfl
    · obtain ⟨cs, T, fr, h1, h2⟩ := hi g o rfl
      refine .inr ⟨g, o, rfl, fun j u hj => ?_⟩
      rw [World.cell?_of_block (hk g cs T fr h1 h2)]; exact hc j u hj
theorem TV.ok.kept {w w' : World} {x : TV} (h : x.ok w) (hi : IsI w x.a1 x.ch ∧ IsI w x.a2 x.us) (hk : ∀ (g : Nat) (cs : Array Value) (T : TypeId) (fr : Nat × Nat), w.heap[g]? = some (.cells cs T fr) → (T = 2 ∨ T = 3) → w'.heap[g]? = w.heap[g]?) : x.ok w' :=
  ⟨h.one.kept hi.1 hk, h.two.kept hi.2 hk, h.l1, h.m1, h.l2, h.m2⟩
theorem OwnT.set {w : World} {B : Nat} {v : Value} {l : List TV} (h : OwnT w B v l) {a : Addr} (ha : a.block < B) (u : Value) : OwnT (w.setCell a u) B v l := ownsRow_setCell_below h ha u
theorem MakeAt.lay {w W w3 : World} {S R s r : Int} {a : Option Addr} {n cap g : Nat} {v v' : Value} {L L' : List TV} (h : MakeAt w S R a n cap g s r v L W) (hb : Below (g + 1) W w3) (hk3 : ∀ (b : Nat) (cs : Array Value) (T : TypeId) (fr : Nat × Nat), W.heap[b]? = some (.cells cs T fr) → (T = 2 ∨ T = 3) → w3.heap[b]? = W.heap[b]?) (ho : OwnT w3 (g + 1) v' L') (hall : ∀ x ∈ L', x.ok W ∧ (IsI W x.a1 x.ch ∧ IsI W x.a2 x.us)) :
    MakeAt w S R a n cap g s r v' L' (w3.setCell ⟨g, 2, none⟩ v') ∧ w3.cell? ⟨g, 2, none⟩ = some v ∧ w3.frozen? ⟨g, 2, none⟩ = false := by
  have hgl := h.gl
  have h3 := kept_objB hb (by omega) h.box
  have hk : ∀ (b : Nat) (cs : Array Value) (T : TypeId) (fr : Nat × Nat), W.heap[b]? = some (.cells cs T fr) → (T = 2 ∨ T = 3) → (w3.setCell ⟨g, 2, none⟩ v').heap[b]? = W.heap[b]? := by
    intro b cs T fr hc hT
    have e1 := hk3 b cs T fr hc hT
    rw [blk_far (a := ⟨g, 2, none⟩) ?_ v']
    · exact e1
    · rintro rfl
      rw [hc] at e1
      rw [h3] at e1
      simp at e1
      rcases hT with q | q <;> rw [q] at e1 <;> exact absurd e1.2.1 (by decide)
  refine ⟨⟨(h.low.trans (hb.mono (by omega))).setCell (p := ⟨g, 2, none⟩) (by show _ ≤ g; omega) _, h.gl, ?_, ?_, (blk_set h3 _).trans rfl, ho.set (by simp) _, fun x hx => (hall x hx).1.kept (hall x hx).2 hk, fun x hx => ⟨(hall x hx).2.1.kept hk, (hall x hx).2.2.kept hk⟩⟩, by rw [blk_cell h3]; rfl, blk_free h3 2⟩
  · rw [blk_far (a := ⟨g, 2, none⟩) (by show _ ≠ g; omega)]; exact kept_objB hb (by omega) h.src
  · rw [blk_far (a := ⟨g, 2, none⟩) (by show _ ≠ g; omega)]; exact kept_objB hb (by omega) h.res
theorem MakeAt.push {w W w3 : World} {S R s r : Int} {a : Option Addr} {n cap g : Nat} {v v' : Value} {L : List TV} {y : TV} (h : MakeAt w S R a n cap g s r v L W) (hg : W.grownBy w3 v.ownBlock) (ho : OwnT w3 (g + 1) v' (L ++ [y])) (hy : y.ok W) (hi : IsI W y.a1 y.ch ∧ IsI W y.a2 y.us) :
    MakeAt w S R a n cap g s r v' (L ++ [y]) (w3.setCell ⟨g, 2, none⟩ v') ∧ w3.cell? ⟨g, 2, none⟩ = some v ∧ w3.frozen? ⟨g, 2, none⟩ = false := by
  have hs : g + 1 ≤ W.heap.size := lt_of_block h.box
  have hb : Below (g + 1) W w3 := (Below.refl _ W).grown hg hs (fun k hk => (h.own.new hk).1)
  refine h.lay hb ?_ ho ?_
  · intro b cs T fr hc hT
    refine hg.block b (lt_of_block hc) ?_
    intro z
    rcases h.own with ⟨_, q | ⟨k', cap', cur', e', hB', h3', _⟩⟩
    · rw [q.1] at z; cases z
    · rw [e'] at z
      simp [Value.ownBlock] at z
      subst z
      rw [hc] at h3'
      simp at h3'
      rcases hT with q | q <;> rw [q] at h3' <;> exact absurd h3'.2.1 (by decide)
  · intro x hx
    rcases List.mem_append.1 hx with q | q
    · exact ⟨h.ok x q, h.ints x q⟩
    · simp at q; subst q; exact ⟨hy, hi⟩
/-- The task of a system that has none. -/
def lone : TV := ⟨1, 1, 4, 4, 10, none, [], 0, none, [], 0⟩
theorem lone_good (s : Int) : Good 0 s lone := ⟨rfl, by simp [lone], by simp [lone], by simp [lone], by simp [lone], by simp [lone], by simp [lone], by simp [lone], .inl rfl, (fun u hu => by simp [lone] at hu), by simp [lone]⟩
theorem lone_own (W : World) (B : Nat) (hB : B ≤ W.heap.size) : OwnT (W.alloc (.cells #[.int .i64 1, .int .i64 1, .int .i64 4, .int .i64 4, .int .i64 10, .slice none 0 0, .slice none 0 0] TT)) B (.slice (some ⟨W.heap.size, 0, none⟩) 1 1) [lone] :=
  World.ownsRow_lit (w := W) #[.int .i64 1, .int .i64 1, .int .i64 4, .int .i64 4, .int .i64 10, .slice none 0 0, .slice none 0 0] 1 hB (by decide) rfl
theorem MakeAt.lone {w W : World} {S R s r : Int} {a : Option Addr} {n cap g : Nat} {v : Value} {L : List TV} (h : MakeAt w S R a n cap g s r v L W) :
    MakeAt w S R a n cap g s r (.slice (some ⟨W.heap.size, 0, none⟩) 1 1) [lone] ((W.alloc (.cells #[.int .i64 1, .int .i64 1, .int .i64 4, .int .i64 4, .int .i64 10, .slice none 0 0, .slice none 0 0] TT)).setCell ⟨g, 2, none⟩ (.slice (some ⟨W.heap.size, 0, none⟩) 1 1)) := by
  have hs : g + 1 ≤ W.heap.size := lt_of_block h.box
  refine (h.lay (L' := [Go.Proofs.Ytlglncnhhgofoaa.lone]) (((Below.refl _ W).alloc (Nat.le_refl _) _).mono hs) ?_ (lone_own W _ hs) ?_).1
  · intro b cs T fr hc _
    exact Below.heap_alloc _ _ _ (lt_of_block hc)
  · intro x hx
    simp at hx; subst hx
    exact ⟨⟨.inl rfl, .inl rfl, by simp [Go.Proofs.Ytlglncnhhgofoaa.lone], by simp [Go.Proofs.Ytlglncnhhgofoaa.lone], by simp [Go.Proofs.Ytlglncnhhgofoaa.lone], by simp [Go.Proofs.Ytlglncnhhgofoaa.lone]⟩, .inl rfl, .inl rfl⟩
/-- The end. -/
theorem MakeAt.done {w W : World} {S R s r : Int} {a a' : Option Addr} {n cap g m c : Nat} {L : List TV} (h : MakeAt w S R a n cap g s r (.slice a' m c) L W) (hL : Made s r L) (x0 x1 x2 : Value) :
    MadeBack w (.returned (.agg #[.int .i64 s, .int .i64 r, .slice a' m c])) (((W.setCell ⟨w.heap.size + 1, 0, none⟩ x0).setCell ⟨w.heap.size + 1, 1, none⟩ x1).setCell ⟨w.heap.size + 1, 2, none⟩ x2) := by
  have hgl := h.gl
  have hb : Below w.heap.size w (((W.setCell ⟨w.heap.size + 1, 0, none⟩ x0).setCell ⟨w.heap.size + 1, 1, none⟩ x1).setCell ⟨w.heap.size + 1, 2, none⟩ x2) :=
    ((h.low.setCell (p := ⟨w.heap.size + 1, 0, none⟩) (Nat.le_succ _) x0).setCell (p := ⟨w.heap.size + 1, 1, none⟩) (Nat.le_succ _) x1).setCell (p := ⟨w.heap.size + 1, 2, none⟩) (Nat.le_succ _) x2
  have ho := ((h.own.set (a := ⟨w.heap.size + 1, 0, none⟩) (Nat.lt_succ_of_lt hgl) x0).set (a := ⟨w.heap.size + 1, 1, none⟩) (Nat.lt_succ_of_lt hgl) x1).set (a := ⟨w.heap.size + 1, 2, none⟩) (Nat.lt_succ_of_lt hgl) x2
  have hk : ∀ (b : Nat) (cs : Array Value) (T : TypeId) (fr : Nat × Nat), W.heap[b]? = some (.cells cs T fr) → (T = 2 ∨ T = 3) → (((W.setCell ⟨w.heap.size + 1, 0, none⟩ x0).setCell ⟨w.heap.size + 1, 1, none⟩ x1).setCell ⟨w.heap.size + 1, 2, none⟩ x2).heap[b]? = W.heap[b]? := by
    intro b cs T fr hc hT
    have hne : b ≠ w.heap.size + 1 := by
      rintro rfl
      rw [h.res] at hc
      simp at hc
      rcases hT with q | q <;> rw [q] at hc <;> exact absurd hc.2.1 (by decide)
    rw [blk_far (a := ⟨w.heap.size + 1, 2, none⟩) hne, blk_far (a := ⟨w.heap.size + 1, 1, none⟩) hne, blk_far (a := ⟨w.heap.size + 1, 0, none⟩) hne]
  exact ⟨s, r, a', m, c, L, rfl, ho.low (by omega), fun x hx => (h.ok x hx).kept (h.ints x hx) hk, fun x hx => ⟨(h.ints x hx).1.kept hk, (h.ints x hx).2.kept hk⟩, hL, hb⟩

set_option maxRecDepth 100000 in
set_option maxHeartbeats 4000000 in
theorem made_any {w : World} {a : Option Addr} {n cap : Nat} {L : List NV} (S R : Int) (hn : Nums w a n cap L) :
    Calls Try.prog 25 #[.agg #[.int .i64 S, .int .i64 R, .slice a n cap]] w (MadeBack w) := by
  have HA := Lib.hid hn
  have hz := zeroSys
  have hn9 := hn.small
  obtain ⟨s, hs⟩ : ∃ s, restI S 8 = s := ⟨_, rfl⟩
  have R1 := Lib.hid (fun w => hs ▸ rest_any S 8 (by omega) (by omega) w)
  have hs0 : 0 ≤ s := by rw [← hs]; exact Int.emod_nonneg _ (by omega)
  have hs1 : s < 8 := by rw [← hs]; exact Int.emod_lt_of_pos _ (by omega)
  have hw1 : IntKind.i64.wrap (1 + s) = 1 + s := IntWalk.i64_in _ (by omega)
  obtain ⟨r, hr, hr2⟩ := and_small R 3 (by omega)
  have hr3 : bits .and .i64 R 3 = (r : Int) := hr2
  have hr9 : (r : Int) ≤ 3 := by omega
  clear hn hs hr2
  go_enter Try.func25, Try.ntmps25
  go_upto_region 1 with fail
  refine gen_world (fun v => Below w.heap.size w v ∧ v.heap[w.heap.size]? = some (.cells #[.int .i64 S, .int .i64 R, .slice a n cap] 67 (0, 0)) ∧ v.heap[w.heap.size + 1]? = some (.cells #[.int .i64 0, .int .i64 0, .slice none 0 0] 27 (0, 0))) ⟨(by repeat (first | exact Below.refl _ _ | (with_reducible assumption) | refine bw_alloc ?_ _ | refine bw_drew ?_)), by rw [Below.heap_alloc _ _ _ (by simp)]; exact heap_alloc_new w _, by have := heap_alloc_new (w.alloc (.cells #[.int .i64 S, .int .i64 R, .slice a n cap] 67)) (.cells #[.int .i64 0, .int .i64 0, .slice none 0 0] 27); rwa [World.size_alloc] at this⟩ ?_
  intro W1 ⟨hl, h1, h2⟩
  have HL := Lib.hid hl
  have H1 := Lib.hid h1
  have H2 := Lib.hid h2
  have e0 : W1.cell? ⟨w.heap.size, 0, none⟩ = some (.int .i64 S) := by rw [blk_cell h1]; rfl
  have e1 : W1.cell? ⟨w.heap.size, 1, none⟩ = some (.int .i64 R) := by rw [blk_cell h1]; rfl
  have hlt := lt_of_block h1
  clear hl h1 h2
  go_cut [3] from 5 to 12 (fun u wx => u = .pointer (some ⟨W1.heap.size, 0, none⟩) ∧ wx = (W1.alloc (.cells #[.int .i64 (1 + s), .int .i64 r, .slice none 0 0] 27)).drew)
  case first =>
    have MK : Hid (∀ v, Below W1.heap.size W1 v → (Below W1.heap.size W1 v ∧ v.cell? ⟨w.heap.size, 0, none⟩ = some (.int .i64 S) ∧ v.cell? ⟨w.heap.size, 1, none⟩ = some (.int .i64 R))) := fun v hb => ⟨hb, kept_cell hb (by rw [blk_cell H1.out]; rfl), kept_cell hb (by rw [blk_cell H1.out]; rfl)⟩
    go_region_held3 (fun v => Below W1.heap.size W1 v ∧ v.cell? ⟨w.heap.size, 0, none⟩ = some (.int .i64 S) ∧ v.cell? ⟨w.heap.size, 1, none⟩ = some (.int .i64 R)) (exact MK.out _ (by repeat (first | exact Below.refl _ _ | (with_reducible assumption) | refine bw_alloc ?_ _ | refine bw_drew ?_))) ((go_at_call 42; (with_reducible refine (R1.out _).mono ?_); rintro e w3 ⟨rfl, rfl⟩))
    all_goals (go_wp2_with fail; go_meet; exact ⟨rfl, rfl⟩)
  case rest =>
    obtain ⟨rfl, rfl⟩ := hcut
    have hgl0 : w.heap.size + 1 < W1.heap.size := lt_of_block H2.out
    go_wp2_with fail
    refine gen_world (MakeAt w S R a n cap W1.heap.size (1 + s) r (.slice none 0 0) []) ((makeAt_new HL.out H1.out H2.out).below (Below.refl _ _).drew) ?_
    intro W3 hw3
    have H3 := Lib.hid hw3
    have hs1' : 1 ≤ 1 + s := by omega
    have hs8' : 1 + s ≤ 8 := by omega
    have hr0 : (0 : Int) ≤ (r : Int) := by omega
    clear hw3 HL H1 H2 e0 e1 hlt hw1 hr3 R1 hs0 hs1
    generalize W1.heap.size = g at *
    generalize 1 + s = s at *
    generalize (r : Int) = r at *
    clear hgl0
    obtain ⟨m, hm⟩ : ∃ m, m = min n 6 := ⟨_, rfl⟩
    have hm1 : m ≤ n := by omega
    have hm6 : m ≤ 6 := by omega
    have hor : m = n ∨ (m = 6 ∧ 6 < n) := by omega
    have HOR := Lib.hid hor
    clear hm hor
    go_loopw [4] (fun u wr => ∃ (k : Nat) (a' : Option Addr) (cp' : Nat) (M : List TV), k ≤ m ∧ u = .int .i64 k ∧ Hid (M.length = k) ∧ Hid (∀ (j : Nat) (x : TV), M[j]? = some x → Good j s x) ∧ Hid (MakeAt w S R a n cap g s r (.slice a' k cp') M wr)) (fun u _ => (m - intOf u).toNat)
    case atStart => exact ⟨0, _, _, [], by omega, rfl, rfl, (fun j x hx => by simp at hx), H3⟩
    case round =>
      obtain ⟨k, a', cp', M, hk, rfl, HML, HMG, HP⟩ := hrel
      clear H3
      have b0 : wr.cell? ⟨g, 0, none⟩ = some (.int .i64 s) := by rw [blk_cell HP.out.box]; rfl
      have b2 : wr.cell? ⟨g, 2, none⟩ = some (.slice a' k cp') := by rw [blk_cell HP.out.box]; rfl
      have s2 : wr.cell? ⟨w.heap.size, 2, none⟩ = some (.slice a n cap) := by rw [blk_cell HP.out.src]; rfl
      have hgw : g < wr.heap.size := lt_of_block HP.out.box
      by_cases hlt : k < m
      · obtain ⟨x, hx⟩ := nth_of HA.out.len (show k < n by omega)
        obtain ⟨g', o', rfl, ⟨c0, c1, c2, c3, c4, c5⟩⟩ := (HA.out.view.below HP.out.low).at_ hx
        have hk1 : (k : Int) < (n : Int) := by omega
        have hk6 : (k : Int) < 6 := by omega
        have hk0 : (0 : Int) ≤ (k : Int) := by omega
        have HXO := Lib.hid ((HA.out.ok x (List.mem_of_getElem? hx)).below HP.out.low)
        have T : Hid (∀ v, Below wr.heap.size wr v → _) := fun v hb => task_any x k s ⟨hk0, hk6⟩ ⟨hs1', hs8'⟩ v (HXO.out.below hb)
        have HSM : Hid (M.length + 1 ≤ 1000000) := by show _ ≤ _; have := HML.out; omega
        have HNN : Hid (M.length + 1 = k + 1) := by show _ = _; rw [HML.out]
        have HL2 : Hid (∀ y, (M ++ [y]).length = k + 1) := fun y => by rw [List.length_append, HML.out]; rfl
        have HG2 : Hid (∀ y, Good k s y → ∀ (j : Nat) (x : TV), (M ++ [y])[j]? = some x → Good j s x) := fun y hy j x hj => by
          rw [List.getElem?_append] at hj
          split at hj
          · exact HMG.out j x hj
          · rename_i q
            have hjk : j = k := by
              have := (List.getElem?_eq_some_iff.1 hj).1
              simp at this
              have := HML.out; omega
            subst hjk
            have hj0 : j - M.length = 0 := by have := HML.out; omega
            rw [hj0] at hj
            simp at hj; subst hj; exact hy
        clear hx
        go_upto_region 5 with fail
        go_region_law (first
          | (refine step_append (m := 1) (l := [y]) rfl (.tmp 25) (.tmp 35) rfl (by rfl) (by rfl) (H5.out.below (by repeat (first | exact Below.refl _ _ | (with_reducible assumption) | refine bw_alloc ?_ _ | refine bw_drew ?_))).own (Nat.le_trans (lt_of_block H5.out.box) ((by repeat (first | exact Below.refl _ _ | (with_reducible assumption) | refine bw_alloc ?_ _ | refine bw_drew ?_)) : Below w5.heap.size w5 _).size) (by first | exact View.of_at (at_new _ _ _) | exact (View.of_at (at_new _ _ _)).below (by repeat (first | exact Below.refl _ _ | (with_reducible assumption) | refine bw_alloc ?_ _ | refine bw_drew ?_))) rfl HSM.out (fun z => by cases z) (k + 1) HNN.out ?_
             intro a3 k3 w3 o3 g3 l3
             obtain ⟨hn, z1, z2⟩ := (H5.out.below (by repeat (first | exact Below.refl _ _ | (with_reducible assumption) | refine bw_alloc ?_ _ | refine bw_drew ?_))).push g3 o3 (HY.out.below (by repeat (first | exact Below.refl _ _ | (with_reducible assumption) | refine bw_alloc ?_ _ | refine bw_drew ?_))) ⟨HI.out.1.below (by repeat (first | exact Below.refl _ _ | (with_reducible assumption) | refine bw_alloc ?_ _ | refine bw_drew ?_)), HI.out.2.below (by repeat (first | exact Below.refl _ _ | (with_reducible assumption) | refine bw_alloc ?_ _ | refine bw_drew ?_))⟩
             have HN := Lib.hid hn
             clear hn o3 g3 l3)
          | (go_simp; (with_reducible refine (T.out _ (by repeat (first | exact Below.refl _ _ | (with_reducible assumption) | refine bw_alloc ?_ _ | refine bw_drew ?_))).mono ?_); rintro e w5 ⟨y, rfl, hy, hgood, b5, hi1, hi2⟩; have H5 := Lib.hid (HP.out.below (below_up (W := wr) (by repeat (first | exact Below.refl _ _ | (with_reducible assumption) | refine bw_alloc ?_ _ | refine bw_drew ?_)) b5)); have b2' : w5.cell? ⟨g, 2, none⟩ = some (.slice a' k cp') := (by rw [blk_cell H5.out.box]; rfl); have hgw5 : g < w5.heap.size := lt_of_block H5.out.box; have HY := Lib.hid hy; have HG := Lib.hid hgood; have HI := Lib.hid (And.intro hi1 hi2); clear hy hgood b5 hi1 hi2))
        all_goals
          go_wp2
          go_roundw
          case rel => exact ⟨k + 1, a3, k3, M ++ [y], by omega, by go_num, HL2.out y, HG2.out y HG.out, HN⟩
          case measure => simp [intOf]; omega
      · obtain rfl : m = k := by omega
        have hr1 : w.heap.size + 1 < wr.heap.size := lt_of_block HP.out.res
        have b1 : wr.cell? ⟨g, 1, none⟩ = some (.int .i64 r) := by rw [blk_cell HP.out.box]; rfl
        have bf := blk_free HP.out.box 2
        have r0 : wr.cell? ⟨w.heap.size + 1, 0, none⟩ = some (.int .i64 0) := by rw [blk_cell HP.out.res]; rfl
        have r1 : wr.cell? ⟨w.heap.size + 1, 1, none⟩ = some (.int .i64 0) := by rw [blk_cell HP.out.res]; rfl
        have r2 : wr.cell? ⟨w.heap.size + 1, 2, none⟩ = some (.slice none 0 0) := by rw [blk_cell HP.out.res]; rfl
        have f0 := blk_free HP.out.res 0
        have f1 := blk_free HP.out.res 1
        have f2 := blk_free HP.out.res 2
        have hgne : ¬ g = w.heap.size + 1 := by have := HP.out.gl; omega
        by_cases hm0 : m = 0
        · have HD := Lib.hid (fun x0 x1 x2 => HP.out.lone.done (⟨hs1', hs8', hr0, hr9, by simp, by simp, (fun j x hx => by
            match j, hx with
            | 0, hx => simp at hx; subst hx; exact lone_good s
            | j + 1, hx => simp at hx)⟩ : Made s r [lone]) x0 x1 x2)
          have d1 : ((m : Int) == 0) = true := by rw [beq_iff_eq]; omega
          have d2 : ¬ (m : Int) < (n : Int) := by have := HOR.out; omega
          have HD2 : Hid (∀ x0 x1 x2, MadeBack w (.returned (.agg #[.int .i64 s, .int .i64 r, .slice (some ⟨wr.heap.size, 0, none⟩) 1 1])) (((((wr.setCell ⟨g, 2, none⟩ (.slice (some ⟨wr.heap.size, 0, none⟩) 1 1)).setCell ⟨w.heap.size + 1, 0, none⟩ x0).setCell ⟨w.heap.size + 1, 1, none⟩ x1).setCell ⟨w.heap.size + 1, 2, none⟩ x2).alloc (.cells #[.int .i64 1, .int .i64 1, .int .i64 4, .int .i64 4, .int .i64 10, .slice none 0 0, .slice none 0 0] TT))) := by
            intro x0 x1 x2
            have := HD.out x0 x1 x2
            rw [World.setCell_alloc_past _ _ _ _ hgw, World.setCell_alloc_past _ _ _ _ (by simpa using hr1), World.setCell_alloc_past _ _ _ _ (by simpa using hr1), World.setCell_alloc_past _ _ _ _ (by simpa using hr1)] at this
            exact this
          clear hm0 HMG HML hm1 HD
          go_wp2_with fail
          exact bodyPost_ret (v := .agg #[.int .i64 s, .int .i64 r, .slice (some ⟨wr.heap.size, 0, none⟩) 1 1]) (by simp [results, Try.results25, go_sem, r0, r1, r2, hr1]) rfl (HD2.out _ _ _)
        · have HD := Lib.hid (fun x0 x1 x2 => HP.out.done (⟨hs1', hs8', hr0, hr9, by rw [HML.out]; omega, by rw [HML.out]; omega, HMG.out⟩ : Made s r M) x0 x1 x2)
          have d1 : ((m : Int) == 0) = false := by rw [beq_eq_false_iff_ne]; omega
          have q1 : ¬ ((m : Int) < (n : Int)) ∨ ((m : Int) < (n : Int) ∧ ¬ ((m : Int) < 6)) := by
            rcases HOR.out with h | ⟨h1, h2⟩
            · left; omega
            · right; omega
          clear HMG HML
          rcases q1 with q1 | ⟨q1, q2⟩
          all_goals
            go_wp2_with fail
            exact bodyPost_ret (v := .agg #[.int .i64 s, .int .i64 r, .slice a' m cp']) (by simp [results, Try.results25, go_sem, r0, r1, r2, hr1]) rfl (HD.out _ _ _)
end Go.Proofs.Ytlglncnhhgofoaa

/-
  The walk over what is wrong with a task.
-/
namespace Go.Proofs.Ytlglncnhhgofoaa
open Go.RowKit Go.Maps

/-- What is wrong with a task, beside so many sets. -/
def idBad (x : TV) : Prop := ¬ (1 ≤ x.id ∧ x.id ≤ 99 ∧ 1 ≤ x.p ∧ x.p ≤ 99)
def cdBad (x : TV) : Prop := ¬ (1 ≤ x.c ∧ x.c ≤ x.d ∧ x.d ≤ x.t ∧ x.t ≤ 1073741824)
def chBad (x : TV) : Prop := 64 < x.ch.length ∨ (x.ch ≠ [] ∧ fillB x.ch x.c = false)
def usBad (x : TV) (s : Int) : Prop := 64 < x.us.length ∨ x.us.any (badB s) = true
instance (x : TV) : Decidable (idBad x) := by unfold idBad; infer_instance
instance (x : TV) : Decidable (cdBad x) := by unfold cdBad; infer_instance
instance (x : TV) : Decidable (chBad x) := by unfold chBad; infer_instance
instance (x : TV) (s : Int) : Decidable (usBad x s) := by unfold usBad; infer_instance
def rightOf (x : TV) (s : Int) : Int := if idBad x then 1 else if cdBad x then 10 else if chBad x then 13 else if usBad x s then 12 else 0

theorem fill_chunks (x : TV) (h : 1 ≤ x.c) : fillB (chunksOf x) x.c = true ↔ ¬ (x.ch ≠ [] ∧ fillB x.ch x.c = false) := by
  unfold chunksOf
  split
  · rename_i e
    rw [fillB, if_pos ⟨h, Int.le_refl _⟩, fillB]
    simp [e]
  · rename_i e
    simp [e]

/-- A task in a box, and its bound in another one. -/
structure Boxed (w : World) (x : TV) (s : Int) (v : World) : Prop where
  low : Below w.heap.size w v
  at_ : AtB v w.heap.size x
  cell : v.cell? ⟨w.heap.size + 1, 0, none⟩ = some (.int .i64 s)
theorem Boxed.below {w v v' : World} {x : TV} {s : Int} (h : Boxed w x s v) (hb : Below v.heap.size v v') : Boxed w x s v' :=
  ⟨below_up h.low hb, h.at_.below hb, kept_cell hb h.cell⟩
theorem boxed_new {w : World} {x : TV} {s : Int} {T T' : TypeId} :
    Boxed w x s ((w.alloc (.cells #[.int .i64 x.id, .int .i64 x.c, .int .i64 x.d, .int .i64 x.t, .int .i64 x.p, .slice x.a1 x.ch.length x.c1, .slice x.a2 x.us.length x.c2] T)).alloc (.cells #[.int .i64 s] T')) :=
  ⟨(by repeat (first | exact Below.refl _ _ | (with_reducible assumption) | refine bw_alloc ?_ _ | refine bw_drew ?_)), (atB_new w x T).below ((Below.refl _ _).alloc (Nat.le_refl _) _), (new_second w _ _ _ 0).trans rfl⟩

theorem fillC {w : World} {x : TV} (hx : x.ok w) (hc : x.c ≤ 9223372036854775807) {a : Option Addr} {cap : Nat} {v : World} (hv : Ints v a (chunksOf x)) (hl : ((chunksOf x).length : Int) ≤ 9223372036854775807) {q : Bool} (hq : fillB (chunksOf x) x.c = q) :
    Calls Try.prog 92 #[.slice a (chunksOf x).length cap, .int .i64 x.c] v fun e w' => e = .returned (.bool q) ∧ v = w' := by
  rw [← hq]
  exact fill_any a _ cap _ rfl hl _ hc v hv

set_option maxRecDepth 100000 in
set_option maxHeartbeats 8000000 in
theorem right_any (x : TV) (s : Int) (w : World) (hx : x.ok w) : Calls Try.prog 76 #[x.val, .int .i64 s] w fun e w' => e = .returned (.int .i64 (rightOf x s)) ∧ Below w.heap.size w w' := by
  have HX := Lib.hid hx
  unfold TV.val
  by_cases h1 : 1 ≤ x.id ∧ x.id ≤ 99
  rotate_left
  · have hr : rightOf x s = 1 := by unfold rightOf; rw [if_pos]; unfold idBad; omega
    rw [hr]
    have C := Lib.hid (fun w => within_no x.id 1 99 h1 w)
    clear hr h1 hx
    go_enter Try.func76, Try.ntmps76
    go_wp2_with (go_at_call 51; (with_reducible refine (C.out _).mono ?_); rintro e w1 ⟨rfl, rfl⟩)
    go_ret
    exact ⟨rfl, (by repeat (first | exact Below.refl _ _ | (with_reducible assumption) | refine bw_alloc ?_ _ | refine bw_drew ?_))⟩
  by_cases h2 : 1 ≤ x.p ∧ x.p ≤ 99
  rotate_left
  · have hr : rightOf x s = 1 := by unfold rightOf; rw [if_pos]; unfold idBad; omega
    rw [hr]
    have C := Lib.hid (fun w => within_yes x.id 1 99 h1.1 h1.2 w)
    have D := Lib.hid (fun w => within_no x.p 1 99 h2 w)
    clear hr h1 h2 hx
    go_enter Try.func76, Try.ntmps76
    go_wp2_with (first
      | (go_at_call 51; (with_reducible refine (C.out _).mono ?_); rintro e w1 ⟨rfl, rfl⟩)
      | (go_at_call 51; (with_reducible refine (D.out _).mono ?_); rintro e w1 ⟨rfl, rfl⟩))
    go_ret
    exact ⟨rfl, (by repeat (first | exact Below.refl _ _ | (with_reducible assumption) | refine bw_alloc ?_ _ | refine bw_drew ?_))⟩
  have hid : ¬ idBad x := fun z => z ⟨h1.1, h1.2, h2.1, h2.2⟩
  have C := Lib.hid (fun w => within_yes x.id 1 99 h1.1 h1.2 w)
  have D := Lib.hid (fun w => within_yes x.p 1 99 h2.1 h2.2 w)
  have hr0 : rightOf x s = if cdBad x then 10 else if chBad x then 13 else if usBad x s then 12 else 0 := by unfold rightOf; rw [if_neg hid]
  rw [hr0]
  clear h1 h2 hid hr0
  by_cases h3 : cdBad x
  · rw [if_pos h3]
    clear hx
    unfold cdBad at h3
    have d : decide (x.c < 1) = true ∨ (decide (x.c < 1) = false ∧ decide (x.d < x.c) = true) ∨ (decide (x.c < 1) = false ∧ decide (x.d < x.c) = false ∧ decide (x.t < x.d) = true) ∨ (decide (x.c < 1) = false ∧ decide (x.d < x.c) = false ∧ decide (x.t < x.d) = false ∧ decide (1073741824 < x.t) = true) := by
      simp only [decide_eq_true_eq, decide_eq_false_iff_not]; omega
    clear h3
    rcases d with d1 | ⟨d1, d2⟩ | ⟨d1, d2, d3⟩ | ⟨d1, d2, d3, d4⟩
    all_goals
      go_enter Try.func76, Try.ntmps76
      go_wp2_with (first
        | (go_at_call 51; (with_reducible refine (C.out _).mono ?_); rintro e w1 ⟨rfl, rfl⟩)
        | (go_at_call 51; (with_reducible refine (D.out _).mono ?_); rintro e w1 ⟨rfl, rfl⟩))
      go_ret
      exact ⟨rfl, (by repeat (first | exact Below.refl _ _ | (with_reducible assumption) | refine bw_alloc ?_ _ | refine bw_drew ?_))⟩
  rw [if_neg h3]
  unfold cdBad at h3
  have hc1 : 1 ≤ x.c := by omega
  have hc2 : x.c ≤ 9223372036854775807 := by omega
  have d1 : decide (x.c < 1) = false := decide_eq_false (by omega)
  have d2 : decide (x.d < x.c) = false := decide_eq_false (by omega)
  have d3 : decide (x.t < x.d) = false := decide_eq_false (by omega)
  have d4 : decide (1073741824 < x.t) = false := decide_eq_false (by omega)
  clear h3
  by_cases h4 : 64 < x.ch.length
  · rw [if_pos (show chBad x from .inl h4)]
    have d5 : decide ((64 : Int) < (x.ch.length : Int)) = true := decide_eq_true (by omega)
    clear hc1 hc2 hx
    have h5 : (64 : Int) < (x.ch.length : Int) := by omega
    go_enter Try.func76, Try.ntmps76
    go_wp2_with (first
      | (go_at_call 51; (with_reducible refine (C.out _).mono ?_); rintro e w1 ⟨rfl, rfl⟩)
      | (go_at_call 51; (with_reducible refine (D.out _).mono ?_); rintro e w1 ⟨rfl, rfl⟩))
    go_ret
    exact ⟨rfl, (by repeat (first | exact Below.refl _ _ | (with_reducible assumption) | refine bw_alloc ?_ _ | refine bw_drew ?_))⟩
  have d5 : decide ((64 : Int) < (x.ch.length : Int)) = false := decide_eq_false (by omega)
  have h5 : ¬ (64 : Int) < (x.ch.length : Int) := by omega
  by_cases h6 : fillB (chunksOf x) x.c = true
  rotate_left
  · have hb : chBad x := .inr (by have := mt (fill_chunks x hc1).2 h6; simpa using this)
    rw [if_pos hb]
    have F : Hid (∀ (a : Option Addr) (cap : Nat) (v : World), Ints v a (chunksOf x) → ((chunksOf x).length : Int) ≤ 9223372036854775807 → _) := fun a cap v hv hl => fillC (cap := cap) hx hc2 hv hl (q := false) (by simpa using h6)
    clear hb h6 hc1 hc2 hx h4
    go_enter Try.func76, Try.ntmps76
    go_upto_region 10 with (first
      | (go_at_call 51; (with_reducible refine (C.out _).mono ?_); rintro e w1 ⟨rfl, rfl⟩)
      | (go_at_call 51; (with_reducible refine (D.out _).mono ?_); rintro e w1 ⟨rfl, rfl⟩))
    refine gen_world (Boxed w x s) boxed_new ?_
    intro W1 hw1
    have H1 := Lib.hid hw1
    obtain ⟨_, ⟨c0, c1, c2, c3, c4, c5, c6⟩, e0⟩ := hw1
    have K : Hid (∀ v, Below W1.heap.size W1 v → _) := fun v hb => chunks_under x W1 v hb (HX.out.below H1.out.low)
    have MK : Hid (∀ v, Below W1.heap.size W1 v → (Below W1.heap.size W1 v ∧ v.cell? ⟨w.heap.size, 0, none⟩ = some (.int .i64 x.id) ∧ v.cell? ⟨w.heap.size, 1, none⟩ = some (.int .i64 x.c) ∧ v.cell? ⟨w.heap.size, 2, none⟩ = some (.int .i64 x.d) ∧ v.cell? ⟨w.heap.size, 3, none⟩ = some (.int .i64 x.t) ∧ v.cell? ⟨w.heap.size, 4, none⟩ = some (.int .i64 x.p) ∧ v.cell? ⟨w.heap.size, 5, none⟩ = some (.slice x.a1 x.ch.length x.c1) ∧ v.cell? ⟨w.heap.size, 6, none⟩ = some (.slice x.a2 x.us.length x.c2))) :=
      fun v hb => ⟨hb, (H1.out.below hb).at_.c0, (H1.out.below hb).at_.c1, (H1.out.below hb).at_.c2, (H1.out.below hb).at_.c3, (H1.out.below hb).at_.c4, (H1.out.below hb).at_.c5, (H1.out.below hb).at_.c6⟩
    clear e0
    go_region_held3 (fun v => Below W1.heap.size W1 v ∧ v.cell? ⟨w.heap.size, 0, none⟩ = some (.int .i64 x.id) ∧ v.cell? ⟨w.heap.size, 1, none⟩ = some (.int .i64 x.c) ∧ v.cell? ⟨w.heap.size, 2, none⟩ = some (.int .i64 x.d) ∧ v.cell? ⟨w.heap.size, 3, none⟩ = some (.int .i64 x.t) ∧ v.cell? ⟨w.heap.size, 4, none⟩ = some (.int .i64 x.p) ∧ v.cell? ⟨w.heap.size, 5, none⟩ = some (.slice x.a1 x.ch.length x.c1) ∧ v.cell? ⟨w.heap.size, 6, none⟩ = some (.slice x.a2 x.us.length x.c2)) (exact MK.out _ (by repeat (first | exact Below.refl _ _ | (with_reducible assumption) | refine bw_alloc ?_ _ | refine bw_drew ?_)))
      (first
        | (go_at_call 93; (with_reducible refine (K.out _ (by repeat (first | exact Below.refl _ _ | (with_reducible assumption) | refine bw_alloc ?_ _ | refine bw_drew ?_))).mono ?_); rintro e wx ⟨a, cp, rfl, hI, bx, hl⟩)
        | (go_at_call 92; (with_reducible refine (F.out _ _ _ hI hl).mono ?_); rintro e wy ⟨rfl, rfl⟩))
    all_goals
      have BX := Lib.hid bx
      clear bx hI hl
      go_wp2
      go_ret
      exact ⟨rfl, below_up H1.out.low BX.out⟩
  have hnc : ¬ chBad x := by
    rintro (z | z)
    · exact h4 z
    · exact (fill_chunks x hc1).1 h6 z
  rw [if_neg hnc]
  have F : Hid (∀ (a : Option Addr) (cap : Nat) (v : World), Ints v a (chunksOf x) → ((chunksOf x).length : Int) ≤ 9223372036854775807 → _) := fun a cap v hv hl => fillC (cap := cap) hx hc2 hv hl (q := true) h6
  have hul : (x.us.length : Int) ≤ 9223372036854775807 := by have := hx.l2; have := hx.m2; omega
  clear hnc h6 hc1 hc2 hx h4
  by_cases h7 : 64 < x.us.length
  · rw [if_pos (show usBad x s from .inl h7)]
    have d6 : decide ((64 : Int) < (x.us.length : Int)) = true := decide_eq_true (by omega)
    have h8 : (64 : Int) < (x.us.length : Int) := by omega
    clear h7 hul
    go_enter Try.func76, Try.ntmps76
    go_upto_region 10 with (first
      | (go_at_call 51; (with_reducible refine (C.out _).mono ?_); rintro e w1 ⟨rfl, rfl⟩)
      | (go_at_call 51; (with_reducible refine (D.out _).mono ?_); rintro e w1 ⟨rfl, rfl⟩))
    refine gen_world (Boxed w x s) boxed_new ?_
    intro W1 hw1
    have H1 := Lib.hid hw1
    obtain ⟨_, ⟨c0, c1, c2, c3, c4, c5, c6⟩, e0⟩ := hw1
    have K : Hid (∀ v, Below W1.heap.size W1 v → _) := fun v hb => chunks_under x W1 v hb (HX.out.below H1.out.low)
    have MK : Hid (∀ v, Below W1.heap.size W1 v → (Below W1.heap.size W1 v ∧ v.cell? ⟨w.heap.size, 0, none⟩ = some (.int .i64 x.id) ∧ v.cell? ⟨w.heap.size, 1, none⟩ = some (.int .i64 x.c) ∧ v.cell? ⟨w.heap.size, 2, none⟩ = some (.int .i64 x.d) ∧ v.cell? ⟨w.heap.size, 3, none⟩ = some (.int .i64 x.t) ∧ v.cell? ⟨w.heap.size, 4, none⟩ = some (.int .i64 x.p) ∧ v.cell? ⟨w.heap.size, 5, none⟩ = some (.slice x.a1 x.ch.length x.c1) ∧ v.cell? ⟨w.heap.size, 6, none⟩ = some (.slice x.a2 x.us.length x.c2))) :=
      fun v hb => ⟨hb, (H1.out.below hb).at_.c0, (H1.out.below hb).at_.c1, (H1.out.below hb).at_.c2, (H1.out.below hb).at_.c3, (H1.out.below hb).at_.c4, (H1.out.below hb).at_.c5, (H1.out.below hb).at_.c6⟩
    clear e0
    go_region_held3 (fun v => Below W1.heap.size W1 v ∧ v.cell? ⟨w.heap.size, 0, none⟩ = some (.int .i64 x.id) ∧ v.cell? ⟨w.heap.size, 1, none⟩ = some (.int .i64 x.c) ∧ v.cell? ⟨w.heap.size, 2, none⟩ = some (.int .i64 x.d) ∧ v.cell? ⟨w.heap.size, 3, none⟩ = some (.int .i64 x.t) ∧ v.cell? ⟨w.heap.size, 4, none⟩ = some (.int .i64 x.p) ∧ v.cell? ⟨w.heap.size, 5, none⟩ = some (.slice x.a1 x.ch.length x.c1) ∧ v.cell? ⟨w.heap.size, 6, none⟩ = some (.slice x.a2 x.us.length x.c2)) (exact MK.out _ (by repeat (first | exact Below.refl _ _ | (with_reducible assumption) | refine bw_alloc ?_ _ | refine bw_drew ?_)))
      (first
        | (go_at_call 93; (with_reducible refine (K.out _ (by repeat (first | exact Below.refl _ _ | (with_reducible assumption) | refine bw_alloc ?_ _ | refine bw_drew ?_))).mono ?_); rintro e wx ⟨a, cp, rfl, hI, bx, hl⟩)
        | (go_at_call 92; (with_reducible refine (F.out _ _ _ hI hl).mono ?_); rintro e wy ⟨rfl, rfl⟩))
    all_goals
      have H2 := Lib.hid (H1.out.below bx)
      obtain ⟨_, ⟨f0, f1, f2, f3, f4, f5, f6⟩, g0⟩ := H2.out
      clear bx hI hl c0 c1 c2 c3 c4 c5 c6
      go_wp2
      go_ret
      exact ⟨rfl, H2.out.low⟩
  have d6 : decide ((64 : Int) < (x.us.length : Int)) = false := decide_eq_false (by omega)
  have h8 : ¬ (64 : Int) < (x.us.length : Int) := by omega
  by_cases h9 : x.us.any (badB s) = true
  · rw [if_pos (show usBad x s from .inr h9)]
    have HN := Lib.hid h9
    clear h7 h9
    go_enter Try.func76, Try.ntmps76
    go_upto_region 10 with (first
      | (go_at_call 51; (with_reducible refine (C.out _).mono ?_); rintro e w1 ⟨rfl, rfl⟩)
      | (go_at_call 51; (with_reducible refine (D.out _).mono ?_); rintro e w1 ⟨rfl, rfl⟩))
    refine gen_world (Boxed w x s) boxed_new ?_
    intro W1 hw1
    have H1 := Lib.hid hw1
    obtain ⟨_, ⟨c0, c1, c2, c3, c4, c5, c6⟩, e0⟩ := hw1
    have K : Hid (∀ v, Below W1.heap.size W1 v → _) := fun v hb => chunks_under x W1 v hb (HX.out.below H1.out.low)
    have MK : Hid (∀ v, Below W1.heap.size W1 v → (Below W1.heap.size W1 v ∧ v.cell? ⟨w.heap.size, 0, none⟩ = some (.int .i64 x.id) ∧ v.cell? ⟨w.heap.size, 1, none⟩ = some (.int .i64 x.c) ∧ v.cell? ⟨w.heap.size, 2, none⟩ = some (.int .i64 x.d) ∧ v.cell? ⟨w.heap.size, 3, none⟩ = some (.int .i64 x.t) ∧ v.cell? ⟨w.heap.size, 4, none⟩ = some (.int .i64 x.p) ∧ v.cell? ⟨w.heap.size, 5, none⟩ = some (.slice x.a1 x.ch.length x.c1) ∧ v.cell? ⟨w.heap.size, 6, none⟩ = some (.slice x.a2 x.us.length x.c2))) :=
      fun v hb => ⟨hb, (H1.out.below hb).at_.c0, (H1.out.below hb).at_.c1, (H1.out.below hb).at_.c2, (H1.out.below hb).at_.c3, (H1.out.below hb).at_.c4, (H1.out.below hb).at_.c5, (H1.out.below hb).at_.c6⟩
    clear e0
    go_region_held3 (fun v => Below W1.heap.size W1 v ∧ v.cell? ⟨w.heap.size, 0, none⟩ = some (.int .i64 x.id) ∧ v.cell? ⟨w.heap.size, 1, none⟩ = some (.int .i64 x.c) ∧ v.cell? ⟨w.heap.size, 2, none⟩ = some (.int .i64 x.d) ∧ v.cell? ⟨w.heap.size, 3, none⟩ = some (.int .i64 x.t) ∧ v.cell? ⟨w.heap.size, 4, none⟩ = some (.int .i64 x.p) ∧ v.cell? ⟨w.heap.size, 5, none⟩ = some (.slice x.a1 x.ch.length x.c1) ∧ v.cell? ⟨w.heap.size, 6, none⟩ = some (.slice x.a2 x.us.length x.c2)) (exact MK.out _ (by repeat (first | exact Below.refl _ _ | (with_reducible assumption) | refine bw_alloc ?_ _ | refine bw_drew ?_)))
      (first
        | (go_at_call 93; (with_reducible refine (K.out _ (by repeat (first | exact Below.refl _ _ | (with_reducible assumption) | refine bw_alloc ?_ _ | refine bw_drew ?_))).mono ?_); rintro e wx ⟨a, cp, rfl, hI, bx, hl⟩)
        | (go_at_call 92; (with_reducible refine (F.out _ _ _ hI hl).mono ?_); rintro e wy ⟨rfl, rfl⟩))
    all_goals
      have H2 := Lib.hid (H1.out.below bx)
      obtain ⟨_, ⟨f0, f1, f2, f3, f4, f5, f6⟩, g0⟩ := H2.out
      have G := Lib.hid (contains_any x.a2 x.us.length x.c2 x.us rfl hul s (w.heap.size + 1) _ (HX.out.below H2.out.low).two g0)
      rw [HN.out] at G
      clear bx hI hl c0 c1 c2 c3 c4 c5 c6
      go_wp2_with (go_at_call 94; (with_reducible refine (G.out).mono ?_); rintro e w1 ⟨rfl, rfl⟩)
      go_ret
      exact ⟨rfl, H2.out.low⟩
  · have hnu : ¬ usBad x s := fun z => z.elim h7 h9
    rw [if_neg hnu]
    have HN : Hid (x.us.any (badB s) = false) := by show _ = _; simpa using h9
    clear h7 h9 hnu
    go_enter Try.func76, Try.ntmps76
    go_upto_region 10 with (first
      | (go_at_call 51; (with_reducible refine (C.out _).mono ?_); rintro e w1 ⟨rfl, rfl⟩)
      | (go_at_call 51; (with_reducible refine (D.out _).mono ?_); rintro e w1 ⟨rfl, rfl⟩))
    refine gen_world (Boxed w x s) boxed_new ?_
    intro W1 hw1
    have H1 := Lib.hid hw1
    obtain ⟨_, ⟨c0, c1, c2, c3, c4, c5, c6⟩, e0⟩ := hw1
    have K : Hid (∀ v, Below W1.heap.size W1 v → _) := fun v hb => chunks_under x W1 v hb (HX.out.below H1.out.low)
    have MK : Hid (∀ v, Below W1.heap.size W1 v → (Below W1.heap.size W1 v ∧ v.cell? ⟨w.heap.size, 0, none⟩ = some (.int .i64 x.id) ∧ v.cell? ⟨w.heap.size, 1, none⟩ = some (.int .i64 x.c) ∧ v.cell? ⟨w.heap.size, 2, none⟩ = some (.int .i64 x.d) ∧ v.cell? ⟨w.heap.size, 3, none⟩ = some (.int .i64 x.t) ∧ v.cell? ⟨w.heap.size, 4, none⟩ = some (.int .i64 x.p) ∧ v.cell? ⟨w.heap.size, 5, none⟩ = some (.slice x.a1 x.ch.length x.c1) ∧ v.cell? ⟨w.heap.size, 6, none⟩ = some (.slice x.a2 x.us.length x.c2))) :=
      fun v hb => ⟨hb, (H1.out.below hb).at_.c0, (H1.out.below hb).at_.c1, (H1.out.below hb).at_.c2, (H1.out.below hb).at_.c3, (H1.out.below hb).at_.c4, (H1.out.below hb).at_.c5, (H1.out.below hb).at_.c6⟩
    clear e0
    go_region_held3 (fun v => Below W1.heap.size W1 v ∧ v.cell? ⟨w.heap.size, 0, none⟩ = some (.int .i64 x.id) ∧ v.cell? ⟨w.heap.size, 1, none⟩ = some (.int .i64 x.c) ∧ v.cell? ⟨w.heap.size, 2, none⟩ = some (.int .i64 x.d) ∧ v.cell? ⟨w.heap.size, 3, none⟩ = some (.int .i64 x.t) ∧ v.cell? ⟨w.heap.size, 4, none⟩ = some (.int .i64 x.p) ∧ v.cell? ⟨w.heap.size, 5, none⟩ = some (.slice x.a1 x.ch.length x.c1) ∧ v.cell? ⟨w.heap.size, 6, none⟩ = some (.slice x.a2 x.us.length x.c2)) (exact MK.out _ (by repeat (first | exact Below.refl _ _ | (with_reducible assumption) | refine bw_alloc ?_ _ | refine bw_drew ?_)))
      (first
        | (go_at_call 93; (with_reducible refine (K.out _ (by repeat (first | exact Below.refl _ _ | (with_reducible assumption) | refine bw_alloc ?_ _ | refine bw_drew ?_))).mono ?_); rintro e wx ⟨a, cp, rfl, hI, bx, hl⟩)
        | (go_at_call 92; (with_reducible refine (F.out _ _ _ hI hl).mono ?_); rintro e wy ⟨rfl, rfl⟩))
    all_goals
      have H2 := Lib.hid (H1.out.below bx)
      obtain ⟨_, ⟨f0, f1, f2, f3, f4, f5, f6⟩, g0⟩ := H2.out
      have G := Lib.hid (contains_any x.a2 x.us.length x.c2 x.us rfl hul s (w.heap.size + 1) _ (HX.out.below H2.out.low).two g0)
      rw [HN.out] at G
      clear bx hI hl c0 c1 c2 c3 c4 c5 c6
      go_wp2_with (go_at_call 94; (with_reducible refine (G.out).mono ?_); rintro e w1 ⟨rfl, rfl⟩)
      go_ret
      exact ⟨rfl, H2.out.low⟩
end Go.Proofs.Ytlglncnhhgofoaa

/-
  The walk over what is wrong with a task, by the document's own words.
-/
namespace Go.Proofs.Ytlglncnhhgofoaa
open Go.RowKit Go.Maps

set_option maxRecDepth 100000 in
set_option maxHeartbeats 8000000 in
theorem rright_any (x : TV) (s : Int) (w : World) (hx : x.ok w) : Calls Try.prog 36 #[x.val, .int .i64 s] w fun e w' => e = .returned (.int .i64 (rightOf x s)) ∧ Below w.heap.size w w' := by
  obtain ⟨id, c, d, t, p, a1, ch, c1, a2, us, c2⟩ := x
  obtain ⟨i1, i2, l1, m1, l2, m2⟩ := hx
  simp only at i1 i2 l1 m1 l2 m2
  unfold TV.val
  simp only []
  by_cases h1 : idBad ⟨id, c, d, t, p, a1, ch, c1, a2, us, c2⟩
  · have hr : rightOf ⟨id, c, d, t, p, a1, ch, c1, a2, us, c2⟩ s = 1 := by unfold rightOf; rw [if_pos h1]
    rw [hr]
    clear hr i1 i2
    unfold idBad at h1
    simp only at h1
    have d : decide (id < 1) = true ∨ (decide (id < 1) = false ∧ decide (99 < id) = true) ∨ (decide (id < 1) = false ∧ decide (99 < id) = false ∧ decide (p < 1) = true) ∨ (decide (id < 1) = false ∧ decide (99 < id) = false ∧ decide (p < 1) = false ∧ decide (99 < p) = true) := by
      simp only [decide_eq_true_eq, decide_eq_false_iff_not]; omega
    clear h1
    rcases d with d1 | ⟨d1, d2⟩ | ⟨d1, d2, d3⟩ | ⟨d1, d2, d3, d4⟩
    all_goals
      go_enter Try.func36, Try.ntmps36
      go_wp2
      go_ret
      exact ⟨rfl, (by repeat (first | exact Below.refl _ _ | (with_reducible assumption) | refine bw_alloc ?_ _ | refine bw_drew ?_))⟩
  have hr0 : rightOf ⟨id, c, d, t, p, a1, ch, c1, a2, us, c2⟩ s = if cdBad ⟨id, c, d, t, p, a1, ch, c1, a2, us, c2⟩ then 10 else if chBad ⟨id, c, d, t, p, a1, ch, c1, a2, us, c2⟩ then 13 else if usBad ⟨id, c, d, t, p, a1, ch, c1, a2, us, c2⟩ s then 12 else 0 := by unfold rightOf; rw [if_neg h1]
  rw [hr0]
  unfold idBad at h1
  simp only at h1
  have x1 : decide (id < 1) = false := decide_eq_false (by omega)
  have x2 : decide (99 < id) = false := decide_eq_false (by omega)
  have x3 : decide (p < 1) = false := decide_eq_false (by omega)
  have x4 : decide (99 < p) = false := decide_eq_false (by omega)
  clear h1 hr0
  by_cases h3 : cdBad ⟨id, c, d, t, p, a1, ch, c1, a2, us, c2⟩
  · rw [if_pos h3]
    clear i1 i2
    unfold cdBad at h3
    simp only at h3
    have d : decide (c < 1) = true ∨ (decide (c < 1) = false ∧ decide (d < c) = true) ∨ (decide (c < 1) = false ∧ decide (d < c) = false ∧ decide (t < d) = true) ∨ (decide (c < 1) = false ∧ decide (d < c) = false ∧ decide (t < d) = false ∧ decide (1073741824 < t) = true) := by
      simp only [decide_eq_true_eq, decide_eq_false_iff_not]; omega
    clear h3
    rcases d with d1 | ⟨d1, d2⟩ | ⟨d1, d2, d3⟩ | ⟨d1, d2, d3, d4⟩
    all_goals
      go_enter Try.func36, Try.ntmps36
      go_wp2
      go_ret
      exact ⟨rfl, (by repeat (first | exact Below.refl _ _ | (with_reducible assumption) | refine bw_alloc ?_ _ | refine bw_drew ?_))⟩
  rw [if_neg h3]
  unfold cdBad at h3
  simp only at h3
  have hc1 : 1 ≤ c := by omega
  have hc2 : c ≤ 1073741824 := by omega
  have d1 : decide (c < 1) = false := decide_eq_false (by omega)
  have d2 : decide (d < c) = false := decide_eq_false (by omega)
  have d3 : decide (t < d) = false := decide_eq_false (by omega)
  have d4 : decide (1073741824 < t) = false := decide_eq_false (by omega)
  have I1 := Lib.hid i1
  have I2 := Lib.hid i2
  have HB : Hid ((fillB ch c = false ∧ 0 < ch.length) ∨ 64 < ch.length ↔ chBad ⟨id, c, d, t, p, a1, ch, c1, a2, us, c2⟩) := by
    show _ ↔ _
    unfold chBad
    simp only [ne_eq, ← List.length_eq_zero_iff]
    constructor
    · rintro (⟨h1, h2⟩ | h)
      · exact .inr ⟨by omega, h1⟩
      · exact .inl h
    · rintro (h | ⟨h1, h2⟩)
      · exact .inr h
      · exact .inl ⟨h2, by omega⟩
  have HU : Hid (us.any (badB s) = true ∨ 64 < us.length ↔ usBad ⟨id, c, d, t, p, a1, ch, c1, a2, us, c2⟩ s) := by
    show _ ↔ _
    unfold usBad
    exact or_comm
  generalize hcb : (if chBad ⟨id, c, d, t, p, a1, ch, c1, a2, us, c2⟩ then (13 : Int) else if usBad ⟨id, c, d, t, p, a1, ch, c1, a2, us, c2⟩ s then 12 else 0) = R
  have HR := Lib.hid hcb
  obtain ⟨n, hn⟩ : ∃ n, ch.length = n := ⟨_, rfl⟩
  obtain ⟨m, hm⟩ : ∃ m, us.length = m := ⟨_, rfl⟩
  rw [hn] at l1 HB ⊢
  rw [hm] at l2 HU ⊢
  have HL := Lib.hid hn
  have HM := Lib.hid hm
  have hn9 : (n : Int) ≤ 9223372036854775807 := by omega
  have hm9 : (m : Int) ≤ 9223372036854775807 := by omega
  clear i1 i2 hcb h3 hn hm l1 m1 l2 m2
  go_enter Try.func36, Try.ntmps36
  go_wp2
  go_loop [5, 6] (fun u v => ∃ (k : Nat) (c' : Int), k ≤ n ∧ v = .int .i64 k ∧ u = .int .i64 c' ∧ 0 ≤ c' ∧ c' ≤ 1073741824 ∧ Hid (fillB (ch.drop k) c' = fillB ch c)) (fun _ v => (n - intOf v).toNat)
  case atStart => exact ⟨0, c, by omega, rfl, rfl, by omega, by omega, by show _ = _; rw [List.drop_zero]⟩
  case round =>
    obtain ⟨k, c', hk, rfl, rfl, hc0, hc', HF⟩ := hrel
    by_cases hlt : k < n
    · obtain ⟨x, hx⟩ := nth_of HL.out hlt
      obtain ⟨g, o, rfl, z0⟩ := (I1.out.below (show Below w.heap.size w (w.alloc (.cells #[.int .i64 id, .int .i64 c, .int .i64 d, .int .i64 t, .int .i64 p, .slice a1 n c1, .slice a2 m c2] 36)) from (by repeat (first | exact Below.refl _ _ | (with_reducible assumption) | refine bw_alloc ?_ _ | refine bw_drew ?_)))).at_ hx
      have z1 : w.cell? ⟨g, o + k, none⟩ = some (.int .i64 x) := by
        obtain ⟨g', o', e, z1⟩ := I1.out.at_ hx
        cases e; exact z1
      have hk1 : (k : Int) < (n : Int) := by omega
      have hk0 : (0 : Int) ≤ (k : Int) := by omega
      have hg := block_of_cell z1
      by_cases hb : 1 ≤ x ∧ x ≤ c'
      · have y1 : decide (x < 1) = false := decide_eq_false (by omega)
        have y2 : decide (c' < x) = false := decide_eq_false (by omega)
        have HF2 : Hid (fillB (ch.drop (k + 1)) (c' - x) = fillB ch c) := by
          have := HF.out
          rw [fill_drop hx, if_pos hb] at this
          exact this
        have hw : IntKind.i64.wrap (c' - x) = c' - x := IntWalk.i64_in _ (by omega)
        have hx1 : 0 ≤ c' - x := by omega
        have hx2 : c' - x ≤ 1073741824 := by omega
        clear HF hb hx
        go_wp2
        go_round
        case rel => exact ⟨k + 1, c' - x, by omega, by go_num, by first | rfl | (rw [hw]), hx1, hx2, HF2⟩
        case measure => simp [intOf]; omega
      · have HF2 : Hid (fillB ch c = false) := by
          have := HF.out
          rw [fill_drop hx, if_neg hb] at this
          exact this.symm
        have hR : Hid (R = 13) := by
          show _ = _
          rw [← HR.out, if_pos (HB.out.1 (.inl ⟨HF2.out, by omega⟩))]
        have y : decide (x < 1) = true ∨ (decide (x < 1) = false ∧ decide (c' < x) = true) := by
          simp only [decide_eq_true_eq, decide_eq_false_iff_not]; omega
        clear HF hb hx
        rcases y with y1 | ⟨y1, y2⟩
        all_goals
          go_wp2
          go_ret
          rw [hR.out]
          exact ⟨rfl, (by repeat (first | exact Below.refl _ _ | (with_reducible assumption) | refine bw_alloc ?_ _ | refine bw_drew ?_))⟩
    · obtain rfl : n = k := by omega
      have HF2 : Hid ((c' == 0) = fillB ch c) := by
        have := HF.out
        rw [List.drop_of_length_le (by rw [HL.out]; exact Nat.le_refl _), fillB] at this
        exact this
      clear HF
      by_cases hbad : chBad ⟨id, c, d, t, p, a1, ch, c1, a2, us, c2⟩
      · have hR : Hid (R = 13) := by
          show _ = _
          rw [← HR.out, if_pos hbad]
        have y : decide ((64 : Int) < (n : Int)) = true ∨ (decide ((64 : Int) < (n : Int)) = false ∧ ¬ (64 : Int) < (n : Int) ∧ (0 : Int) < (n : Int) ∧ (c' == 0) = false) := by
          rcases HB.out.2 hbad with ⟨q1, q2⟩ | q
          · by_cases g : (64 : Int) < (n : Int)
            · exact .inl (decide_eq_true g)
            · exact .inr ⟨decide_eq_false g, g, by omega, HF2.out.trans q1⟩
          · exact .inl (decide_eq_true (by omega))
        clear hbad
        rcases y with y1 | ⟨y1, y2, y3, y4⟩
        · have y2 : (64 : Int) < (n : Int) := of_decide_eq_true y1
          go_wp2
          go_ret
          rw [hR.out]
          exact ⟨rfl, (by repeat (first | exact Below.refl _ _ | (with_reducible assumption) | refine bw_alloc ?_ _ | refine bw_drew ?_))⟩
        · have y5 : (c' != 0) = true := by rw [bne, y4]; rfl
          have y6 : 0 < n := by omega
          go_wp2
          go_ret
          rw [hR.out]
          exact ⟨rfl, (by repeat (first | exact Below.refl _ _ | (with_reducible assumption) | refine bw_alloc ?_ _ | refine bw_drew ?_))⟩
      · have HR2 : Hid ((if usBad ⟨id, c, d, t, p, a1, ch, c1, a2, us, c2⟩ s then (12 : Int) else 0) = R) := by
          show _ = _
          rw [← HR.out, if_neg hbad]
        have y1 : ¬ (64 : Int) < (n : Int) := fun z => hbad (HB.out.1 (.inr (by omega)))
        have y : (n = 0) ∨ (0 < n ∧ c' = 0) := by
          rcases Nat.eq_zero_or_pos n with z | z
          · exact .inl z
          · refine .inr ⟨z, ?_⟩
            by_cases g : c' = 0
            · exact g
            · exfalso
              refine hbad (HB.out.1 (.inl ⟨?_, z⟩))
              rw [← HF2.out, beq_eq_false_iff_ne]; exact g
        clear hbad HB HF2 HR
        have y' : (¬ (0 : Int) < (n : Int) ∧ ¬ 0 < n) ∨ ((0 : Int) < (n : Int) ∧ 0 < n ∧ (c' != 0) = false) := by
          rcases y with z | ⟨z, rfl⟩
          · exact .inl ⟨by omega, by omega⟩
          · exact .inr ⟨by omega, z, rfl⟩
        clear y
        rcases y' with ⟨y2, y3⟩ | ⟨y2, y3, y4⟩
        all_goals
          go_wp2
          go_loop [7] (fun u => ∃ k : Nat, k ≤ m ∧ u = .int .i64 k ∧ Hid ((us.take k).any (badB s) = false)) (fun u => (m - intOf u).toNat)
          case atStart => exact ⟨0, by omega, rfl, by show _ = _; simp⟩
          case round =>
            obtain ⟨k, hk, rfl, HS⟩ := hrel
            by_cases hlt2 : k < m
            · obtain ⟨x, hx⟩ := nth_of HM.out hlt2
              obtain ⟨g, o, rfl, z1⟩ := I2.out.at_ hx
              have hk1 : (k : Int) < (m : Int) := by omega
              have hk0 : (0 : Int) ≤ (k : Int) := by omega
              have hg := block_of_cell z1
              by_cases hf : badB s x = true
              · have HF := Lib.hid (any_found hx hf)
                have hR : Hid (R = 12) := by
                  show _ = _
                  rw [← HR2.out, if_pos (HU.out.1 (.inl HF.out))]
                have yy : decide (x < 0) = true ∨ (decide (x < 0) = false ∧ decide (s ≤ x) = true) := by
                  unfold badB at hf
                  simp only [decide_eq_true_eq, decide_eq_false_iff_not] at hf ⊢; omega
                clear hx hf HS
                rcases yy with y6 | ⟨y6, y7⟩
                all_goals
                  go_wp2
                  go_ret
                  rw [hR.out]
                  exact ⟨rfl, (by repeat (first | exact Below.refl _ _ | (with_reducible assumption) | refine bw_alloc ?_ _ | refine bw_drew ?_))⟩
              · have hf2 : badB s x = false := by simpa using hf
                have HS2 := Lib.hid (any_take HS.out hx hf2)
                unfold badB at hf2
                have y6 : decide (x < 0) = false := by simp only [decide_eq_false_iff_not] at hf2 ⊢; omega
                have y7 : decide (s ≤ x) = false := by simp only [decide_eq_false_iff_not] at hf2 ⊢; omega
                clear hx hf hf2 HS
                go_wp2
                go_round
                case rel => exact ⟨k + 1, by omega, by go_num, HS2⟩
                case measure => simp [intOf]; omega
            · obtain rfl : m = k := by omega
              have HF := Lib.hid (any_all HS.out HM.out)
              by_cases h9 : (64 : Int) < (m : Int)
              · have hR : Hid (R = 12) := by
                  show _ = _
                  rw [← HR2.out, if_pos (HU.out.1 (.inr (by omega)))]
                go_wp2
                go_ret
                rw [hR.out]
                exact ⟨rfl, (by repeat (first | exact Below.refl _ _ | (with_reducible assumption) | refine bw_alloc ?_ _ | refine bw_drew ?_))⟩
              · have hR : Hid (R = 0) := by
                  show _ = _
                  rw [← HR2.out, if_neg]
                  intro z
                  rcases HU.out.2 z with q | q
                  · rw [HF.out] at q; cases q
                  · omega
                go_wp2
                go_ret
                rw [hR.out]
                exact ⟨rfl, (by repeat (first | exact Below.refl _ _ | (with_reducible assumption) | refine bw_alloc ?_ _ | refine bw_drew ?_))⟩
end Go.Proofs.Ytlglncnhhgofoaa

/-
  The walks over whether two tasks are the same, by the document's own words.
-/
namespace Go.Proofs.Ytlglncnhhgofoaa
open Go.RowKit Go.Maps

/-- Two tasks in boxes of their own. -/
structure Boxes (w : World) (a1 : Option Addr) (n1 c1 : Nat) (a2 : Option Addr) (n2 c2 : Nat) (b1 : Option Addr) (m1 e1 : Nat) (b2 : Option Addr) (m2 e2 : Nat) (v : World) : Prop where
  low : Below w.heap.size w v
  x5 : v.cell? ⟨w.heap.size, 5, none⟩ = some (.slice a1 n1 c1)
  x6 : v.cell? ⟨w.heap.size, 6, none⟩ = some (.slice a2 n2 c2)
  y5 : v.cell? ⟨w.heap.size + 1, 5, none⟩ = some (.slice b1 m1 e1)
  y6 : v.cell? ⟨w.heap.size + 1, 6, none⟩ = some (.slice b2 m2 e2)
theorem Boxes.below {w v v' : World} {a1 a2 b1 b2 : Option Addr} {n1 c1 n2 c2 m1 e1 m2 e2 : Nat} (h : Boxes w a1 n1 c1 a2 n2 c2 b1 m1 e1 b2 m2 e2 v) (hb : Below v.heap.size v v') : Boxes w a1 n1 c1 a2 n2 c2 b1 m1 e1 b2 m2 e2 v' :=
  ⟨below_up h.low hb, kept_cell hb h.x5, kept_cell hb h.x6, kept_cell hb h.y5, kept_cell hb h.y6⟩
theorem boxes_new {w : World} {i0 i1 i2 i3 i4 j0 j1 j2 j3 j4 : Value} {a1 a2 b1 b2 : Option Addr} {n1 c1 n2 c2 m1 e1 m2 e2 : Nat} {T T' : TypeId} :
    Boxes w a1 n1 c1 a2 n2 c2 b1 m1 e1 b2 m2 e2 ((w.alloc (.cells #[i0, i1, i2, i3, i4, .slice a1 n1 c1, .slice a2 n2 c2] T)).alloc (.cells #[j0, j1, j2, j3, j4, .slice b1 m1 e1, .slice b2 m2 e2] T')) :=
  ⟨(by repeat (first | exact Below.refl _ _ | (with_reducible assumption) | refine bw_alloc ?_ _ | refine bw_drew ?_)), (new_first w _ _ _ 5).trans rfl, (new_first w _ _ _ 6).trans rfl, (new_second w _ _ _ 5).trans rfl, (new_second w _ _ _ 6).trans rfl⟩

end Go.Proofs.Ytlglncnhhgofoaa

/-
  The walks over whether two rows of tasks, and two systems, are the same.
-/
namespace Go.Proofs.Ytlglncnhhgofoaa
open Go.RowKit Go.Maps

theorem row_step {L M : List TV} {k : Nat} {x y : TV} (h : (L.take k).map TV.tk = (M.take k).map TV.tk) (hx : L[k]? = some x) (hy : M[k]? = some y) (e : x.tk = y.tk) : (L.take (k + 1)).map TV.tk = (M.take (k + 1)).map TV.tk := by
  rw [List.take_add_one, List.take_add_one, List.map_append, List.map_append, h, hx, hy]
  simp [e]
theorem row_end {L M : List TV} {k : Nat} (h : (L.take k).map TV.tk = (M.take k).map TV.tk) (hl : L.length = k) (hm : M.length = k) : L.map TV.tk = M.map TV.tk := by
  rwa [List.take_of_length_le (by omega), List.take_of_length_le (by omega)] at h
theorem row_not {L M : List TV} {k : Nat} {x y : TV} (hx : L[k]? = some x) (hy : M[k]? = some y) (e : ¬ x.tk = y.tk) : ¬ L.map TV.tk = M.map TV.tk := by
  intro h
  have h1 : (L.map TV.tk)[k]? = some x.tk := by simp [hx]
  have h2 : (M.map TV.tk)[k]? = some y.tk := by simp [hy]
  rw [h, h2] at h1; exact e (Option.some.inj h1).symm
theorem row_len {L M : List TV} (h : ¬ L.length = M.length) : ¬ L.map TV.tk = M.map TV.tk := by
  intro z
  have := congrArg List.length z
  simp at this; exact h this

/-- A system by value. -/
abbrev sysV (s r : Int) (a : Option Addr) (n cap : Nat) : Value := .agg #[.int .i64 s, .int .i64 r, .slice a n cap]
end Go.Proofs.Ytlglncnhhgofoaa

/-
  The walks over what is wrong with a system.
-/
namespace Go.Proofs.Ytlglncnhhgofoaa
open Go.RowKit Go.Maps

theorem lawK : Keyed Try.prog 3 := int_keyed Try.underlying3
theorem zeroK (w : World) : (zeroValue 3).run Try.prog w = .ok (.int .i64 0) w := by kernel_rfl

/-- What the entries read as. -/
def IsF (D : DataW Unit) (f : Int → Option Int) : Prop :=
  ∀ k : Int, Maps.has D (.int .i64 k) = (f k).isSome ∧ D.atKey (.int .i64 k) (.lit (.int .i64 0)) = .lit (.int .i64 ((f k).getD 0))
/-- A block is a map of at most N entries, that are f. -/
def MapIs (w : World) (bm N : Nat) (f : Int → Option Int) : Prop := ∃ D : DataW Unit, w.ownsMap Try.prog 3 (plainElem Try.prog 3) bm N D ∧ IsF D f
/-- One entry set; one struck. -/
def fput (f : Int → Option Int) (k v : Int) (x : Int) : Option Int := if x = k then some v else f x
def fdel (f : Int → Option Int) (k : Int) (x : Int) : Option Int := if x = k then none else f x

theorem IsF.put {D : DataW Unit} {f : Int → Option Int} (h : IsF D f) (hD : IsMap D) (k v : Int) : IsF (D.put (.int .i64 k) (.lit (.int .i64 v))) (fput f k v) := by
  intro x
  unfold fput
  by_cases e : x = k
  · subst e
    rw [if_pos rfl, has_put_same hD (by trivial), atKey_put_same hD (by trivial)]
    exact ⟨rfl, rfl⟩
  · rw [if_neg e, has_put_other (by simp [e]), atKey_put_other (by simp [e])]
    exact h x
theorem IsF.del {D : DataW Unit} {f : Int → Option Int} (h : IsF D f) (k : Int) : IsF (D.del (.int .i64 k)) (fdel f k) := by
  intro x
  unfold fdel
  by_cases e : x = k
  · subst e
    rw [if_pos rfl, has_del_same, atKey_del_same]
    exact ⟨rfl, rfl⟩
  · rw [if_neg e, has_del_other (by simp [e]), atKey_del_other (by simp [e])]
    exact h x

theorem owns_tight {w : World} {bm n m : Nat} {D : DataW Unit} {R : Value → Option (DataW Unit × List MemPlace)} {P : Program} {k : TypeId} (h : w.ownsMap P k R bm n D) (hm : Maps.size D ≤ m) : w.ownsMap P k R bm m D := by
  obtain ⟨es, clock, hb, F, hs, rfl⟩ := h
  refine ⟨es, clock, hb, F, ?_, rfl⟩
  have : Maps.size (DataW.map ((es.toList.map (WideElems.rg P k R)).foldr DataW.insert [])) = es.size := by simp [Maps.size, length_sorted]
  omega

/-- Behind a store. -/
theorem MapIs.stored {w' : World} {bm N : Nat} {D : DataW Unit} {f : Int → Option Int} {k v : Int} (hf : IsF D f) (ht : Tidy D) (hs : Maps.size D ≤ N)
    (h : w'.ownsMap Try.prog 3 (plainElem Try.prog 3) bm (N + 1) (D.put (.int .i64 k) (.lit (.int .i64 v)))) : MapIs w' bm (if (f k).isSome then N else N + 1) (fput f k v) := by
  refine ⟨_, ?_, hf.put ht.isMap k v⟩
  split
  · rename_i hk
    refine owns_tight h ?_
    rw [size_put ht, if_pos ((hf k).1.trans hk)]; exact hs
  · exact h

theorem MapIs.lt {w : World} {bm N : Nat} {f : Int → Option Int} (h : MapIs w bm N f) : bm < w.heap.size := by
  obtain ⟨D, h, _⟩ := h; exact h.lt
theorem MapIs.obj {w : World} {bm N : Nat} {f : Int → Option Int} (h : MapIs w bm N f) : ∃ es clock, w.heap[bm]? = some (.map es clock) := by
  obtain ⟨D, ⟨es, clock, hb, _⟩, _⟩ := h; exact ⟨es, clock, hb⟩
theorem MapIs.ne_cells {w : World} {bm N b : Nat} {f : Int → Option Int} {cs : Array Value} {T : TypeId} {fr : Nat × Nat} (h : MapIs w bm N f) (hb : w.heap[b]? = some (.cells cs T fr)) : b ≠ bm := by
  obtain ⟨es, clock, h⟩ := h.obj
  rintro rfl
  rw [h] at hb; cases hb
theorem MapIs.ext {w : World} {bm N : Nat} {f f' : Int → Option Int} (h : MapIs w bm N f) (he : ∀ k, f k = f' k) : MapIs w bm N f' := by
  obtain ⟨D, h, hf⟩ := h
  exact ⟨D, h, fun k => by rw [← he]; exact hf k⟩
theorem MapIs.mono {w : World} {bm N M : Nat} {f : Int → Option Int} (h : MapIs w bm N f) (hm : N ≤ M) : MapIs w bm M f := by
  obtain ⟨D, h, hf⟩ := h
  exact ⟨D, h.mono hm, hf⟩


theorem I64.wf {x : Int} (h : I64 x) : (Lit.int .i64 x).wf = true := by
  unfold I64 at h
  simp [Lit.wf, IntKind.min, IntKind.max, IntKind.signed, IntKind.bits]; omega
theorem new_map (w : World) : MapIs (w.alloc (.map #[] 0)) w.heap.size 0 (fun _ => none) := ⟨.map [], World.ownsMap_made w _ _ _, fun _ => ⟨rfl, rfl⟩⟩
theorem MapIs.below {w w' : World} {bm N : Nat} {f : Int → Option Int} (h : MapIs w bm N f) (hb : Below w.heap.size w w') : MapIs w' bm N f := by
  obtain ⟨D, ⟨es, clock, hm, r⟩, hf⟩ := h
  exact ⟨D, ⟨es, clock, kept_obj hb hm, r⟩, hf⟩

/-- What is wrong with the tasks of a system. -/
def firstOf (s : Int) : Int → List Int → List TV → Int
  | _, _, [] => 0
  | last, seen, x :: l => if rightOf x s ≠ 0 then rightOf x s else if x.id ≤ last then 10 else if x.p ∈ seen then 14 else firstOf s x.id (x.p :: seen) l
def sysBad (s r : Int) (L : List TV) : Prop := ¬ (0 ≤ s ∧ s ≤ 256 ∧ 0 ≤ r ∧ r ≤ 1000) ∨ L.length = 0
instance (s r : Int) (L : List TV) : Decidable (sysBad s r L) := by unfold sysBad; infer_instance
def checkOf (s r : Int) (L : List TV) : Int := if sysBad s r L then 1 else if 64 < L.length then 15 else firstOf s 0 [] L
theorem first_drop {s last : Int} {seen : List Int} {L : List TV} {k : Nat} {x : TV} (hx : L[k]? = some x) :
    firstOf s last seen (L.drop k) = if rightOf x s ≠ 0 then rightOf x s else if x.id ≤ last then 10 else if x.p ∈ seen then 14 else firstOf s x.id (x.p :: seen) (L.drop (k + 1)) := by
  obtain ⟨h2, h3⟩ := List.getElem?_eq_some_iff.1 hx
  rw [List.drop_eq_getElem_cons h2, h3, firstOf]

/-- The keys of a map. -/
def Seen (w : World) (bm N : Nat) (seen : List Int) : Prop := ∃ f, MapIs w bm N f ∧ ∀ k, (f k).isSome = decide (k ∈ seen)
/-- Where the rounds stand. -/
structure Rounds (w : World) (s r : Int) (a : Option Addr) (n cap bm N : Nat) (seen : List Int) (v : World) : Prop where
  low : Below w.heap.size w v
  s0 : v.cell? ⟨w.heap.size, 0, none⟩ = some (.int .i64 s)
  s2 : v.cell? ⟨w.heap.size, 2, none⟩ = some (.slice a n cap)
  map : Seen v bm N seen
  new : w.heap.size ≤ bm
theorem Rounds.below {w v v' : World} {s r : Int} {a : Option Addr} {n cap bm N : Nat} {seen : List Int} (h : Rounds w s r a n cap bm N seen v) (hb : Below v.heap.size v v') : Rounds w s r a n cap bm N seen v' := by
  obtain ⟨f, hm, hf⟩ := h.map
  exact ⟨below_up h.low hb, kept_cell hb h.s0, kept_cell hb h.s2, ⟨f, hm.below hb, hf⟩, h.new⟩
theorem rounds_new {w : World} {s r : Int} {a : Option Addr} {n cap : Nat} {T : TypeId} : Rounds w s r a n cap (w.heap.size + 1) 0 [] ((w.alloc (.cells #[.int .i64 s, .int .i64 r, .slice a n cap] T)).alloc (.map #[] 0)) := by
  refine ⟨(by repeat (first | exact Below.refl _ _ | (with_reducible assumption) | refine bw_alloc ?_ _ | refine bw_drew ?_)), (new_first w _ _ _ 0).trans rfl, (new_first w _ _ _ 2).trans rfl, ⟨fun _ => none, ?_, fun k => by simp⟩, by omega⟩
  have := new_map (w.alloc (.cells #[.int .i64 s, .int .i64 r, .slice a n cap] T))
  rwa [World.size_alloc] at this
/-- What a store into the map leaves. -/
theorem Rounds.put {w v v' : World} {s r : Int} {a : Option Addr} {n cap bm N : Nat} {seen : List Int} {D : DataW Unit} {f : Int → Option Int} {k y : Int} (h : Rounds w s r a n cap bm N seen v) (hD : v.ownsMap Try.prog 3 (plainElem Try.prog 3) bm N D) (hf : IsF D f) (hs : ∀ k, (f k).isSome = decide (k ∈ seen))
    (h1 : v'.ownsMap Try.prog 3 (plainElem Try.prog 3) bm (N + 1) (D.put (.int .i64 k) (.lit (.int .i64 y)))) (ht : v.mapTurned v' bm) : Rounds w s r a n cap bm (N + 1) (k :: seen) v' := by
  have hm := (MapIs.stored (w' := v') (bm := bm) (N := N) (k := k) (v := y) hf (hD.tidy lawK) hD.size_le h1).mono (M := N + 1) (by split <;> omega)
  have hg : v.grownBy v' (some bm) := World.mapTurned.grown ht
  obtain ⟨es, clock, hb, _⟩ := hD
  have hne : ∀ o x, v.cell? ⟨w.heap.size, o, none⟩ = some x → w.heap.size ≠ bm := by
    rintro o x hx rfl
    rw [World.cell?] at hx
    simp [hb] at hx
  have hk : ∀ o x, v.cell? ⟨w.heap.size, o, none⟩ = some x → v'.cell? ⟨w.heap.size, o, none⟩ = some x := by
    intro o x hx
    rw [← hx]
    exact World.cell?_of_block (hg.block _ (block_of_cell hx) (fun e => hne o x hx (Option.some.inj e)))
  refine ⟨h.low.grown hg h.low.size (fun k hk => by cases hk; exact h.new), hk _ _ h.s0, hk _ _ h.s2, ⟨_, hm, fun x => ?_⟩, h.new⟩
  unfold fput
  by_cases e : x = k
  · subst e; simp
  · rw [if_neg e, hs]; simp [e]

set_option maxRecDepth 100000 in
set_option maxHeartbeats 8000000 in
theorem first_any {w : World} {a : Option Addr} {n cap : Nat} {L : List TV} (s r : Int) (ha : Tasks w a n cap L) (hw : ∀ x ∈ L, I64 x.p ∧ I64 x.id) (hn64 : n ≤ 64) :
    Calls Try.prog 53 #[.agg #[.int .i64 s, .int .i64 r, .slice a n cap]] w fun e w' => e = .returned (.int .i64 (firstOf s 0 [] L)) ∧ Below w.heap.size w w' := by
  have HA := Lib.hid ha
  have HW := Lib.hid hw
  generalize hR : firstOf s 0 [] L = R
  have HR := Lib.hid hR
  have hmm := @run_makeMap Try.prog
  have hn : (n : Int) ≤ 9223372036854775807 := by omega
  clear ha hw hR
  go_enter Try.func53, Try.ntmps53
  go_wp2
  go_step3
  go_wp2
  go_step3
  go_wp2
  refine gen_world (Rounds w s r a n cap (w.heap.size + 1) 0 []) rounds_new ?_
  intro W1 hw1
  have H1 := Lib.hid hw1
  clear hw1 hmm
  generalize w.heap.size + 1 = bm at H1 ⊢
  go_loopw [3, 4, 14] (fun v t u wr => ∃ (k : Nat) (last : Int) (seen : List Int), k ≤ n ∧ u = .int .i64 k ∧ t = .int .i64 last ∧ v = .int .i64 0 ∧ Hid (firstOf s last seen (L.drop k) = R) ∧ Hid (Rounds w s r a n cap bm k seen wr)) (fun _ _ u _ => (n - intOf u).toNat)
  case atStart => exact ⟨0, 0, [], by omega, rfl, rfl, rfl, by show _ = _; rw [List.drop_zero]; exact HR.out, H1⟩
  case round =>
    obtain ⟨k, last, seen, hk, rfl, rfl, rfl, HS, HP⟩ := hrel
    obtain ⟨f, ⟨D, hown, hf⟩, hs⟩ := HP.out.map
    have e0 := HP.out.s0
    have e2 := HP.out.s2
    have e9 := block_of_cell e0
    by_cases hlt : k < n
    · obtain ⟨x, hx⟩ := nth_of HA.out.len hlt
      obtain ⟨g, o, rfl, ⟨c0, c1, c2, c3, c4, c5, c6⟩⟩ := (HA.out.view.below HP.out.low).at_ hx
      have hk1 : (k : Int) < (n : Int) := by omega
      have hk0 : (0 : Int) ≤ (k : Int) := by omega
      have hwf := HW.out x (List.mem_of_getElem? hx)
      have hkey := keyOf_int_mk Try.underlying3 hwf.1.wf
      have hwv : (Lit.int .i64 x.id).wf = true := hwf.2.wf
      have hh : Maps.has D (.int .i64 x.p) = decide (x.p ∈ seen) := by rw [(hf x.p).1, hs]
      have hF := first_drop (s := s) (last := last) (seen := seen) hx
      rw [HS.out] at hF
      have HX := Lib.hid ((HA.out.ok.at_ hx).below HP.out.low)
      have RX := Lib.hid (fun v (hb : Below wr.heap.size wr v) => right_any x s v (HX.out.below hb))
      unfold TV.val at RX
      clear hx hwf
      by_cases h1 : rightOf x s = 0
      rotate_left
      · rw [if_pos h1] at hF
        have d1 : (rightOf x s == 0) = false := by rw [beq_eq_false_iff_ne]; exact h1
        have d2 : (rightOf x s != 0) = true := by rw [bne, d1]; rfl
        have HF := Lib.hid hF
        generalize rightOf x s = q at *
        clear hF h1 hs hf
        go_wp2_with (first
            | (at_lookup; refine wpList_lookup_own_ok_int _ rfl _ _ 116 rfl 3 3 .i64 lawK Try.underlying116 Try.underlying3 (zeroK _) bm k D rfl (hown.alloc _) _ _ rfl hkey ?_; rw [hh]; intro c _ _)
            | (go_at_call 76; (with_reducible refine (RX.out _ (by repeat (first | exact Below.refl _ _ | (with_reducible assumption) | refine bw_alloc ?_ _ | refine bw_drew ?_))).mono ?_); rintro e wx ⟨rfl, bx⟩; have BX := Lib.hid (bw_alloc (Below.refl _ wr) (.cells #[.int .i64 x.id, .int .i64 x.c, .int .i64 x.d, .int .i64 x.t, .int .i64 x.p, .slice x.a1 x.ch.length x.c1, .slice x.a2 x.us.length x.c2] 36)); have k0 := kept_cell (v := .int .i64 x.id) bx ((atB_new _ x _).c0); have k4 := kept_cell (v := .int .i64 x.p) bx ((atB_new _ x _).c4); have HB := Lib.hid (below_up BX.out bx); clear bx BX))
        rw [Exit.noGoto_ret]
        go_ret
        rw [HF.out]
        exact ⟨rfl, (HP.out.below HB.out).low⟩
      rw [if_neg (fun z => z h1)] at hF
      rw [h1] at RX
      by_cases h2 : x.id ≤ last
      · rw [if_pos h2] at hF
        have d1 : decide (x.id ≤ last) = true := decide_eq_true h2
        have HF := Lib.hid hF
        clear hF h1 hs hf
        go_wp2_with (first
            | (at_lookup; refine wpList_lookup_own_ok_int _ rfl _ _ 116 rfl 3 3 .i64 lawK Try.underlying116 Try.underlying3 (zeroK _) bm k D rfl (hown.alloc _) _ _ rfl hkey ?_; rw [hh]; intro c _ _)
            | (go_at_call 76; (with_reducible refine (RX.out _ (by repeat (first | exact Below.refl _ _ | (with_reducible assumption) | refine bw_alloc ?_ _ | refine bw_drew ?_))).mono ?_); rintro e wx ⟨rfl, bx⟩; have BX := Lib.hid (bw_alloc (Below.refl _ wr) (.cells #[.int .i64 x.id, .int .i64 x.c, .int .i64 x.d, .int .i64 x.t, .int .i64 x.p, .slice x.a1 x.ch.length x.c1, .slice x.a2 x.us.length x.c2] 36)); have k0 := kept_cell (v := .int .i64 x.id) bx ((atB_new _ x _).c0); have k4 := kept_cell (v := .int .i64 x.p) bx ((atB_new _ x _).c4); have HB := Lib.hid (below_up BX.out bx); clear bx BX))
        rw [Exit.noGoto_ret]
        go_ret
        rw [HF.out]
        exact ⟨rfl, (HP.out.below HB.out).low⟩
      rw [if_neg h2] at hF
      have d1 : decide (x.id ≤ last) = false := decide_eq_false h2
      by_cases h3 : x.p ∈ seen
      · rw [if_pos h3] at hF
        rw [decide_eq_true h3] at hh
        have HF := Lib.hid hF
        clear hF h1 hs hf h3
        go_wp2_with (first
            | (at_lookup; refine wpList_lookup_own_ok_int _ rfl _ _ 116 rfl 3 3 .i64 lawK Try.underlying116 Try.underlying3 (zeroK _) bm k D rfl (hown.alloc _) _ _ rfl hkey ?_; rw [hh]; intro c _ _)
            | (go_at_call 76; (with_reducible refine (RX.out _ (by repeat (first | exact Below.refl _ _ | (with_reducible assumption) | refine bw_alloc ?_ _ | refine bw_drew ?_))).mono ?_); rintro e wx ⟨rfl, bx⟩; have BX := Lib.hid (bw_alloc (Below.refl _ wr) (.cells #[.int .i64 x.id, .int .i64 x.c, .int .i64 x.d, .int .i64 x.t, .int .i64 x.p, .slice x.a1 x.ch.length x.c1, .slice x.a2 x.us.length x.c2] 36)); have k0 := kept_cell (v := .int .i64 x.id) bx ((atB_new _ x _).c0); have k4 := kept_cell (v := .int .i64 x.p) bx ((atB_new _ x _).c4); have HB := Lib.hid (below_up BX.out bx); clear bx BX))
        rw [Exit.noGoto_ret]
        go_ret
        rw [HF.out]
        exact ⟨rfl, (HP.out.below HB.out).low⟩
      · rw [if_neg h3] at hF
        rw [decide_eq_false h3] at hh
        have HF : Hid (firstOf s x.id (x.p :: seen) (L.drop (k + 1)) = R) := hF.symm
        have HS3 := Lib.hid hs
        have HF3 := Lib.hid hf
        have HN3 : k < maxLen := by unfold maxLen; omega
        have HPUT : Hid (∀ v v', Below wr.heap.size wr v → v.ownsMap Try.prog 3 (plainElem Try.prog 3) bm k D → v'.ownsMap Try.prog 3 (plainElem Try.prog 3) bm (k + 1) (D.put (.int .i64 x.p) (.lit (.int .i64 x.id))) → v.mapTurned v' bm → Rounds w s r (some ⟨g, o, none⟩) n cap bm (k + 1) (x.p :: seen) v') :=
          fun v v' hb ho h1 h2 => (HP.out.below hb).put ho hf hs h1 h2
        have HOWN : Hid (∀ v, Below wr.heap.size wr v → v.ownsMap Try.prog 3 (plainElem Try.prog 3) bm k D) := fun v hb => by
          obtain ⟨es, clock, hm, q⟩ := hown
          exact ⟨es, clock, kept_obj hb hm, q⟩
        clear hF h1 hs hf h3
        go_wp2_with (first
            | (at_mapUpdate; refine wpList_mapUpdate_in _ rfl _ _ _ 116 rfl 3 3 lawK Try.underlying116 _ bm k D rfl (HOWN.out _ HB.out) HN3 _ _ _ rfl rfl hkey _ [] (plainElem_int Try.underlying3 hwv) ?_; intro w5 hown1 hturn1; have H5 := Lib.hid (HPUT.out _ _ HB.out (HOWN.out _ HB.out) hown1 hturn1); clear hown1 hturn1)
            | (at_lookup; refine wpList_lookup_own_ok_int _ rfl _ _ 116 rfl 3 3 .i64 lawK Try.underlying116 Try.underlying3 (zeroK _) bm k D rfl (hown.alloc _) _ _ rfl hkey ?_; rw [hh]; intro c _ _)
            | (go_at_call 76; (with_reducible refine (RX.out _ (by repeat (first | exact Below.refl _ _ | (with_reducible assumption) | refine bw_alloc ?_ _ | refine bw_drew ?_))).mono ?_); rintro e wx ⟨rfl, bx⟩; have BX := Lib.hid (bw_alloc (Below.refl _ wr) (.cells #[.int .i64 x.id, .int .i64 x.c, .int .i64 x.d, .int .i64 x.t, .int .i64 x.p, .slice x.a1 x.ch.length x.c1, .slice x.a2 x.us.length x.c2] 36)); have k0 := kept_cell (v := .int .i64 x.id) bx ((atB_new _ x _).c0); have k4 := kept_cell (v := .int .i64 x.p) bx ((atB_new _ x _).c4); have HB := Lib.hid (below_up BX.out bx); clear bx BX))
        go_roundw
        case rel => exact ⟨k + 1, x.id, x.p :: seen, by omega, by go_num, rfl, rfl, HF, H5⟩
        case measure => simp [intOf]; omega
    · obtain rfl : n = k := by omega
      have HF : Hid (R = 0) := by
        show _ = _
        rw [← HS.out, List.drop_of_length_le (by rw [HA.out.len]; exact Nat.le_refl _), firstOf]
      go_wp2_with fail
      go_ret
      rw [HF.out]
      exact ⟨rfl, HP.out.low⟩

set_option maxRecDepth 100000 in
set_option maxHeartbeats 4000000 in
theorem check_any {w : World} {a : Option Addr} {n cap : Nat} {L : List TV} (s r : Int) (ha : Tasks w a n cap L) (hw : ∀ x ∈ L, I64 x.p ∧ I64 x.id) :
    Calls Try.prog 33 #[.agg #[.int .i64 s, .int .i64 r, .slice a n cap]] w fun e w' => e = .returned (.int .i64 (checkOf s r L)) ∧ Below w.heap.size w w' := by
  have hl := ha.len
  have hn : (n : Int) ≤ 9223372036854775807 := by have := ha.le; have := ha.small; omega
  by_cases h1 : 0 ≤ s ∧ s ≤ 256
  rotate_left
  · have hr : checkOf s r L = 1 := by unfold checkOf; rw [if_pos]; unfold sysBad; omega
    rw [hr]
    have C := Lib.hid (fun w => within_no s 0 256 h1 w)
    clear hr h1 ha hw hl
    go_enter Try.func33, Try.ntmps33
    go_wp2_with (go_at_call 51; (with_reducible refine (C.out _).mono ?_); rintro e w1 ⟨rfl, rfl⟩)
    go_ret
    exact ⟨rfl, (by repeat (first | exact Below.refl _ _ | (with_reducible assumption) | refine bw_alloc ?_ _ | refine bw_drew ?_))⟩
  have C := Lib.hid (fun w => within_yes s 0 256 h1.1 h1.2 w)
  by_cases h2 : 0 ≤ r ∧ r ≤ 1000
  rotate_left
  · have hr : checkOf s r L = 1 := by unfold checkOf; rw [if_pos]; unfold sysBad; omega
    rw [hr]
    have D := Lib.hid (fun w => within64_no r 0 1000 h2 w)
    clear hr h1 h2 ha hw hl
    go_enter Try.func33, Try.ntmps33
    go_wp2_with (first
      | (go_at_call 51; (with_reducible refine (C.out _).mono ?_); rintro e w1 ⟨rfl, rfl⟩)
      | (go_at_call 52; (with_reducible refine (D.out _).mono ?_); rintro e w1 ⟨rfl, rfl⟩))
    go_ret
    exact ⟨rfl, (by repeat (first | exact Below.refl _ _ | (with_reducible assumption) | refine bw_alloc ?_ _ | refine bw_drew ?_))⟩
  have D := Lib.hid (fun w => within64_yes r 0 1000 h2.1 h2.2 w)
  by_cases h3 : n = 0
  · have hr : checkOf s r L = 1 := by unfold checkOf; rw [if_pos]; unfold sysBad; omega
    rw [hr]
    have d1 : ((n : Int) == 0) = true := by rw [beq_iff_eq]; omega
    clear hr h1 h2 h3 ha hw hl
    go_enter Try.func33, Try.ntmps33
    go_wp2_with (first
      | (go_at_call 51; (with_reducible refine (C.out _).mono ?_); rintro e w1 ⟨rfl, rfl⟩)
      | (go_at_call 52; (with_reducible refine (D.out _).mono ?_); rintro e w1 ⟨rfl, rfl⟩))
    go_ret
    exact ⟨rfl, (by repeat (first | exact Below.refl _ _ | (with_reducible assumption) | refine bw_alloc ?_ _ | refine bw_drew ?_))⟩
  have hr : checkOf s r L = if 64 < L.length then 15 else firstOf s 0 [] L := by unfold checkOf; rw [if_neg]; unfold sysBad; omega
  rw [hr]
  have d1 : ((n : Int) == 0) = false := by rw [beq_eq_false_iff_ne]; omega
  by_cases h4 : 64 < n
  · rw [if_pos (by omega)]
    have h5 : (64 : Int) < (n : Int) := by omega
    clear hr h1 h2 h3 ha hw hl
    go_enter Try.func33, Try.ntmps33
    go_wp2_with (first
      | (go_at_call 51; (with_reducible refine (C.out _).mono ?_); rintro e w1 ⟨rfl, rfl⟩)
      | (go_at_call 52; (with_reducible refine (D.out _).mono ?_); rintro e w1 ⟨rfl, rfl⟩))
    go_ret
    exact ⟨rfl, (by repeat (first | exact Below.refl _ _ | (with_reducible assumption) | refine bw_alloc ?_ _ | refine bw_drew ?_))⟩
  · rw [if_neg (by omega)]
    have h5 : ¬ (64 : Int) < (n : Int) := by omega
    have F : Hid (∀ v, Below w.heap.size w v → _) := fun v hb => first_any s r (ha.below hb) hw (by omega)
    clear hr h1 h2 h3 ha hw hl
    go_enter Try.func33, Try.ntmps33
    go_wp2_with (first
      | (go_at_call 51; (with_reducible refine (C.out _).mono ?_); rintro e w1 ⟨rfl, rfl⟩)
      | (go_at_call 52; (with_reducible refine (D.out _).mono ?_); rintro e w1 ⟨rfl, rfl⟩)
      | (go_at_call 53; (with_reducible refine (F.out _ (by repeat (first | exact Below.refl _ _ | (with_reducible assumption) | refine bw_alloc ?_ _ | refine bw_drew ?_))).mono ?_); rintro e w1 ⟨rfl, b1⟩; have B1 := Lib.hid b1; clear b1))
    go_ret
    exact ⟨rfl, below_up (by repeat (first | exact Below.refl _ _ | (with_reducible assumption) | refine bw_alloc ?_ _ | refine bw_drew ?_)) B1.out⟩
end Go.Proofs.Ytlglncnhhgofoaa

/-
  The walk over what is wrong with a system, by the document's own words.
-/
namespace Go.Proofs.Ytlglncnhhgofoaa
open Go.RowKit Go.Maps

/-- A system in a box. -/
structure SysB (w : World) (g : Nat) (s r : Int) (a : Option Addr) (n cap : Nat) (v : World) : Prop where
  low : Below w.heap.size w v
  s0 : v.cell? ⟨g, 0, none⟩ = some (.int .i64 s)
  s1 : v.cell? ⟨g, 1, none⟩ = some (.int .i64 r)
  s2 : v.cell? ⟨g, 2, none⟩ = some (.slice a n cap)
theorem SysB.below {w v v' : World} {g : Nat} {s r : Int} {a : Option Addr} {n cap : Nat} (h : SysB w g s r a n cap v) (hb : Below v.heap.size v v') : SysB w g s r a n cap v' :=
  ⟨below_up h.low hb, kept_cell hb h.s0, kept_cell hb h.s1, kept_cell hb h.s2⟩
theorem sysB_new {w : World} {s r : Int} {a : Option Addr} {n cap : Nat} {T : TypeId} : SysB w w.heap.size s r a n cap (w.alloc (.cells #[.int .i64 s, .int .i64 r, .slice a n cap] T)) :=
  ⟨(by repeat (first | exact Below.refl _ _ | (with_reducible assumption) | refine bw_alloc ?_ _ | refine bw_drew ?_)), by rw [World.cell?_alloc_new]; rfl, by rw [World.cell?_alloc_new]; rfl, by rw [World.cell?_alloc_new]; rfl⟩

theorem right_id {x : TV} {s : Int} (h : rightOf x s = 0) : 1 ≤ x.id := by
  unfold rightOf at h
  by_cases g : idBad x
  · rw [if_pos g] at h; omega
  · unfold idBad at g; omega
/-- The priorities ahead, the last one first; the last number ahead. -/
def seenOf (L : List TV) : List Int := (L.map TV.p).reverse
def lastOf (L : List TV) (k : Nat) : Int := match k with
  | 0 => 0
  | k + 1 => (L[k]?.map TV.id).getD 0
theorem seen_next {L : List TV} {k : Nat} {x : TV} (hx : L[k]? = some x) : seenOf (L.take (k + 1)) = x.p :: seenOf (L.take k) := by
  unfold seenOf
  rw [List.take_add_one, hx]
  simp
theorem seen_mem {L : List TV} {j k : Nat} {x : TV} (hx : L[j]? = some x) (hj : j < k) : x.p ∈ seenOf (L.take k) := by
  unfold seenOf
  rw [List.mem_reverse, List.mem_map]
  exact ⟨x, List.mem_of_getElem? (i := j) (by rw [List.getElem?_take, if_pos hj]; exact hx), rfl⟩
theorem seen_not {L : List TV} {k : Nat} {p : Int} (h : ∀ j y, j < k → L[j]? = some y → ¬ y.p = p) : ¬ p ∈ seenOf (L.take k) := by
  unfold seenOf
  rw [List.mem_reverse, List.mem_map]
  rintro ⟨y, hy, rfl⟩
  obtain ⟨j, hj⟩ := List.mem_iff_getElem?.1 hy
  rw [List.getElem?_take] at hj
  split at hj
  · rename_i q; exact h j y q hj rfl
  · cases hj

set_option maxRecDepth 100000 in
set_option maxHeartbeats 8000000 in
theorem rcheck_any {w : World} {a : Option Addr} {n cap : Nat} {L : List TV} (s r : Int) (ha : Tasks w a n cap L) :
    Calls Try.prog 19 #[.agg #[.int .i64 s, .int .i64 r, .slice a n cap]] w fun e w' => e = .returned (.int .i64 (checkOf s r L)) ∧ Below w.heap.size w w' := by
  have hl := ha.len
  have hn : (n : Int) ≤ 9223372036854775807 := by have := ha.le; have := ha.small; omega
  by_cases hbad : sysBad s r L
  · have hr : checkOf s r L = 1 := by unfold checkOf; rw [if_pos hbad]
    rw [hr]
    unfold sysBad at hbad
    have d : decide (s < 0) = true ∨ (decide (s < 0) = false ∧ decide (256 < s) = true) ∨ (decide (s < 0) = false ∧ decide (256 < s) = false ∧ decide (r < 0) = true) ∨ (decide (s < 0) = false ∧ decide (256 < s) = false ∧ decide (r < 0) = false ∧ decide (1000 < r) = true) ∨ (decide (s < 0) = false ∧ decide (256 < s) = false ∧ decide (r < 0) = false ∧ decide (1000 < r) = false ∧ ((n : Int) == 0) = true) := by
      simp only [decide_eq_true_eq, decide_eq_false_iff_not, beq_iff_eq]; omega
    clear hr hbad ha hl
    rcases d with d1 | ⟨d1, d2⟩ | ⟨d1, d2, d3⟩ | ⟨d1, d2, d3, d4⟩ | ⟨d1, d2, d3, d4, d5⟩
    all_goals
      go_enter Try.func19, Try.ntmps19
      go_wp2
      go_ret
      exact ⟨rfl, (by repeat (first | exact Below.refl _ _ | (with_reducible assumption) | refine bw_alloc ?_ _ | refine bw_drew ?_))⟩
  have hr : checkOf s r L = if 64 < L.length then 15 else firstOf s 0 [] L := by unfold checkOf; rw [if_neg hbad]
  rw [hr]
  unfold sysBad at hbad
  have d1 : decide (s < 0) = false := decide_eq_false (by omega)
  have d2 : decide (256 < s) = false := decide_eq_false (by omega)
  have d3 : decide (r < 0) = false := decide_eq_false (by omega)
  have d4 : decide (1000 < r) = false := decide_eq_false (by omega)
  have d5 : ((n : Int) == 0) = false := by rw [beq_eq_false_iff_ne]; omega
  by_cases h4 : 64 < n
  · rw [if_pos (by omega)]
    have h5 : (64 : Int) < (n : Int) := by omega
    clear hr hbad ha hl
    go_enter Try.func19, Try.ntmps19
    go_wp2
    go_ret
    exact ⟨rfl, (by repeat (first | exact Below.refl _ _ | (with_reducible assumption) | refine bw_alloc ?_ _ | refine bw_drew ?_))⟩
  rw [if_neg (by omega)]
  have h5 : ¬ (64 : Int) < (n : Int) := by omega
  have HA := Lib.hid ha
  generalize hR : firstOf s 0 [] L = R
  have HR := Lib.hid hR
  clear hr hbad ha hl hR h4
  go_enter Try.func19, Try.ntmps19
  go_wp2
  refine gen_world (SysB w w.heap.size s r a n cap) sysB_new ?_
  intro W1 hw1
  have H1 := Lib.hid hw1
  clear hw1
  go_loopw [3] (fun u wr => ∃ (k : Nat), k ≤ n ∧ u = .int .i64 k ∧ Hid (firstOf s (lastOf L k) (seenOf (L.take k)) (L.drop k) = R) ∧ Hid (SysB w w.heap.size s r a n cap wr)) (fun u _ => (n - intOf u).toNat)
  case atStart => exact ⟨0, by omega, rfl, by show _ = _; rw [List.drop_zero]; exact HR.out, H1⟩
  case round =>
    obtain ⟨k, hk, rfl, HS, HP⟩ := hrel
    obtain ⟨_, e0, e1, e2⟩ := HP.out
    by_cases hlt : k < n
    · obtain ⟨x, hx⟩ := nth_of HA.out.len hlt
      obtain ⟨g, o, rfl, ⟨c0, c1, c2, c3, c4, c5, c6⟩⟩ := (HA.out.view.below HP.out.low).at_ hx
      have hk1 : (k : Int) < (n : Int) := by omega
      have hk0 : (0 : Int) ≤ (k : Int) := by omega
      have hF := first_drop (s := s) (last := lastOf L k) (seen := seenOf (L.take k)) hx
      rw [HS.out] at hF
      have HX := Lib.hid ((HA.out.ok.at_ hx).below HP.out.low)
      have RX := Lib.hid (fun v (hb : Below wr.heap.size wr v) => rright_any x s v (HX.out.below hb))
      unfold TV.val at RX
      have HXX := Lib.hid hx
      clear hx
      by_cases h1 : rightOf x s = 0
      rotate_left
      · rw [if_pos h1] at hF
        have d6 : (rightOf x s == 0) = false := by rw [beq_eq_false_iff_ne]; exact h1
        have d7 : (rightOf x s != 0) = true := by rw [bne, d6]; rfl
        have HF := Lib.hid hF
        generalize rightOf x s = q at *
        clear hF h1
        go_upto_region 8 with fail
        go_still_tail 7, (by kernel_rfl)
        go_wp2_with (go_at_call 36; (with_reducible refine (RX.out _ (by repeat (first | exact Below.refl _ _ | (with_reducible assumption) | refine bw_alloc ?_ _ | refine bw_drew ?_))).mono ?_); rintro e w1 ⟨rfl, b1⟩; have B1 := Lib.hid (below_up (W := wr) (by repeat (first | exact Below.refl _ _ | (with_reducible assumption) | refine bw_alloc ?_ _ | refine bw_drew ?_)) b1); clear b1)
        go_ret
        rw [HF.out]
        exact ⟨rfl, below_up HP.out.low B1.out⟩
      rw [if_neg (fun z => z h1)] at hF
      rw [h1] at RX
      have HF := Lib.hid hF
      have HID := Lib.hid (right_id h1)
      clear hF h1
      go_upto_region 8 with fail
      go_still_tail 7, (by kernel_rfl)
      go_upto_region 11 with (go_at_call 36; (with_reducible refine (RX.out _ (by repeat (first | exact Below.refl _ _ | (with_reducible assumption) | refine bw_alloc ?_ _ | refine bw_drew ?_))).mono ?_); rintro e w1 ⟨rfl, b1⟩; have HP1 := Lib.hid (HP.out.below (below_up (W := wr) (by repeat (first | exact Below.refl _ _ | (with_reducible assumption) | refine bw_alloc ?_ _ | refine bw_drew ?_)) b1)); clear b1)
      clear HP c0 c1 c2 c3 c4 c5 c6 e0 e1 e2 RX HX
      obtain ⟨_, e0, e1, e2⟩ := HP1.out
      by_cases hk9 : k = 0
      · have HF2 : Hid (R = if x.p ∈ seenOf (L.take k) then 14 else firstOf s x.id (x.p :: seenOf (L.take k)) (L.drop (k + 1))) := by
          show _ = _
          have := HF.out
          rw [if_neg (by rw [hk9, lastOf]; have := HID.out; omega)] at this
          exact this
        have f1 : ¬ (0 : Int) < (k : Int) := by omega
        have f2 : ¬ 0 < k := by omega
        have f3 : decide ((0 : Int) < (k : Int)) = false := decide_eq_false f1
        clear hk9
        go_quiet (fail)
        go_wp2
        go_loopw [5] (fun u wr => ∃ (i : Nat), i ≤ k ∧ u = .int .i64 i ∧ Hid (∀ j y, j < i → L[j]? = some y → ¬ y.p = x.p) ∧ Hid (SysB w w.heap.size s r (some ⟨g, o, none⟩) n cap wr)) (fun u _ => (k - intOf u).toNat)
        case atStart => exact ⟨0, by omega, rfl, fun j y hj => absurd hj (Nat.not_lt_zero _), HP1.out.below (below_same (Below.refl _ _) rfl rfl rfl rfl)⟩
        case round =>
          obtain ⟨i, hi, rfl, HT, HQ⟩ := hrel
          obtain ⟨_, e0, e1, e2⟩ := HQ.out
          by_cases hlt2 : i < k
          · obtain ⟨y, hy⟩ := nth_of HA.out.len (show i < n by omega)
            obtain ⟨g', o', eq, ⟨b0, b1, b2, b3, b4, b5, b6⟩⟩ := (HA.out.view.below HQ.out.low).at_ hy
            cases eq
            obtain ⟨g', o', eq, ⟨c0, c1, c2, c3, c4, c5, c6⟩⟩ := (HA.out.view.below HQ.out.low).at_ HXX.out
            cases eq
            have hi1 : (i : Int) < (n : Int) := by omega
            have hi2 : (i : Int) < (k : Int) := by omega
            have hi0 : (0 : Int) ≤ (i : Int) := by omega
            by_cases hp : y.p = x.p
            · have hR : Hid (R = 14) := by
                show _ = _
                have := HF2.out
                rw [if_pos (hp ▸ seen_mem hy hlt2)] at this
                exact this
              have d6 : (y.p == x.p) = true := by rw [beq_iff_eq]; exact hp
              clear hy hp b0 b1 b2 b3 b5 b6 c0 c1 c2 c3 c5 c6 HT
              go_upto_region 16 with fail
              go_quiet (fail)
              go_wp2
              go_ret
              rw [hR.out]
              exact ⟨rfl, below_same HQ.out.low rfl rfl rfl rfl⟩
            · have HT2 : Hid (∀ j z, j < i + 1 → L[j]? = some z → ¬ z.p = x.p) := by
                intro j z hj hz
                rcases Nat.lt_succ_iff_lt_or_eq.1 hj with q | rfl
                · exact HT.out j z q hz
                · rw [hy] at hz; cases hz; exact hp
              have d6 : (y.p == x.p) = false := by rw [beq_eq_false_iff_ne]; exact hp
              clear hy hp b0 b1 b2 b3 b5 b6 c0 c1 c2 c3 c5 c6 HT
              go_upto_region 16 with fail
              go_quiet (fail)
              go_wp2
              go_roundw
              case rel => exact ⟨i + 1, by omega, by go_num, HT2, HQ.out.below (below_same (Below.refl _ _) rfl rfl rfl rfl)⟩
              case measure => simp [intOf]; omega
          · obtain rfl : i = k := by omega
            have HN : Hid (firstOf s (lastOf L (i + 1)) (seenOf (L.take (i + 1))) (L.drop (i + 1)) = R) := by
              show _ = _
              have := HF2.out
              rw [if_neg (seen_not HT.out)] at this
              rw [seen_next HXX.out, lastOf, HXX.out, this]
              rfl
            go_wp2
            go_roundw
            case rel => exact ⟨i + 1, by omega, by go_num, HN, HQ⟩
            case measure => simp [intOf]; omega
      · obtain ⟨j, hj⟩ : ∃ j, k = j + 1 := ⟨k - 1, by omega⟩
        obtain ⟨y, hy⟩ := nth_of HA.out.len (show j < n by omega)
        obtain ⟨g', o', eq, ⟨b0, b1, b2, b3, b4, b5, b6⟩⟩ := (HA.out.view.below HP1.out.low).at_ hy
        cases eq
        obtain ⟨g', o', eq, ⟨c0, c1, c2, c3, c4, c5, c6⟩⟩ := (HA.out.view.below HP1.out.low).at_ HXX.out
        cases eq
        have f1 : (0 : Int) < (k : Int) := by omega
        have f2 : 0 < k := by omega
        have f3 : decide ((0 : Int) < (k : Int)) = true := decide_eq_true f1
        have f4 : (j : Int) < (n : Int) := by omega
        have f5 : (0 : Int) ≤ (j : Int) := by omega
        have HL : Hid (lastOf L k = y.id) := by
          show _ = _
          rw [hj, lastOf, hy]; rfl
        have hw : IntKind.i64.wrap ((k : Int) - 1) = (j : Int) := by rw [hj]; exact (IntWalk.i64_in _ (by omega)).trans (by omega)
        clear hk9 hj b1 b2 b3 b4 b5 b6 c1 c2 c3 c4 c5 c6 hy
        by_cases hle : x.id ≤ y.id
        · have hR : Hid (R = 10) := by
            show _ = _
            have := HF.out
            rw [HL.out, if_pos hle] at this
            exact this
          have d6 : decide (x.id ≤ y.id) = true := decide_eq_true hle
          go_quiet (fail)
          go_wp2
          go_ret
          rw [hR.out]
          exact ⟨rfl, below_same HP1.out.low rfl rfl rfl rfl⟩
        have HF2 : Hid (R = if x.p ∈ seenOf (L.take k) then 14 else firstOf s x.id (x.p :: seenOf (L.take k)) (L.drop (k + 1))) := by
          show _ = _
          have := HF.out
          rw [HL.out, if_neg hle] at this
          exact this
        have d6 : decide (x.id ≤ y.id) = false := decide_eq_false hle
        go_quiet (fail)
        clear b0 c0
        go_wp2
        go_loopw [5] (fun u wr => ∃ (i : Nat), i ≤ k ∧ u = .int .i64 i ∧ Hid (∀ j y, j < i → L[j]? = some y → ¬ y.p = x.p) ∧ Hid (SysB w w.heap.size s r (some ⟨g, o, none⟩) n cap wr)) (fun u _ => (k - intOf u).toNat)
        case atStart => exact ⟨0, by omega, rfl, fun j y hj => absurd hj (Nat.not_lt_zero _), HP1.out.below (below_same (Below.refl _ _) rfl rfl rfl rfl)⟩
        case round =>
          obtain ⟨i, hi, rfl, HT, HQ⟩ := hrel
          obtain ⟨_, e0, e1, e2⟩ := HQ.out
          by_cases hlt2 : i < k
          · obtain ⟨y, hy⟩ := nth_of HA.out.len (show i < n by omega)
            obtain ⟨g', o', eq, ⟨b0, b1, b2, b3, b4, b5, b6⟩⟩ := (HA.out.view.below HQ.out.low).at_ hy
            cases eq
            obtain ⟨g', o', eq, ⟨c0, c1, c2, c3, c4, c5, c6⟩⟩ := (HA.out.view.below HQ.out.low).at_ HXX.out
            cases eq
            have hi1 : (i : Int) < (n : Int) := by omega
            have hi2 : (i : Int) < (k : Int) := by omega
            have hi0 : (0 : Int) ≤ (i : Int) := by omega
            by_cases hp : y.p = x.p
            · have hR : Hid (R = 14) := by
                show _ = _
                have := HF2.out
                rw [if_pos (hp ▸ seen_mem hy hlt2)] at this
                exact this
              have d6 : (y.p == x.p) = true := by rw [beq_iff_eq]; exact hp
              clear hy hp b0 b1 b2 b3 b5 b6 c0 c1 c2 c3 c5 c6 HT
              go_upto_region 16 with fail
              go_quiet (fail)
              go_wp2
              go_ret
              rw [hR.out]
              exact ⟨rfl, below_same HQ.out.low rfl rfl rfl rfl⟩
            · have HT2 : Hid (∀ j z, j < i + 1 → L[j]? = some z → ¬ z.p = x.p) := by
                intro j z hj hz
                rcases Nat.lt_succ_iff_lt_or_eq.1 hj with q | rfl
                · exact HT.out j z q hz
                · rw [hy] at hz; cases hz; exact hp
              have d6 : (y.p == x.p) = false := by rw [beq_eq_false_iff_ne]; exact hp
              clear hy hp b0 b1 b2 b3 b5 b6 c0 c1 c2 c3 c5 c6 HT
              go_upto_region 16 with fail
              go_quiet (fail)
              go_wp2
              go_roundw
              case rel => exact ⟨i + 1, by omega, by go_num, HT2, HQ.out.below (below_same (Below.refl _ _) rfl rfl rfl rfl)⟩
              case measure => simp [intOf]; omega
          · obtain rfl : i = k := by omega
            have HN : Hid (firstOf s (lastOf L (i + 1)) (seenOf (L.take (i + 1))) (L.drop (i + 1)) = R) := by
              show _ = _
              have := HF2.out
              rw [if_neg (seen_not HT.out)] at this
              rw [seen_next HXX.out, lastOf, HXX.out, this]
              rfl
            go_wp2
            go_roundw
            case rel => exact ⟨i + 1, by omega, by go_num, HN, HQ⟩
            case measure => simp [intOf]; omega
    · obtain rfl : n = k := by omega
      have HF : Hid (R = 0) := by
        show _ = _
        rw [← HS.out, List.drop_of_length_le (by rw [HA.out.len]; exact Nat.le_refl _), firstOf]
      go_wp2_with fail
      go_ret
      rw [HF.out]
      exact ⟨rfl, HP.out.low⟩
end Go.Proofs.Ytlglncnhhgofoaa

/-
  What is wrong with a system by plain numbers: nothing; and with what becomes of it.
-/
namespace Go.Proofs.Ytlglncnhhgofoaa
open Go.RowKit Go.Maps

theorem good_right {k : Nat} {s : Int} {x : TV} (h : Good k s x) (hk : k < 6) : rightOf x s = 0 := by
  have h1 := h.id; have h2 := h.c1; have h3 := h.cd; have h4 := h.dt; have h5 := h.t24; have h6 := h.p1; have h7 := h.p99
  have hl : x.ch.length ≤ 24 := by
    rcases h.ch with e | e
    · rw [e]; simp
    · have := fill_len _ _ (by omega) e; omega
  have a1 : ¬ idBad x := by unfold idBad; omega
  have a2 : ¬ cdBad x := by unfold cdBad; omega
  have a3 : ¬ chBad x := by
    unfold chBad
    rintro (q | ⟨q1, q2⟩)
    · omega
    · rcases h.ch with e | e
      · exact q1 e
      · rw [e] at q2; cases q2
  have a4 : ¬ usBad x s := by
    unfold usBad
    rintro (q | q)
    · have := h.us5; omega
    · obtain ⟨u, hu, hb⟩ := List.any_eq_true.1 q
      have := h.us u hu
      unfold badB at hb
      simp only [decide_eq_true_eq] at hb
      omega
  unfold rightOf
  rw [if_neg a1, if_neg a2, if_neg a3, if_neg a4]

/-- The tasks ahead pass. -/
theorem first_pass {s : Int} (M : List TV) : ∀ (L : List TV) (k : Nat) (seen : List Int), k + L.length ≤ 6 → (∀ (j : Nat) (x : TV), L[j]? = some x → Good ((k + j : Nat) : Int) s x) → (∀ q ∈ seen, ∃ j : Nat, j < k ∧ (q - j) % 10 = 0) →
    firstOf s k seen (L ++ M) = firstOf s ((k + L.length : Nat) : Int) ((L.map TV.p).reverse ++ seen) M
  | [], k, seen, _, _, _ => rfl
  | x :: L, k, seen, hl, hg, hs => by
    have hx := hg 0 x rfl
    simp only [Nat.add_zero] at hx
    simp only [List.length_cons] at hl
    have hr := good_right hx (by omega)
    have hid : ¬ x.id ≤ (k : Int) := by rw [hx.id]; omega
    have hp : ¬ x.p ∈ seen := by
      intro q
      obtain ⟨j, hj, h⟩ := hs _ q
      have := hx.pi
      omega
    have hs' : ∀ q ∈ x.p :: seen, ∃ j : Nat, j < k + 1 ∧ (q - j) % 10 = 0 := by
      intro q hq
      rcases List.mem_cons.1 hq with rfl | hq
      · exact ⟨k, by omega, hx.pi⟩
      · obtain ⟨j, hj, h⟩ := hs _ hq
        exact ⟨j, by omega, h⟩
    have h2 := first_pass M L (k + 1) (x.p :: seen) (by omega) (fun j y hy => by
      have := hg (j + 1) y (by simpa using hy)
      rwa [show k + (j + 1) = k + 1 + j by omega] at this) hs'
    rw [List.cons_append, firstOf, if_neg (fun z => z hr), if_neg hid, if_neg hp, hx.id, show ((k : Int) + 1) = ((k + 1 : Nat) : Int) by omega, h2]
    simp only [List.length_cons, List.map_cons, List.reverse_cons, List.append_assoc, List.singleton_append]
    rw [show k + 1 + L.length = k + (L.length + 1) by omega]
theorem made_pass {s r : Int} {L : List TV} (h : Made s r L) (M : List TV) : firstOf s 0 [] (L ++ M) = firstOf s (L.length : Int) ((L.map TV.p).reverse ++ []) M := by
  have := first_pass (s := s) M L 0 [] (by have := h.six; omega) (fun j x hx => by simpa using h.good j x hx) (fun q hq => by cases hq)
  simpa using this
theorem made_ok {s r : Int} {L : List TV} (h : Made s r L) : ¬ sysBad s r L := by
  have h1 := h.s1; have h2 := h.s8; have h3 := h.r0; have h4 := h.r3; have h5 := h.pos
  unfold sysBad; omega
theorem check_made {s r : Int} {L : List TV} (h : Made s r L) : checkOf s r L = 0 := by
  unfold checkOf
  rw [if_neg (made_ok h), if_neg (by have := h.six; omega)]
  have := made_pass h []
  rw [List.append_nil] at this
  rw [this, firstOf]
theorem check_more {s r : Int} {L : List TV} (h : Made s r L) (y : TV) (want : Int) (hy : firstOf s (L.length : Int) ((L.map TV.p).reverse ++ []) [y] = want) : checkOf s r (L ++ [y]) = want := by
  unfold checkOf
  rw [if_neg, if_neg (by rw [List.length_append]; have := h.six; simp; omega), made_pass h, hy]
  have := made_ok h
  unfold sysBad at this ⊢
  rw [List.length_append]; simp; omega
theorem check_twice {s r : Int} {L : List TV} (h : Made s r L) {y : TV} {k : Nat} (hy : L[k]? = some y) : checkOf s r (L ++ [y]) = 10 := by
  refine check_more h y 10 ?_
  have hkl : k < L.length := (List.getElem?_eq_some_iff.1 hy).1
  have hg := h.good k y hy
  rw [firstOf, if_neg (fun z => z (good_right hg (by have := h.six; omega))), if_pos (by rw [hg.id]; omega)]
theorem check_prio {s r : Int} {L : List TV} (h : Made s r L) {y : TV} {k : Nat} (hy : L[k]? = some y) : checkOf s r (L ++ [{ y with id := 90 }]) = 14 := by
  refine check_more h _ 14 ?_
  have hkl : k < L.length := (List.getElem?_eq_some_iff.1 hy).1
  have hg := h.good k y hy
  have hr := good_right hg (by have := h.six; omega)
  have hr2 : rightOf { y with id := 90 } s = 0 := by
    unfold rightOf at hr ⊢
    have b1 : ¬ idBad y := by unfold idBad; have := hg.id; have := hg.p1; have := hg.p99; have := h.six; omega
    have b2 : ¬ idBad { y with id := 90 } := by unfold idBad; have := hg.p1; have := hg.p99; have := h.six; simp only; omega
    rw [if_neg b1] at hr
    rw [if_neg b2]
    exact hr
  rw [firstOf, if_neg (fun z => z hr2), if_neg (by have := h.six; simp only; omega), if_pos]
  rw [List.append_nil, List.mem_reverse, List.mem_map]
  exact ⟨y, List.mem_of_getElem? hy, rfl⟩
theorem check_none (s r : Int) : checkOf s r [] = 1 := by
  unfold checkOf; rw [if_pos]; unfold sysBad; right; rfl
theorem check_late {s r : Int} {L : List TV} (h : Made s r L) {y : TV} {k : Nat} (hy : L[k]? = some y) : checkOf s r (L.set k { y with d := y.t + 1 }) = 10 := by
  have hkl : k < L.length := (List.getElem?_eq_some_iff.1 hy).1
  have hg := h.good k y hy
  have h6 := h.six
  unfold checkOf
  rw [if_neg, if_neg (by rw [List.length_set]; omega)]
  · have e : L.set k { y with d := y.t + 1 } = L.take k ++ ({ y with d := y.t + 1 } :: L.drop (k + 1)) := by
      rw [List.set_eq_take_append_cons_drop, if_pos hkl]
    rw [e]
    have := first_pass (s := s) ({ y with d := y.t + 1 } :: L.drop (k + 1)) (L.take k) 0 [] (by rw [List.length_take]; omega) (fun j x hx => by
      rw [List.getElem?_take] at hx
      split at hx
      · simpa using h.good j x hx
      · cases hx) (fun q hq => by cases hq)
    simp only [Int.ofNat_zero, Int.natCast_zero] at this
    rw [this, firstOf]
    have hr : rightOf { y with d := y.t + 1 } s = 10 := by
      unfold rightOf
      have b1 : ¬ idBad { y with d := y.t + 1 } := by unfold idBad; have := hg.id; have := hg.p1; have := hg.p99; simp only; omega
      have b2 : cdBad { y with d := y.t + 1 } := by unfold cdBad; simp only; omega
      rw [if_neg b1, if_pos b2]
    rw [hr]; rfl
  · have := made_ok h
    unfold sysBad at this ⊢
    rw [List.length_set]; exact this
theorem made_less {s r : Int} {L : List TV} (h : Made s r L) (hl : 1 < L.length) : Made s r (L.take (L.length - 1)) :=
  ⟨h.s1, h.s8, h.r0, h.r3, by rw [List.length_take]; omega, by have := h.six; rw [List.length_take]; omega, fun k x hx => by
    rw [List.getElem?_take] at hx
    split at hx
    · exact h.good k x hx
    · cases hx⟩
theorem late_not {s r : Int} {L : List TV} (h : Made s r L) {y : TV} {k : Nat} (hy : L[k]? = some y) : ¬ (L.set k { y with d := y.t + 1 }).map TV.tk = L.map TV.tk := by
  have hkl : k < L.length := (List.getElem?_eq_some_iff.1 hy).1
  refine row_not (k := k) (x := { y with d := y.t + 1 }) (y := y) (by simp [hkl]) hy ?_
  intro z
  have := ((tk_eq _ _).1 z).2.2.1
  have h2 := (h.good k y hy).dt
  have h3 : y.t + 1 = y.d := this
  omega
theorem made_wf {s r : Int} {L : List TV} (h : Made s r L) : ∀ x ∈ L, I64 x.p ∧ I64 x.id := by
  intro x hx
  obtain ⟨k, hk⟩ := List.mem_iff_getElem?.1 hx
  have hg := h.good k x hk
  have hkl : k < L.length := (List.getElem?_eq_some_iff.1 hk).1
  have := h.six; have := hg.id; have := hg.p1; have := hg.p99
  unfold I64
  omega
end Go.Proofs.Ytlglncnhhgofoaa

/-
  The walks over rows of numbers copied, and over a task with rows of its own.
-/
namespace Go.Proofs.Ytlglncnhhgofoaa
open Go.RowKit Go.Maps

/-- A row of one's own that comes back. -/
def CloneBack (l : List Int) (w : World) (e : Ending) (w' : World) : Prop :=
  ∃ a c, e = .returned (.slice a l.length c) ∧ Ints w' a l ∧ IsI w' a l ∧ l.length ≤ c ∧ (c : Int) ≤ 9223372036854775807 ∧ Below w.heap.size w w'

theorem nilL (n c : Nat) (w : World) : (binOp .eql 34 (.slice none n c) (.slice none 0 0)).run Try.prog w = .ok (.bool true) w := by kernel_rfl
theorem someL (x : Addr) (n c : Nat) (w : World) : (binOp .eql 34 (.slice (some x) n c) (.slice none 0 0)).run Try.prog w = .ok (.bool false) w := by kernel_rfl
theorem nilI (n c : Nat) (w : World) : (binOp .eql 28 (.slice none n c) (.slice none 0 0)).run Try.prog w = .ok (.bool true) w := by kernel_rfl
theorem someI (x : Addr) (n c : Nat) (w : World) : (binOp .eql 28 (.slice (some x) n c) (.slice none 0 0)).run Try.prog w = .ok (.bool false) w := by kernel_rfl
theorem numint64 : IsNum 34 2 := numL
theorem numint : IsNum 28 3 := numI
attribute [local go_sem] nilL someL nilI someI

set_option maxRecDepth 100000 in
set_option maxHeartbeats 1000000 in
theorem clone_int64 (n cap : Nat) (a : Option Addr) (l : List Int) (hl : l.length = n) (hn : (n : Int) ≤ 1000000) (w : World) (h : Ints w a l) :
    Calls Try.prog 89 #[.slice a n cap] w (CloneBack l w) := by
  cases a with
  | none =>
    obtain rfl := h.nothing
    obtain rfl : n = 0 := by simpa using hl.symm
    go_enter Try.func89, Try.ntmps89
    go_wp2
    go_ret
    exact ⟨_, _, rfl, .inl rfl, .inl rfl, Nat.le_refl _, by omega, Below.refl _ _⟩
  | some x =>
    have H := Lib.hid h
    have HL := Lib.hid hl
    have HSM : Hid (((([] : List Int).length : Int) + (n : Int)) ≤ 17592186044416) := by show _ ≤ _; simp; omega
    clear h hl
    go_enter Try.func89, Try.ntmps89
    go_wp2_with (at_builtin; refine wp_ints (m := n) (l := l) (q := []) numint64 rfl _ _ rfl rfl rfl (OwnI.made w 2) (by simp) (H.out.below (by repeat (first | exact Below.refl _ _ | (with_reducible assumption) | refine bw_alloc ?_ _ | refine bw_drew ?_))) HL.out HSM.out (fun z => by cases z) n (by simp) ?_; intro a3 k3 w3 o3 g3 l3; have HO := Lib.hid o3; have HB := Lib.hid (((Below.refl w.heap.size w).alloc (Nat.le_refl _) _).grown g3 (by simp) (fun k hk => ((OwnI.made w 2).new hk).1)); clear o3 g3 l3)
    go_ret
    have ho : OwnI w3 2 w.heap.size (.slice a3 n k3) l := by simpa using HO.out
    obtain ⟨a4, c4, e4, i4, l4, m4⟩ := ho.slice
    simp only [Value.slice.injEq] at e4
    obtain ⟨rfl, _, rfl⟩ := e4
    exact ⟨a3, k3, (by rw [HL.out]; rfl), i4, ho.isI (by first | exact .inl rfl | exact .inr rfl), l4, m4, HB.out⟩
set_option maxRecDepth 100000 in
set_option maxHeartbeats 1000000 in
theorem clone_int (n cap : Nat) (a : Option Addr) (l : List Int) (hl : l.length = n) (hn : (n : Int) ≤ 1000000) (w : World) (h : Ints w a l) :
    Calls Try.prog 90 #[.slice a n cap] w (CloneBack l w) := by
  cases a with
  | none =>
    obtain rfl := h.nothing
    obtain rfl : n = 0 := by simpa using hl.symm
    go_enter Try.func90, Try.ntmps90
    go_wp2
    go_ret
    exact ⟨_, _, rfl, .inl rfl, .inl rfl, Nat.le_refl _, by omega, Below.refl _ _⟩
  | some x =>
    have H := Lib.hid h
    have HL := Lib.hid hl
    have HSM : Hid (((([] : List Int).length : Int) + (n : Int)) ≤ 17592186044416) := by show _ ≤ _; simp; omega
    clear h hl
    go_enter Try.func90, Try.ntmps90
    go_wp2_with (at_builtin; refine wp_ints (m := n) (l := l) (q := []) numint rfl _ _ rfl rfl rfl (OwnI.made w 3) (by simp) (H.out.below (by repeat (first | exact Below.refl _ _ | (with_reducible assumption) | refine bw_alloc ?_ _ | refine bw_drew ?_))) HL.out HSM.out (fun z => by cases z) n (by simp) ?_; intro a3 k3 w3 o3 g3 l3; have HO := Lib.hid o3; have HB := Lib.hid (((Below.refl w.heap.size w).alloc (Nat.le_refl _) _).grown g3 (by simp) (fun k hk => ((OwnI.made w 3).new hk).1)); clear o3 g3 l3)
    go_ret
    have ho : OwnI w3 3 w.heap.size (.slice a3 n k3) l := by simpa using HO.out
    obtain ⟨a4, c4, e4, i4, l4, m4⟩ := ho.slice
    simp only [Value.slice.injEq] at e4
    obtain ⟨rfl, _, rfl⟩ := e4
    exact ⟨a3, k3, (by rw [HL.out]; rfl), i4, ho.isI (by first | exact .inl rfl | exact .inr rfl), l4, m4, HB.out⟩
end Go.Proofs.Ytlglncnhhgofoaa

/-
  The walk over a task with rows of its own.
-/
namespace Go.Proofs.Ytlglncnhhgofoaa
open Go.RowKit Go.Maps

/-- A task in a box, one that comes back in another one. -/
structure OwnAt (w : World) (x : TV) (v1 v2 : Value) (W : World) : Prop where
  low : Below w.heap.size w W
  box : W.heap[w.heap.size]? = some (.cells #[.int .i64 x.id, .int .i64 x.c, .int .i64 x.d, .int .i64 x.t, .int .i64 x.p, v1, v2] TT (0, 0))
  res : W.heap[w.heap.size + 1]? = some (.cells #[.int .i64 0, .int .i64 0, .int .i64 0, .int .i64 0, .int .i64 0, .slice none 0 0, .slice none 0 0] TT (0, 0))
theorem OwnAt.below {w W W' : World} {x : TV} {v1 v2 : Value} (h : OwnAt w x v1 v2 W) (hb : Below W.heap.size W W') : OwnAt w x v1 v2 W' :=
  ⟨below_up h.low hb, kept_obj hb h.box, kept_obj hb h.res⟩
theorem ownAt_new {w : World} {x : TV} : OwnAt w x (.slice x.a1 x.ch.length x.c1) (.slice x.a2 x.us.length x.c2) ((w.alloc (.cells #[.int .i64 x.id, .int .i64 x.c, .int .i64 x.d, .int .i64 x.t, .int .i64 x.p, .slice x.a1 x.ch.length x.c1, .slice x.a2 x.us.length x.c2] TT)).alloc (.cells #[.int .i64 0, .int .i64 0, .int .i64 0, .int .i64 0, .int .i64 0, .slice none 0 0, .slice none 0 0] TT)) := by
  refine ⟨(by repeat (first | exact Below.refl _ _ | (with_reducible assumption) | refine bw_alloc ?_ _ | refine bw_drew ?_)), ?_, ?_⟩
  · rw [Below.heap_alloc _ _ _ (by simp)]; exact heap_alloc_new w _
  · have := heap_alloc_new (w.alloc (.cells #[.int .i64 x.id, .int .i64 x.c, .int .i64 x.d, .int .i64 x.t, .int .i64 x.p, .slice x.a1 x.ch.length x.c1, .slice x.a2 x.us.length x.c2] TT)) (.cells #[.int .i64 0, .int .i64 0, .int .i64 0, .int .i64 0, .int .i64 0, .slice none 0 0, .slice none 0 0] TT)
    rwa [World.size_alloc] at this
/-- Blocks of numbers stay where a cell of a block of tasks is stored. -/
def KeepI (w w' : World) : Prop := ∀ (g : Nat) (cs : Array Value) (T : TypeId) (fr : Nat × Nat), w.heap[g]? = some (.cells cs T fr) → (T = 2 ∨ T = 3) → w'.heap[g]? = w.heap[g]?
theorem KeepI.refl (w : World) : KeepI w w := fun _ _ _ _ _ _ => rfl
theorem KeepI.trans {w w' w'' : World} (h : KeepI w w') (k : KeepI w' w'') : KeepI w w'' := fun g cs T fr hc hT =>
  (k g cs T fr ((h g cs T fr hc hT).trans hc) hT).trans (h g cs T fr hc hT)
theorem keepI_set {w : World} {b o : Nat} {cs0 : Array Value} {fr0 : Nat × Nat} (hb : w.heap[b]? = some (.cells cs0 TT fr0)) (v : Value) : KeepI w (w.setCell ⟨b, o, none⟩ v) := by
  intro g cs T fr hc hT
  refine blk_far (a := ⟨b, o, none⟩) ?_ v
  rintro rfl
  rw [hb] at hc
  simp at hc
  rcases hT with q | q <;> rw [q] at hc <;> exact absurd hc.2.1 (by decide)
theorem keepI_below {w w' : World} (hb : Below w.heap.size w w') : KeepI w w' := fun g _ _ _ hc _ => hb.block g (lt_of_block hc)
theorem OwnAt.one {w W : World} {x : TV} {v1 v2 : Value} (h : OwnAt w x v1 v2 W) (v : Value) : OwnAt w x v v2 (W.setCell ⟨w.heap.size, 5, none⟩ v) ∧ KeepI W (W.setCell ⟨w.heap.size, 5, none⟩ v) :=
  ⟨⟨h.low.setCell (p := ⟨w.heap.size, 5, none⟩) (Nat.le_refl _) _, (blk_set h.box _).trans rfl, by rw [blk_far (a := ⟨w.heap.size, 5, none⟩) (Nat.succ_ne_self _)]; exact h.res⟩, keepI_set h.box v⟩
theorem OwnAt.two {w W : World} {x : TV} {v1 v2 : Value} (h : OwnAt w x v1 v2 W) (v : Value) : OwnAt w x v1 v (W.setCell ⟨w.heap.size, 6, none⟩ v) ∧ KeepI W (W.setCell ⟨w.heap.size, 6, none⟩ v) :=
  ⟨⟨h.low.setCell (p := ⟨w.heap.size, 6, none⟩) (Nat.le_refl _) _, (blk_set h.box _).trans rfl, by rw [blk_far (a := ⟨w.heap.size, 6, none⟩) (Nat.succ_ne_self _)]; exact h.res⟩, keepI_set h.box v⟩
theorem keepI_set7 {w : World} {b : Nat} {cs0 : Array Value} {fr0 : Nat × Nat} (hb : w.heap[b]? = some (.cells cs0 TT fr0)) (x0 x1 x2 x3 x4 x5 x6 : Value) : KeepI w ((((((((w.setCell ⟨b, 0, none⟩ x0).setCell ⟨b, 1, none⟩ x1).setCell ⟨b, 2, none⟩ x2).setCell ⟨b, 3, none⟩ x3).setCell ⟨b, 4, none⟩ x4).setCell ⟨b, 5, none⟩ x5).setCell ⟨b, 6, none⟩ x6)) :=
  (keepI_set hb x0).trans ((keepI_set (blk_set hb x0) x1).trans ((keepI_set (blk_set (blk_set hb x0) x1) x2).trans ((keepI_set (blk_set (blk_set (blk_set hb x0) x1) x2) x3).trans ((keepI_set (blk_set (blk_set (blk_set (blk_set hb x0) x1) x2) x3) x4).trans ((keepI_set (blk_set (blk_set (blk_set (blk_set (blk_set hb x0) x1) x2) x3) x4) x5).trans (keepI_set (blk_set (blk_set (blk_set (blk_set (blk_set (blk_set hb x0) x1) x2) x3) x4) x5) x6))))))

/-- A task with rows of its own that comes back. -/
def OwnBack (x : TV) (w : World) (e : Ending) (w' : World) : Prop :=
  ∃ y : TV, e = .returned (.agg #[.int .i64 y.id, .int .i64 y.c, .int .i64 y.d, .int .i64 y.t, .int .i64 y.p, .slice y.a1 y.ch.length y.c1, .slice y.a2 y.us.length y.c2]) ∧ y.tk = x.tk ∧ y.ok w' ∧ (IsI w' y.a1 y.ch ∧ IsI w' y.a2 y.us) ∧ Below w.heap.size w w'

set_option maxRecDepth 100000 in
set_option maxHeartbeats 4000000 in
theorem own_any (x : TV) (w : World) (hx : x.ok w) (h1 : (x.ch.length : Int) ≤ 1000000) (h2 : (x.us.length : Int) ≤ 1000000) :
    Calls Try.prog 71 #[.agg #[.int .i64 x.id, .int .i64 x.c, .int .i64 x.d, .int .i64 x.t, .int .i64 x.p, .slice x.a1 x.ch.length x.c1, .slice x.a2 x.us.length x.c2]] w (OwnBack x w) := by
  have hz := zeroTask
  have C1 : Hid (∀ w', Below w.heap.size w w' → _) := fun w' hb => clone_int64 x.ch.length x.c1 x.a1 x.ch rfl h1 w' (hx.one.below hb)
  have C2 : Hid (∀ w', Below w.heap.size w w' → _) := fun w' hb => clone_int x.us.length x.c2 x.a2 x.us rfl h2 w' (hx.two.below hb)
  clear hx h1 h2
  go_enter Try.func71, Try.ntmps71
  go_upto_region 1 with fail
  refine gen_world (OwnAt w x _ _) ownAt_new ?_
  intro W1 hw1
  have H1 := Lib.hid hw1
  have b5 : W1.cell? ⟨w.heap.size, 5, none⟩ = some (.slice x.a1 x.ch.length x.c1) := by rw [blk_cell hw1.box]; rfl
  have hl1 : w.heap.size < W1.heap.size := lt_of_block hw1.box
  clear hw1
  go_upto_region 2 with (go_at_call 89; (with_reducible refine (C1.out _ H1.out.low).mono ?_); rintro e w5 ⟨a5, c5, rfl, i5, ii5, l5, m5, q5⟩; have H5 := Lib.hid (H1.out.below q5); have I5 := Lib.hid (And.intro i5 (And.intro ii5 (And.intro l5 m5))); have f5 := blk_free H5.out.box 5; have b5' : w5.cell? ⟨w.heap.size, 5, none⟩ = some (.slice x.a1 x.ch.length x.c1) := (by rw [blk_cell H5.out.box]; rfl); have hl5 : w.heap.size < w5.heap.size := (lt_of_block H5.out.box); clear i5 ii5 l5 m5 q5)
  refine gen_world (fun v => OwnAt w x (.slice a5 x.ch.length c5) (.slice x.a2 x.us.length x.c2) v ∧ Ints v a5 x.ch ∧ IsI v a5 x.ch) ⟨(H5.out.one _).1, I5.out.1.kept I5.out.2.1 (H5.out.one _).2, I5.out.2.1.kept (H5.out.one _).2⟩ ?_
  intro W2 ⟨hw2, hi2⟩
  have H2 := Lib.hid hw2
  have I2 := Lib.hid hi2
  have LM := Lib.hid I5.out.2.2
  have b6 : W2.cell? ⟨w.heap.size, 6, none⟩ = some (.slice x.a2 x.us.length x.c2) := by rw [blk_cell hw2.box]; rfl
  have hl2 : w.heap.size < W2.heap.size := lt_of_block hw2.box
  clear hw2 hi2 H1 H5 I5 b5 b5' f5 hl1 hl5
  go_upto_region 3 with (go_at_call 90; (with_reducible refine (C2.out _ H2.out.low).mono ?_); rintro e w6 ⟨a6, c6, rfl, i6, ii6, l6, m6, q6⟩; have H6 := Lib.hid (H2.out.below q6); have I6 := Lib.hid (And.intro i6 (And.intro ii6 (And.intro l6 m6))); have J6 := Lib.hid (And.intro (I2.out.1.below q6) (I2.out.2.below q6)); have f6 := blk_free H6.out.box 6; have b6' : w6.cell? ⟨w.heap.size, 6, none⟩ = some (.slice x.a2 x.us.length x.c2) := (by rw [blk_cell H6.out.box]; rfl); have hl6 : w.heap.size < w6.heap.size := (lt_of_block H6.out.box); clear i6 ii6 l6 m6 q6)
  refine gen_world (fun v => OwnAt w x (.slice a5 x.ch.length c5) (.slice a6 x.us.length c6) v ∧ (Ints v a5 x.ch ∧ IsI v a5 x.ch) ∧ Ints v a6 x.us ∧ IsI v a6 x.us) ⟨(H6.out.two _).1, ⟨J6.out.1.kept J6.out.2 (H6.out.two _).2, J6.out.2.kept (H6.out.two _).2⟩, I6.out.1.kept I6.out.2.1 (H6.out.two _).2, I6.out.2.1.kept (H6.out.two _).2⟩ ?_
  intro W3 ⟨hw3, hi3, hj3⟩
  have H3 := Lib.hid hw3
  have I3 := Lib.hid hi3
  have J3 := Lib.hid hj3
  have LM6 := Lib.hid I6.out.2.2
  have c0 : W3.cell? ⟨w.heap.size, 0, none⟩ = some (.int .i64 x.id) := by rw [blk_cell hw3.box]; rfl
  have c1 : W3.cell? ⟨w.heap.size, 1, none⟩ = some (.int .i64 x.c) := by rw [blk_cell hw3.box]; rfl
  have c2 : W3.cell? ⟨w.heap.size, 2, none⟩ = some (.int .i64 x.d) := by rw [blk_cell hw3.box]; rfl
  have c3 : W3.cell? ⟨w.heap.size, 3, none⟩ = some (.int .i64 x.t) := by rw [blk_cell hw3.box]; rfl
  have c4 : W3.cell? ⟨w.heap.size, 4, none⟩ = some (.int .i64 x.p) := by rw [blk_cell hw3.box]; rfl
  have c5' : W3.cell? ⟨w.heap.size, 5, none⟩ = some (.slice a5 x.ch.length c5) := by rw [blk_cell hw3.box]; rfl
  have c6' : W3.cell? ⟨w.heap.size, 6, none⟩ = some (.slice a6 x.us.length c6) := by rw [blk_cell hw3.box]; rfl
  have r0 : W3.cell? ⟨w.heap.size + 1, 0, none⟩ = some (.int .i64 0) := by rw [blk_cell hw3.res]; rfl
  have r1 : W3.cell? ⟨w.heap.size + 1, 1, none⟩ = some (.int .i64 0) := by rw [blk_cell hw3.res]; rfl
  have r2 : W3.cell? ⟨w.heap.size + 1, 2, none⟩ = some (.int .i64 0) := by rw [blk_cell hw3.res]; rfl
  have r3 : W3.cell? ⟨w.heap.size + 1, 3, none⟩ = some (.int .i64 0) := by rw [blk_cell hw3.res]; rfl
  have r4 : W3.cell? ⟨w.heap.size + 1, 4, none⟩ = some (.int .i64 0) := by rw [blk_cell hw3.res]; rfl
  have r5 : W3.cell? ⟨w.heap.size + 1, 5, none⟩ = some (.slice none 0 0) := by rw [blk_cell hw3.res]; rfl
  have r6 : W3.cell? ⟨w.heap.size + 1, 6, none⟩ = some (.slice none 0 0) := by rw [blk_cell hw3.res]; rfl
  have f0 := blk_free hw3.res 0
  have f1 := blk_free hw3.res 1
  have f2 := blk_free hw3.res 2
  have f3 := blk_free hw3.res 3
  have f4 := blk_free hw3.res 4
  have f5 := blk_free hw3.res 5
  have f6' := blk_free hw3.res 6
  have hr1 : w.heap.size + 1 < W3.heap.size := lt_of_block hw3.res
  have HFIN : Hid (∀ x0 x1 x2 x3 x4 x5 x6, OwnBack x w (.returned (.agg #[.int .i64 x.id, .int .i64 x.c, .int .i64 x.d, .int .i64 x.t, .int .i64 x.p, .slice a5 x.ch.length c5, .slice a6 x.us.length c6])) ((((((((W3.setCell ⟨w.heap.size + 1, 0, none⟩ x0).setCell ⟨w.heap.size + 1, 1, none⟩ x1).setCell ⟨w.heap.size + 1, 2, none⟩ x2).setCell ⟨w.heap.size + 1, 3, none⟩ x3).setCell ⟨w.heap.size + 1, 4, none⟩ x4).setCell ⟨w.heap.size + 1, 5, none⟩ x5).setCell ⟨w.heap.size + 1, 6, none⟩ x6))) := by
    intro x0 x1 x2 x3 x4 x5 x6
    have hk := keepI_set7 H3.out.res x0 x1 x2 x3 x4 x5 x6
    exact ⟨⟨x.id, x.c, x.d, x.t, x.p, a5, x.ch, c5, a6, x.us, c6⟩, rfl, rfl, ⟨I3.out.1.kept I3.out.2 hk, J3.out.1.kept J3.out.2 hk, LM.out.1, LM.out.2, LM6.out.1, LM6.out.2⟩, ⟨I3.out.2.kept hk, J3.out.2.kept hk⟩, below_set7 H3.out.low (Nat.le_succ _) x0 x1 x2 x3 x4 x5 x6⟩
  clear hw3 hi3 hj3 H2 H6 I2 I6 J6 b6 b6' f6 hl2 hl6
  go_wp2_with fail
  exact bodyPost_ret (v := .agg #[.int .i64 x.id, .int .i64 x.c, .int .i64 x.d, .int .i64 x.t, .int .i64 x.p, .slice a5 x.ch.length c5, .slice a6 x.us.length c6]) (by simp [results, Try.results71, go_sem, r0, r1, r2, r3, r4, r5, r6]) rfl (HFIN.out _ _ _ _ _ _ _)
end Go.Proofs.Ytlglncnhhgofoaa
