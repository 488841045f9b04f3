/-
  Rows that came in: what their cells hold; numbers of 62 bits.
-/
import Derived.Test.YtbmmigaabhnnfaaHAwake
import Derived.Laws.BitsLemmas
import Derived.Deep.LoopGhost
namespace Go.Proofs.Ytbmmigaabhnnfaa
open Go.RowKit Go.Maps

/-- A slice of integers that came in. -/
def IsRow (k : IntKind) (w : World) (a : Option Addr) (len cap : Nat) (zs : List Int) : Prop :=
  (a = none ∧ len = 0 ∧ cap = 0 ∧ zs = []) ∨
  ∃ x, a = some x ∧ len ≤ cap ∧ cap ≤ maxLen ∧ zs.length = cap ∧ (∀ i, i < zs.length → w.cell? (x.add i) = some (.int k (zs.getD i 0))) ∧ ∀ n ∈ zs, (Lit.int k n).wf = true

/-- A row of ints that lies below block B. -/
def Reads (w : World) (B : Nat) (a : Option Addr) (zs : List Int) : Prop :=
  zs = [] ∨ ∃ b off, a = some ⟨b, off, none⟩ ∧ b < B ∧ ∀ k, k < zs.length → w.cell? ⟨b, off + k, none⟩ = some (.int .i64 (zs.getD k 0))

theorem Reads.below {w w' : World} {B : Nat} {a : Option Addr} {zs : List Int} (h : Reads w B a zs) (hb : Below B w w') : Reads w' B a zs := by
  rcases h with h | ⟨b, off, h1, h2, h3⟩
  · exact .inl h
  · exact .inr ⟨b, off, h1, h2, fun k hk => by rw [hb.cell (p := ⟨b, off + k, none⟩) h2]; exact h3 k hk⟩
theorem Reads.up {w : World} {B B' : Nat} {ao : Option Addr} {zs : List Int} (h : Reads w B ao zs) (hB : B ≤ B') : Reads w B' ao zs := by
  rcases h with h | ⟨b, off, h1, h2, h3⟩
  · exact .inl h
  · exact .inr ⟨b, off, h1, by omega, h3⟩
theorem Reads.later {w w' : World} {B : Nat} {ao : Option Addr} {zs : List Int} (h : Reads w B ao zs) (hB : B ≤ w.heap.size) (hb : Below B w w') : Reads w' w'.heap.size ao zs :=
  (h.below hb).up (Nat.le_trans hB hb.size)

theorem getD_take (zs : List Int) (n k : Nat) (h : k < n) : (zs.take n).getD k 0 = zs.getD k 0 := by
  simp only [List.getD_eq_getElem?_getD, List.getElem?_take, if_pos h]
theorem Reads.take {w : World} {B : Nat} {ao : Option Addr} {zs : List Int} (h : Reads w B ao zs) (n : Nat) : Reads w B ao (zs.take n) := by
  rcases h with h | ⟨b, off, h1, h2, h3⟩
  · left; rw [h]; simp
  · right
    refine ⟨b, off, h1, h2, fun k hk => ?_⟩
    rw [List.length_take] at hk
    rw [getD_take _ _ _ (by omega)]
    exact h3 k (by omega)

theorem isrow_reads {w : World} {a : Option Addr} {len cap : Nat} {z : List Int} (h : IsRow .i64 w a len cap z) :
    Reads w w.heap.size a (z.take len) ∧ (z.take len).length = len ∧ (len : Int) ≤ 9223372036854775807 ∧ len ≤ cap ∧ (cap : Int) ≤ 9223372036854775807 ∧ ∀ x ∈ z.take len, (Lit.int .i64 x).wf = true := by
  rcases h with ⟨rfl, rfl, rfl, rfl⟩ | ⟨x, rfl, h1, h2, h3, h4, h5⟩
  · exact ⟨.inl rfl, rfl, by omega, by omega, by omega, by simp⟩
  · have hl : (z.take len).length = len := by rw [List.length_take]; omega
    refine ⟨?_, hl, by unfold maxLen at h2; omega, h1, by unfold maxLen at h2; omega, fun y hy => h5 y (List.mem_of_mem_take hy)⟩
    rcases Nat.eq_zero_or_pos len with e | e
    · left; rw [e]; simp
    · right
      have h0 := h4 0 (by omega)
      rcases x with ⟨b, off, spot⟩
      have hs : spot = none := by
        cases spot with
        | none => rfl
        | some s => simp [World.cell?, Addr.add] at h0; split at h0 <;> simp at h0
      subst hs
      refine ⟨b, off, rfl, block_of_cell h0, fun k hk => ?_⟩
      rw [getD_take _ _ _ (by omega)]
      have e : (⟨b, off, none⟩ : Addr).add k = ⟨b, off + k, none⟩ := by
        unfold Addr.add; split <;> simp_all
      rw [← e]
      exact h4 k (by omega)


theorem bits_low (n : Int) (k : Nat) (m : Int) (hm : (BitVec.ofInt 64 m).toNat = 2 ^ k - 1) (hk : k ≤ 62) : bits .and .i64 n m = n % ((2 ^ k : Nat) : Int) := by
  have key : (BitVec.ofInt 64 n &&& BitVec.ofInt 64 m).toNat = (n % ((2 ^ 64 : Nat) : Int)).toNat % 2 ^ k := by
    rw [BitVec.toNat_and, BitVec.toNat_ofInt, hm, Nat.and_two_pow_sub_one_eq_mod]
  show IntKind.i64.wrap ((BitVec.ofInt 64 n &&& BitVec.ofInt 64 m).toNat : Nat) = n % ((2 ^ k : Nat) : Int)
  rw [key, IntKind.wrap_i64]
  have h1 : (2 ^ k : Nat) ≤ 2 ^ 62 := Nat.pow_le_pow_right (by omega) hk
  have h2 : 0 < (2 ^ k : Nat) := Nat.two_pow_pos k
  have h3 : (2 ^ k : Nat) ∣ 2 ^ 64 := Nat.pow_dvd_pow 2 (by omega)
  have h4 : (((n % ((2 ^ 64 : Nat) : Int)).toNat % 2 ^ k : Nat) : Int) = n % ((2 ^ k : Nat) : Int) := by
    have h5 : ((n % ((2 ^ 64 : Nat) : Int)).toNat : Int) = n % ((2 ^ 64 : Nat) : Int) := Int.toNat_of_nonneg (Int.emod_nonneg _ (by decide))
    rw [Int.natCast_emod, h5]
    exact Int.emod_emod_of_dvd n (Int.natCast_dvd_natCast.2 h3)
  have h6 : (n % ((2 ^ 64 : Nat) : Int)).toNat % 2 ^ k < 2 ^ k := Nat.mod_lt _ h2
  rw [← h4]
  generalize (n % ((2 ^ 64 : Nat) : Int)).toNat % 2 ^ k = q at h6
  omega
theorem i64_and62 (n : Int) : bits .and .i64 n 4611686018427387903 = n % 4611686018427387904 := bits_low n 62 _ (by decide) (by omega)

theorem turn_at (turn : Int) (n : Nat) (hn : 0 < n) (h8 : n ≤ 1000) : ∃ k : Nat, k < n ∧ (wrap64 (turn.tmod (n : Int) + (n : Int))).tmod (n : Int) = (k : Int) := by
  have h1 := Int.tmod_lt_of_pos turn (show (0 : Int) < n by omega)
  have h2 := Int.lt_tmod_of_pos turn (show (0 : Int) < n by omega)
  generalize turn.tmod (n : Int) = t at h1 h2
  have e : wrap64 (t + n) = t + n := IntWalk.wrap64_in _ (by omega)
  rw [e]
  have h3 := Int.tmod_nonneg (n : Int) (show 0 ≤ t + n by omega)
  have h4 := Int.tmod_lt_of_pos (t + n) (show (0 : Int) < n by omega)
  exact ⟨((t + n).tmod n).toNat, by omega, by omega⟩

/-- The numbers from 0 below n are there, each with its own. -/
def rowC (M : Nat → Int) (n : Nat) (k : Int) : Option Int := if 0 ≤ k ∧ k < (n : Int) then some (M k.toNat) else none
theorem rowC_next (M : Nat → Int) (n : Nat) : cput (rowC M n) (n : Int) (M n) = rowC M (n + 1) := by
  funext k
  unfold cput rowC
  by_cases h : k = (n : Int)
  · rw [if_pos h, if_pos (by omega), h]; simp
  · rw [if_neg h]
    by_cases g : 0 ≤ k ∧ k < (n : Int)
    · rw [if_pos g, if_pos (by omega)]
    · rw [if_neg g, if_neg (by omega)]
theorem rowC_out (M : Nat → Int) (n : Nat) : rowC M n (n : Int) = none := by unfold rowC; rw [if_neg (by omega)]
theorem rowC_in (M : Nat → Int) {n k : Nat} (h : k < n) : rowC M n (k : Int) = some (M k) := by unfold rowC; rw [if_pos (by omega)]; simp
theorem rowC_some {M : Nat → Int} {n : Nat} {k x : Int} (h : rowC M n k = some x) : ∃ j : Nat, j < n ∧ k = (j : Int) ∧ x = M j := by
  unfold rowC at h
  split at h
  · rename_i q
    cases h
    exact ⟨k.toNat, by omega, by omega, rfl⟩
  · cases h
theorem rowC_zero (M : Nat → Int) : rowC M 0 = fun _ => none := by funext k; unfold rowC; rw [if_neg (by omega)]

end Go.Proofs.Ytbmmigaabhnnfaa
