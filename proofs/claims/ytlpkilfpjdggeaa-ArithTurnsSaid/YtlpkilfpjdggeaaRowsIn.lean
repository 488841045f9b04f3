/-
  Rows that came in: what their cells hold, what is taken of them; sums, divisors and multiples of them, in any later world.
-/
import Derived.Test.YtlpkilfpjdggeaaLaws1
namespace Go.Proofs.Ytlpkilfpjdggeaa
open Go.RowKit

/-- A slice of integers that came in. -/
def IsRow (k : IntKind) (w : World) (a : Option Addr) (len cap : Nat) (zs : List Int) : Prop :=
  (a = none ∧ len = 0 ∧ cap = 0 ∧ zs = []) ∨
  ∃ x, a = some x ∧ len ≤ cap ∧ cap ≤ maxLen ∧ zs.length = cap ∧ (∀ i, i < zs.length → w.cell? (x.add i) = some (.int k (zs.getD i 0))) ∧ ∀ n ∈ zs, (Lit.int k n).wf = true

theorem block_of_cell {w : World} {a : Addr} {v : Value} (h : w.cell? a = some v) : a.block < w.heap.size := by
  rcases Nat.lt_or_ge a.block w.heap.size with g | g
  · exact g
  · simp [World.cell?, Array.getElem?_eq_none g] at h

theorem getD_take (zs : List Int) (n k : Nat) (h : k < n) : (zs.take n).getD k 0 = zs.getD k 0 := by
  simp only [List.getD_eq_getElem?_getD, List.getElem?_take, if_pos h]

/-- The first n elements. -/
theorem Reads.take {w : World} {B : Nat} {ao : Option Addr} {zs : List Int} (h : Reads w B ao zs) (n : Nat) : Reads w B ao (zs.take n) := by
  rcases h with h | ⟨b, off, h1, h2, h3⟩
  · left; rw [h]; simp
  · right
    refine ⟨b, off, h1, h2, fun k hk => ?_⟩
    rw [List.length_take] at hk
    rw [getD_take _ _ _ (by omega)]
    exact h3 k (by omega)

theorem Reads.up {w : World} {B B' : Nat} {ao : Option Addr} {zs : List Int} (h : Reads w B ao zs) (hB : B ≤ B') : Reads w B' ao zs := by
  rcases h with h | ⟨b, off, h1, h2, h3⟩
  · exact .inl h
  · exact .inr ⟨b, off, h1, by omega, h3⟩

theorem Reads.later {w w' : World} {B : Nat} {ao : Option Addr} {zs : List Int} (h : Reads w B ao zs) (hB : B ≤ w.heap.size) (hb : Below B w w') : Reads w' w'.heap.size ao zs :=
  (h.below hb).up (Nat.le_trans hB hb.size)

theorem isrow_reads {w : World} {a : Option Addr} {len cap : Nat} {z : List Int} (h : IsRow .u64 w a len cap z) :
    Reads w w.heap.size a (z.take len) ∧ (z.take len).length = len ∧ (∀ x ∈ z.take len, U64 x) ∧ (len : Int) ≤ 9223372036854775807 := by
  rcases h with ⟨rfl, rfl, rfl, rfl⟩ | ⟨x, rfl, h1, h2, h3, h4, h5⟩
  · exact ⟨.inl rfl, rfl, by simp, by omega⟩
  · have hl : (z.take len).length = len := by rw [List.length_take]; omega
    refine ⟨?_, hl, fun y hy => u64_of_wf (h5 y (List.mem_of_mem_take hy)), by unfold maxLen at h2; omega⟩
    rcases Nat.eq_zero_or_pos len with e | e
    · left; rw [e]; simp
    · right
      have h0 := h4 0 (by omega)
      rcases x with ⟨b, off, spot⟩
      have hs : spot = none := by
        cases spot with
        | none => rfl
        | some s => simp [World.cell?, Addr.add] at h0; split at h0 <;> simp at h0
      subst hs
      refine ⟨b, off, rfl, block_of_cell h0, fun k hk => ?_⟩
      rw [getD_take _ _ _ (by omega)]
      have e : (⟨b, off, none⟩ : Addr).add k = ⟨b, off + k, none⟩ := by
        unfold Addr.add; split <;> simp_all
      rw [← e]
      exact h4 k (by omega)

theorem Calls.under {P : Program} {f : FuncId} {args : Array Value} {B : Nat} {W w : World} {R : Ending → Prop} (hb : Below B W w) (hB : B ≤ W.heap.size)
    (h : Calls P f args w fun e w' => R e ∧ Below w.heap.size w w') : Calls P f args w fun e w' => R e ∧ Below B W w' :=
  h.mono fun _ _ ⟨h1, h2⟩ => ⟨h1, hb.trans (h2.mono (Nat.le_trans hB hb.size))⟩

set_option maxHeartbeats 400000 in
theorem few_long (n cap : Nat) (ao : Option Addr) (hn : 8 < n) (hc : n ≤ cap) (hm : (cap : Int) ≤ 9223372036854775807) (w : World) :
    Calls Try.prog 10 #[.slice ao n cap] w fun e w' => e = .returned (.slice ao 8 cap) ∧ w = w' := by
  go_enter Try.func10, Try.ntmps10
  go_wp2
  go_ret
  exact ⟨rfl, rfl⟩

set_option maxHeartbeats 400000 in
theorem few_short (n cap : Nat) (ao : Option Addr) (hn : n ≤ 8) (w : World) :
    Calls Try.prog 10 #[.slice ao n cap] w fun e w' => e = .returned (.slice ao n cap) ∧ w = w' := by
  go_enter Try.func10, Try.ntmps10
  go_wp2
  go_ret
  exact ⟨rfl, rfl⟩

/-- What came in, cut to 8: a row of at most 8 numbers. -/
theorem few_any {w : World} {a : Option Addr} {len cap : Nat} {z : List Int} (h : IsRow .u64 w a len cap z) :
    ∃ L : List Int, L.length ≤ 8 ∧ (∀ x ∈ L, U64 x) ∧ Reads w w.heap.size a L ∧ ∃ cap', L.length ≤ cap' ∧ (cap' : Int) ≤ 9223372036854775807 ∧
      ∀ w', Calls Try.prog 10 #[.slice a len cap] w' fun e w'' => e = .returned (.slice a L.length cap') ∧ w' = w'' := by
  obtain ⟨h1, h2, h3, h4⟩ := isrow_reads h
  have hc : len ≤ cap ∧ (cap : Int) ≤ 9223372036854775807 := by
    rcases h with ⟨_, rfl, rfl, _⟩ | ⟨x, _, g1, g2, _⟩
    · omega
    · unfold maxLen at g2; omega
  by_cases hl : 8 < len
  · refine ⟨(z.take len).take 8, ?_, fun x hx => h3 x (List.mem_of_mem_take hx), h1.take 8, cap, ?_, hc.2, ?_⟩
    · rw [List.length_take]; omega
    · rw [List.length_take, h2]; omega
    · have : ((z.take len).take 8).length = 8 := by rw [List.length_take, h2]; omega
      rw [this]
      exact fun w' => few_long len cap a hl hc.1 hc.2 w'
  · refine ⟨z.take len, by omega, h3, h1, cap, by omega, hc.2, ?_⟩
    rw [h2]
    exact fun w' => few_short len cap a (by omega) w'

end Go.Proofs.Ytlpkilfpjdggeaa
