/-
  The walk over two rows held against each other.
-/
import Derived.Test.YtbmmigaabhnnfaaHKeys2
import Derived.RegionTactic
namespace Go.Proofs.Ytbmmigaabhnnfaa
open Go.RowKit Go.Maps

set_option maxHeartbeats 1000000 in
theorem same_any (L : List Int) (hl : (L.length : Int) ≤ 9223372036854775807) (ao bo : Option Addr) (ca cb : Nat) (w : World) (ha : Reads w w.heap.size ao L) (hb : Reads w w.heap.size bo L) :
    Calls Try.prog 25 #[.slice ao L.length ca, .slice bo L.length cb] w fun e w' => e = .returned (.bool true) ∧ Below w.heap.size w w' := by
  have HA := Lib.hid ha
  have HB := Lib.hid hb
  clear ha hb
  go_enter Try.func25, Try.ntmps25
  go_wp2
  go_loopw [5] (fun i wr => ∃ k : Nat, k ≤ L.length ∧ i = .int .i64 k ∧ Hid (Below w.heap.size w wr)) (fun i _ => (L.length - intOf i).toNat)
  case atStart => exact ⟨0, by omega, rfl, Below.refl _ _⟩
  case round =>
    obtain ⟨k, hk, rfl, hw⟩ := hrel
    by_cases hlt : k < L.length
    · obtain ⟨b1, o1, rfl, _, h1⟩ : ∃ b off, ao = some ⟨b, off, none⟩ ∧ b < w.heap.size ∧ ∀ k, k < L.length → wr.cell? ⟨b, off + k, none⟩ = some (.int .i64 (L.getD k 0)) := by
        rcases HA.out.below hw.out with h | h
        · rw [h] at hlt; exact absurd hlt (Nat.not_lt_zero _)
        · exact h
      obtain ⟨b2, o2, rfl, _, h2⟩ : ∃ b off, bo = some ⟨b, off, none⟩ ∧ b < w.heap.size ∧ ∀ k, k < L.length → wr.cell? ⟨b, off + k, none⟩ = some (.int .i64 (L.getD k 0)) := by
        rcases HB.out.below hw.out with h | h
        · rw [h] at hlt; exact absurd hlt (Nat.not_lt_zero _)
        · exact h
      have c1 := h1 k hlt
      have c2 := h2 k hlt
      clear h1 h2
      generalize L.getD k 0 = x at c1 c2
      go_wp2
      go_region
      all_goals
        go_wp2
        go_roundw
        case rel => exact ⟨k + 1, by omega, by go_num, hw.out.drew⟩
        case measure => simp [intOf]; omega
    · obtain rfl : k = L.length := by omega
      go_wp2
      go_ret
      exact ⟨rfl, hw.out⟩


end Go.Proofs.Ytbmmigaabhnnfaa
