/-
  The walk over whether two rows of requests are the same, where they are.
-/
import Derived.Test.YtkcdblpaaldcaaaQAwake
namespace Go.Proofs.Ytkcdblpaaldcaaa
open Go.RowKit Go.Maps Go.Conc

/-- A row of requests that came in. -/
structure IsAsks (W : World) (a : Option Addr) (len cap : Nat) (l : List Req) : Prop where
  hlen : (len : Int) ≤ 9223372036854775807
  hcap : len ≤ cap
  hcap2 : (cap : Int) ≤ 9223372036854775807
  length : l.length = len
  view : View W a l

theorem below_same {B : Nat} {W w w' : World} (h : Below B W w) (e : w'.heap = w.heap) (e1 : w'.os = w.os) (e2 : w'.tape = w.tape) (e3 : w'.output = w.output) : Below B W w' :=
  ⟨e1.trans h.os, e2.trans h.tape, e3.trans h.output, by rw [e]; exact h.size, fun k hk => by rw [e]; exact h.block k hk⟩

set_option maxRecDepth 100000 in
set_option maxHeartbeats 2000000 in
theorem same_yes (m ca cb : Nat) (hm : (m : Int) ≤ 9223372036854775807) (a b : Option Addr) (l : List Req) (hl : l.length = m) (w : World) (ha : View w a l) (hb : View w b l) :
    Calls Try.prog 13 #[.slice a m ca, .slice b m cb] w fun r w' => r = .returned (.bool true) ∧ Below w.heap.size w w' := by
  have HA := Lib.hid ha
  have HB := Lib.hid hb
  have HL := Lib.hid hl
  clear ha hb hl
  go_enter Try.func13, Try.ntmps13
  go_wp2
  go_loopw [5] (fun u wr => ∃ k : Nat, k ≤ m ∧ u = .int .i64 k ∧ Hid (Below w.heap.size w wr)) (fun u _ => (m - intOf u).toNat)
  case atStart => exact ⟨0, by omega, rfl, Below.refl _ _⟩
  case round =>
    obtain ⟨k, hk, rfl, HP⟩ := hrel
    by_cases hlt : k < m
    · obtain ⟨x, hx⟩ : ∃ x, l[k]? = some x := ⟨l[k]'(by rw [HL.out]; exact hlt), by simp [HL.out, hlt]⟩
      obtain ⟨g, o, rfl, c0, c1⟩ := (HA.out.below HP.out).at_ hx
      obtain ⟨g2, o2, rfl, d0, d1⟩ := (HB.out.below HP.out).at_ hx
      clear hx
      obtain ⟨x, y⟩ := x
      have hk1 : (k : Int) < (m : Int) := by omega
      have hk0 : (0 : Int) ≤ (k : Int) := by omega
      go_upto_region 6 with (fail)
      go_quiet (fail)
      go_wp2
      go_roundw
      case rel => exact ⟨k + 1, by omega, by go_num, below_same HP.out rfl rfl rfl rfl⟩
      case measure => simp [intOf]; omega
    · obtain rfl : k = m := by omega
      go_wp2
      go_ret
      exact ⟨rfl, HP.out⟩
end Go.Proofs.Ytkcdblpaaldcaaa
