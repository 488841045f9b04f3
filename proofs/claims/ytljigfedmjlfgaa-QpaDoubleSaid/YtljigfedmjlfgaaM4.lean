/- Texts of this claim, put together: Shelf, Arith, Fold, Sums, GP2, GP3, GP4, GP5, GS1. -/
import Derived.Test.YtljigfedmjlfgaaProg
import Derived.Test.YtljigfedmjlfgaaRows
import Derived.Test.YtljigfedmjlfgaaM3
import Derived.Shelf.Bits.Mul64
import Derived.WalkKit
import Derived.WalkSpells
import Derived.WalkLawsBesides
import Derived.Laws.Externs
import Derived.Shelf.Spec.BitsCarry
import Derived.Lib.Hide
import Derived.Deep.QuietTactic
import Derived.BigQuiet
import Derived.Conc.MuLone
import Derived.Laws.MakeOwn
set_option linter.unusedVariables false
set_option linter.unusedSimpArgs false

/-
  DERIVED: THE SHELF's CONTRACTS AT THIS DUMP, IN PLAIN WORDS (tools/lay-plain.mjs out of 'TryShelf.lean', which tools/lay-shelf.mjs wrote): THE SAME DECLARATIONS UNDER THE SAME NAMES: 'import', 'namespace', 'open', 'def', 'theorem' AND NOTHING ELSE: no command of the shelf's: FOR A HAND-IN. Each laying: the table of numbers ('.._ren') and one theorem, a field a fact of the dump's own or the kernel's comparison; each contract: ONE APPLICATION.
-/
namespace Go.Proofs
open Go.Shelf
def Try.lays264_ren : Go.Shelf.Ren := ⟨fun | 264 => 53 | n => n, fun | 53 => 72 | 46 => 102 | n => n, fun | n => n⟩
theorem Try.lays264 : Go.Proofs.Lays.n264 Try.prog Try.lays264_ren := {
  mixed := by kernel_rfl
  f264 := Try.func53.trans (congrArg some (by kernel_rfl))
  t46 := Try.underlying102
  a46 := Try.isAgg102
  z46 := Try.sizeOf102
  v46 := Try.zeroValue102
  t53 := Try.underlying72
  a53 := Try.isAgg72
  z53 := Try.sizeOf72
  v53 := Try.zeroValue72 }
open Go.RowKit Go.Lib in
theorem Try.bits_Mul64 (x y : Nat) (hx : x < 18446744073709551616) (hy : y < 18446744073709551616) (w : World) :
    Calls Try.prog 53 #[.int .u64 x, .int .u64 y] w fun e w' => e = .returned (.tuple #[.int .u64 ((x * y / 18446744073709551616 : Nat) : Int), .int .u64 ((x * y % 18446744073709551616 : Nat) : Int)]) ∧ w' = w := Any.bits_Mul64 Try.lays264 x y hx hy w
end Go.Proofs

/-
  The walks over the package of sums.
-/
namespace Go.Proofs.Ytljigfedmjlfgaa
open Go.RowKit

theorem run_add0 (x y : Int) (hx : U64 x) (hy : U64 y) (w : World) :
    (callFunc 67 #[.int .u64 x, .int .u64 y, .int .u64 0]).run Try.prog w =
    .ok (.value (.tuple #[.int .u64 ((x + y) % 18446744073709551616), .int .u64 ((x + y) / 18446744073709551616)])) w := by
  rw [run_callFunc_extern Try.func67 (by kernel_rfl) (by kernel_rfl) (by kernel_rfl) (e := add64Entry) (by kernel_rfl),
    run_add64 x y 0 hx.1 hy.1 (by omega) (by omega), Int.add_zero]
  rfl

theorem exact_ok (a : Int) (w : World) : Calls Try.prog 54 #[.int .u64 a, .int .u64 0] w fun e w' => e = .returned (.tuple #[.int .u64 a, .bool true]) ∧ w = w' := by
  go_enter Try.func54, Try.ntmps54
  go_wp2
  go_ret2
  exact ⟨rfl, rfl⟩

theorem exact_no (a b : Int) (hb : (b != 0) = true) (w : World) : Calls Try.prog 54 #[.int .u64 a, .int .u64 b] w fun e w' => e = .returned (.tuple #[.int .u64 0, .bool false]) ∧ w = w' := by
  go_enter Try.func54, Try.ntmps54
  go_wp2
  go_ret2
  exact ⟨rfl, rfl⟩

set_option maxHeartbeats 400000 in
theorem add_ok (a b : Int) (ha : U64 a) (hb : U64 b) (h : a + b < 18446744073709551616) (w : World) :
    Calls Try.prog 52 #[.int .u64 a, .int .u64 b] w fun e w' => e = .returned (.tuple #[.int .u64 (a + b), .bool true]) ∧ w = w' := by
  have h0 := ha.1; have h1 := hb.1
  have e1 : (a + b) % 18446744073709551616 = a + b := by omega
  have e2 : (a + b) / 18446744073709551616 = 0 := by omega
  have R := run_add0 a b ha hb
  rw [e1, e2] at R
  clear e1 e2 h h0 h1 ha hb
  go_enter Try.func52, Try.ntmps52
  go_wp2_with (go_at_call 54; refine (exact_ok _ _).mono ?_; rintro e w' ⟨rfl, rfl⟩)
  go_ret2
  exact ⟨rfl, rfl⟩

set_option maxHeartbeats 400000 in
theorem add_no (a b : Int) (ha : U64 a) (hb : U64 b) (h : ¬ a + b < 18446744073709551616) (w : World) :
    Calls Try.prog 52 #[.int .u64 a, .int .u64 b] w fun e w' => e = .returned (.tuple #[.int .u64 0, .bool false]) ∧ w = w' := by
  have h0 := ha.2; have h1 := hb.2
  have e2 : (a + b) / 18446744073709551616 = 1 := by omega
  have R := run_add0 a b ha hb
  rw [e2] at R
  generalize (a + b) % 18446744073709551616 = z at R
  clear e2 h h0 h1 ha hb
  go_enter Try.func52, Try.ntmps52
  go_wp2_with (go_at_call 54; refine (exact_no _ _ (by decide) _).mono ?_; rintro e w' ⟨rfl, rfl⟩)
  go_ret2
  exact ⟨rfl, rfl⟩

theorem add_any (a b : Int) (ha : U64 a) (hb : U64 b) (w : World) :
    Calls Try.prog 52 #[.int .u64 a, .int .u64 b] w fun e w' => e = .returned (.tuple #[.int .u64 (addN a b), .bool (addB a b)]) ∧ w = w' := by
  by_cases h : a + b < 18446744073709551616
  · simpa only [addN, addB, h, if_true, decide_true] using add_ok a b ha hb h w
  · simpa only [addN, addB, h, if_false, decide_false] using add_no a b ha hb h w

theorem mul64_any (a b : Int) (ha : U64 a) (hb : U64 b) (w : World) :
    Calls Try.prog 53 #[.int .u64 a, .int .u64 b] w fun e w' => e = .returned (.tuple #[.int .u64 (a * b / 18446744073709551616), .int .u64 (a * b % 18446744073709551616)]) ∧ w = w' := by
  obtain ⟨a, rfl⟩ := Int.eq_ofNat_of_zero_le ha.1
  obtain ⟨b, rfl⟩ := Int.eq_ofNat_of_zero_le hb.1
  have := ha.2; have := hb.2
  refine (Try.bits_Mul64 a b (by omega) (by omega) w).mono ?_
  rintro e w' ⟨rfl, rfl⟩
  exact ⟨by simp, rfl⟩

set_option maxHeartbeats 400000 in
theorem mul_any (a b : Int) (ha : U64 a) (hb : U64 b) (w : World) :
    Calls Try.prog 39 #[.int .u64 a, .int .u64 b] w fun e w' => e = .returned (.tuple #[.int .u64 (mulN a b), .bool (mulB a b)]) ∧ w = w' := by
  have C := mul64_any a b ha hb
  have hn := Int.mul_nonneg ha.1 hb.1
  by_cases h : a * b < 18446744073709551616
  · have e1 : a * b % 18446744073709551616 = a * b := by omega
    have e2 : a * b / 18446744073709551616 = 0 := by omega
    simp only [mulN, mulB, h, if_true, decide_true]
    rw [e1, e2] at C
    generalize a * b = z at C ⊢
    clear e1 e2 h hn ha hb
    have H := Lib.hid C; clear C
    go_enter Try.func39, Try.ntmps39
    go_wp2_with (first | (go_at_call 53; refine (H.out _).mono ?_; rintro e w' ⟨rfl, rfl⟩) | (go_at_call 54; refine (exact_ok _ _).mono ?_; rintro e w' ⟨rfl, rfl⟩))
    go_ret2
    exact ⟨rfl, rfl⟩
  · have e2 : (a * b / 18446744073709551616 != 0) = true := by rw [bne_iff_ne]; omega
    simp only [mulN, mulB, h, if_false, decide_false]
    generalize a * b % 18446744073709551616 = z at C
    generalize a * b / 18446744073709551616 = y at C e2
    clear h hn ha hb
    have H := Lib.hid C; clear C
    go_enter Try.func39, Try.ntmps39
    go_wp2_with (first | (go_at_call 53; refine (H.out _).mono ?_; rintro e w' ⟨rfl, rfl⟩) | (go_at_call 54; refine (exact_no _ _ e2 _).mono ?_; rintro e w' ⟨rfl, rfl⟩))
    go_ret2
    exact ⟨rfl, rfl⟩

set_option maxHeartbeats 400000 in
theorem gcd_any (a b : Nat) (ha : (a : Int) ≤ 18446744073709551615) (hb : (b : Int) ≤ 18446744073709551615) (w : World) :
    Calls Try.prog 70 #[.int .u64 a, .int .u64 b] w fun e w' => e = .returned (.int .u64 (Nat.gcd a b)) ∧ Below w.heap.size w w' := by
  go_enter Try.func70, Try.ntmps70
  go_wp2
  go_loopw [0, 1] (fun u v wr => ∃ x y : Nat, (x : Int) ≤ 18446744073709551615 ∧ (y : Int) ≤ 18446744073709551615 ∧ Hid (Nat.gcd x y = Nat.gcd a b) ∧ u = .int .u64 x ∧ v = .int .u64 y ∧ Below w.heap.size w wr) (fun _ v _ => (intOf v).toNat)
  case atStart => exact ⟨a, b, ha, hb, rfl, rfl, rfl, Below.refl _ _⟩
  case round =>
    obtain ⟨x, y, hx, hy, hg, rfl, rfl, hbel⟩ := hrel
    by_cases h : y = 0
    · have h1 : ((y : Int) != 0) = false := by rw [bne_eq_false_iff_eq]; omega
      have hg' : Hid (x = Nat.gcd a b) := by have := hg.out; rw [h, Nat.gcd_zero_right] at this; exact this
      clear h hg
      go_wp2
      go_ret
      exact ⟨by rw [← hg'.out]; rfl, hbel⟩
    · have hpos : (0 : Int) < y := by omega
      have h1 : ((y : Int) != 0) = true := by rw [bne_iff_ne]; omega
      have h2 : ((y : Int) == 0) = false := by rw [beq_eq_false_iff_ne]; omega
      have h3 : (x : Int) % y < y := Int.emod_lt_of_pos _ hpos
      have h4 : 0 ≤ (x : Int) % y := Int.emod_nonneg _ (by omega)
      have hg' : Hid (Nat.gcd y (x % y) = Nat.gcd a b) := by
        have := hg.out
        rw [Nat.gcd_comm, Nat.gcd_rec] at this
        rw [Nat.gcd_comm]
        exact this
      clear hg
      go_wp2
      go_quiet (fail)
      go_wp2
      go_roundw
      case rel => exact ⟨y, x % y, hy, by omega, hg', rfl, by go_num, below_drewN hbel _⟩
      case measure => simp [intOf]; omega

end Go.Proofs.Ytljigfedmjlfgaa

/-
  The walks over the fold of numbers, and what tells them one by one.
-/
namespace Go.Proofs.Ytljigfedmjlfgaa
open Go.RowKit

set_option maxHeartbeats 400000 in
theorem each1_end (pi pl n cap : Nat) (ao : Option Addr) (w : World) (hi : w.cell? ⟨pi, 0, none⟩ = some (.int .i64 n)) (hl : w.cell? ⟨pl, 0, none⟩ = some (.slice ao n cap)) :
    Calls Try.prog 69 #[.pointer (some ⟨pi, 0, none⟩), .pointer (some ⟨pl, 0, none⟩)] w fun e w' => e = .returned (.tuple #[.int .u64 0, .bool false]) ∧ w = w' := by
  go_enter Try.func69, Try.ntmps69
  go_wp2
  go_ret2
  exact ⟨rfl, rfl⟩

set_option maxHeartbeats 400000 in
theorem each1_next (pi pl k n cap b off : Nat) (z : Int) (w : World) (hk : k < n) (hn : (n : Int) ≤ 9223372036854775807) (hi : w.cell? ⟨pi, 0, none⟩ = some (.int .i64 k)) (hf : w.frozen? ⟨pi, 0, none⟩ = false)
    (hl : w.cell? ⟨pl, 0, none⟩ = some (.slice (some ⟨b, off, none⟩) n cap)) (hz : w.cell? ⟨b, off + k, none⟩ = some (.int .u64 z)) (hb : b ≠ pi) (hp : pl ≠ pi) :
    Calls Try.prog 69 #[.pointer (some ⟨pi, 0, none⟩), .pointer (some ⟨pl, 0, none⟩)] w fun e w' => e = .returned (.tuple #[.int .u64 z, .bool true]) ∧ w.setCell ⟨pi, 0, none⟩ (.int .i64 ((k : Int) + 1)) = w' := by
  have h1 : ((k : Int) == (n : Int)) = false := by rw [beq_eq_false_iff_ne]; omega
  go_enter Try.func69, Try.ntmps69
  go_wp2
  go_ret2
  exact ⟨rfl, rfl⟩

set_option maxHeartbeats 400000 in
theorem each_any (n cap : Nat) (ao : Option Addr) (w : World) :
    Calls Try.prog 65 #[.slice ao n cap] w fun e w' => e = .returned (.func (.func 69) #[] #[.pointer (some ⟨w.heap.size + 1, 0, none⟩), .pointer (some ⟨w.heap.size, 0, none⟩)]) ∧ (w.alloc (.cells #[.slice ao n cap] 86)).alloc (.cells #[.int .i64 0] 3) = w' := by
  have hmf : ∀ (fn : Fn) (first cap : Array Value) (w : World), (Instr.makeFunc fn first cap).run Try.prog w = .ok (.func fn first cap) w := fun _ _ _ _ => rfl
  go_enter Try.func65, Try.ntmps65
  go_wp2
  go_ret
  exact ⟨rfl, rfl⟩

/-- What the function value of a joining function must keep to. -/
structure Joins (jf : Nat) (jN : Int → Int → Int) (jB : Int → Int → Bool) (Good : Int → Prop) : Prop where
  enter : ∀ (args : Array Value) (w : World), (callFunc jf args).run Try.prog w = .ok (.enter jf args) w
  call : ∀ a b w, Good a → U64 b → Calls Try.prog jf #[.int .u64 a, .int .u64 b] w fun e w' => e = .returned (.tuple #[.int .u64 (jN a b), .bool (jB a b)]) ∧ Below w.heap.size w w'
  good : ∀ a b, Good a → U64 b → jB a b = true → Good (jN a b)

def eachV (pi pl : Nat) : Value := .func (.func 69) #[] #[.pointer (some ⟨pi, 0, none⟩), .pointer (some ⟨pl, 0, none⟩)]

set_option maxHeartbeats 800000 in
theorem fold_any (jf : Nat) (jN : Int → Int → Int) (jB : Int → Int → Bool) (Good : Int → Prop) (J : Joins jf jN jB Good)
    (zs : List Int) (hz : ∀ z ∈ zs, U64 z) (hn : (zs.length : Int) ≤ 9223372036854775807) (B cap pi pl : Nat) (ao : Option Addr) (so : Int) (hso : Good so) (w : World) (hr : Reads w B ao zs)
    (hi : w.cell? ⟨pi, 0, none⟩ = some (.int .i64 0)) (hl : w.cell? ⟨pl, 0, none⟩ = some (.slice ao zs.length cap)) (hf : w.frozen? ⟨pi, 0, none⟩ = false)
    (hpl : pl ≠ pi) (hbi : B ≤ pi) (hsi : pi < w.heap.size) (hsl : pl < w.heap.size) :
    Calls Try.prog 64 #[.int .u64 so, eachV pi pl, .func (.func jf) #[] #[]] w fun e w' =>
      e = .returned (.tuple #[.int .u64 (foldR jN jB so zs).1, .bool (foldR jN jB so zs).2]) ∧ Below B w w' := by
  unfold eachV
  have hen := J.enter
  have HJ := Lib.hid J; clear J
  have HR := Lib.hid hr; clear hr
  have HZ := Lib.hid hz; clear hz
  have Hgood := Lib.hid hso; clear hso
  have H0 : Hid (foldR jN jB so (zs.drop 0) = foldR jN jB so zs) := by rw [List.drop_zero]; rfl
  generalize foldR jN jB so zs = res at H0 ⊢
  go_enter Try.func64, Try.ntmps64
  go_wp2; go_step3; go_wp2; go_step3; go_wp2
  go_loopw [0, 8] (fun s o wr => ∃ (k : Nat) (a : Int), k ≤ zs.length ∧ Hid (Good a) ∧ Hid (foldR jN jB a (zs.drop k) = res) ∧ s = .int .u64 a ∧ o = .bool true ∧
      wr.cell? ⟨pi, 0, none⟩ = some (.int .i64 k) ∧ wr.cell? ⟨pl, 0, none⟩ = some (.slice ao zs.length cap) ∧ wr.frozen? ⟨pi, 0, none⟩ = false ∧ w.heap.size ≤ wr.heap.size ∧ Below B w wr)
    (fun _ _ wr => zs.length - (intOf ((wr.cell? ⟨pi, 0, none⟩).getD undef)).toNat)
  case atStart => exact ⟨0, so, Nat.zero_le _, Hgood, H0, rfl, rfl, hi, hl, hf, Nat.le_refl _, Below.refl _ _⟩
  case round =>
    obtain ⟨k, a, hk, hg, hres, rfl, rfl, hci, hcl, hfi, hsz, hbel⟩ := hrel
    by_cases hlt : k < zs.length
    · have hz : U64 (zs.getD k 0) := HZ.out _ (by rw [List.getD_eq_getElem?_getD, List.getElem?_eq_getElem hlt]; exact List.getElem_mem _)
      have hd := drop_cons zs k hlt
      obtain ⟨b, off, rfl, hb, hcells⟩ : ∃ b off, ao = some ⟨b, off, none⟩ ∧ b < B ∧ ∀ k, k < zs.length → wr.cell? ⟨b, off + k, none⟩ = some (.int .u64 (zs.getD k 0)) := by
        rcases HR.out.below hbel with h | h
        · rw [h] at hlt; exact absurd hlt (Nat.not_lt_zero _)
        · exact h
      have hc := hcells k hlt
      clear hcells
      have H1 := hres.out
      rw [hd] at H1
      have Hz := Lib.hid hz; clear hz hd
      generalize zs.getD k 0 = z at hc H1 Hz
      have C1 := each1_next pi pl k zs.length cap b off z wr hlt hn hci hfi hcl hc (by omega) hpl
      have HC := Lib.hid C1; clear C1 hc
      by_cases hj : jB a z = true
      · rw [foldR_yes hj] at H1
        have Hg := Lib.hid (HJ.out.good a z hg.out Hz.out hj)
        have H1 := Lib.hid H1
        clear hres
        go_wp2_with (first | (go_at_call 69; refine (HC.out).mono ?_; rintro e w' ⟨rfl, rfl⟩) | ((with_reducible refine (HJ.out.call a z _ hg.out Hz.out).mono ?_); rintro e w' ⟨rfl, hw2⟩))
        go_roundw
        case rel =>
          obtain ⟨c1, c2, c3, c4, c5⟩ := each_step hsi hsl hsz hci hcl hfi hpl hbi hbel hw2
          exact ⟨k + 1, jN a z, hlt, Hg, H1, rfl, rfl, by rw [c1]; go_num, c2, c3, c4, c5⟩
        case measure =>
          obtain ⟨c1, c2, c3, c4, c5⟩ := each_step hsi hsl hsz hci hcl hfi hpl hbi hbel hw2
          rw [c1, hci]; simp [intOf]; omega
      · have hj' : jB a z = false := by simpa using hj
        rw [foldR_no hj'] at H1
        have H1 := Lib.hid H1
        clear hres hj
        go_wp2_with (first | (go_at_call 69; refine (HC.out).mono ?_; rintro e w' ⟨rfl, rfl⟩) | ((with_reducible refine (HJ.out.call a z _ hg.out Hz.out).mono ?_); rintro e w' ⟨rfl, hw2⟩))
        rw [Exit.noGoto_ret]
        go_ret2
        obtain ⟨c1, c2, c3, c4, c5⟩ := each_step hsi hsl hsz hci hcl hfi hpl hbi hbel hw2
        exact ⟨by rw [← H1.out]; simp only [← hj']; rfl, c5⟩
    · have hke : k = zs.length := by omega
      subst hke
      go_wp2_with (go_at_call 69; refine (each1_end pi pl zs.length cap ao _ hci hcl).mono ?_; rintro e w' ⟨rfl, rfl⟩)
      rw [Exit.noGoto_ret]
      go_ret2
      have := hres.out
      rw [List.drop_length, foldR_nil] at this
      exact ⟨by rw [← this]; rfl, hbel⟩

end Go.Proofs.Ytljigfedmjlfgaa

/-
  The walks over sums, divisors and multiples of rows.
-/
namespace Go.Proofs.Ytljigfedmjlfgaa
open Go.RowKit

theorem joins_add : Joins 52 addN addB U64 where
  enter := fun _ _ => MuLone.run_callFunc_enter Try.func52 (by kernel_rfl) rfl _ _
  call := fun a b w ha hb => (add_any a b ha hb w).mono (by rintro e w' ⟨rfl, rfl⟩; exact ⟨rfl, Below.refl _ _⟩)
  good := fun a b ha hb _ => addN_u64 ha hb

set_option maxHeartbeats 400000 in
theorem lcm_zero (a : Int) (w : World) :
    Calls Try.prog 66 #[.int .u64 a, .int .u64 0] w fun e w' => e = .returned (.tuple #[.int .u64 0, .bool false]) ∧ w = w' := by
  go_enter Try.func66, Try.ntmps66
  go_wp2
  go_ret2
  exact ⟨rfl, rfl⟩

set_option maxHeartbeats 400000 in
theorem lcm_pos (x y : Nat) (hx0 : 0 < x) (hx : (x : Int) ≤ 18446744073709551615) (hy0 : 0 < y) (hy : (y : Int) ≤ 18446744073709551615) (w : World) :
    Calls Try.prog 66 #[.int .u64 x, .int .u64 y] w fun e w' => e = .returned (.tuple #[.int .u64 (mulN ((x : Int) / (Nat.gcd x y : Nat)) y), .bool (mulB ((x : Int) / (Nat.gcd x y : Nat)) y)]) ∧ Below w.heap.size w w' := by
  have C := Lib.hid (gcd_any x y (by omega) (by omega))
  have hg : 1 ≤ ((Nat.gcd x y : Nat) : Int) := by have := Nat.gcd_pos_of_pos_left y hx0; omega
  generalize Nat.gcd x y = g at C hg ⊢
  have h1 : 0 ≤ (x : Int) / g := Int.ediv_nonneg (by omega) (by omega)
  have h2 : (x : Int) / g ≤ x := Int.ediv_le_self _ (by omega)
  have C2 := Lib.hid (mul_any ((x : Int) / g) y ⟨h1, by omega⟩ ⟨by omega, by omega⟩)
  have hy1 : ((y : Int) == 0) = false := by rw [beq_eq_false_iff_ne]; omega
  have hg1 : ((g : Int) == 0) = false := by rw [beq_eq_false_iff_ne]; omega
  have h3 : (x : Int) / g ≤ 18446744073709551615 := by omega
  clear h2
  go_enter Try.func66, Try.ntmps66
  go_wp2_with (first | (go_at_call 70; refine (C.out _).mono ?_; rintro e w' ⟨rfl, hw⟩) | (go_at_call 39; (with_reducible refine (C2.out _).mono ?_); rintro e w' ⟨rfl, rfl⟩))
  go_ret2
  exact ⟨rfl, hw⟩

theorem joins_lcm : Joins 66 lcmN lcmB (fun a => U64 a ∧ 0 < a) where
  enter := fun _ _ => MuLone.run_callFunc_enter Try.func66 (by kernel_rfl) rfl _ _
  call := fun a b w ha hb => by
    obtain ⟨x, rfl⟩ := Int.eq_ofNat_of_zero_le ha.1.1
    obtain ⟨y, rfl⟩ := Int.eq_ofNat_of_zero_le hb.1
    have hx := ha.1.2; have hy := hb.2; have hx0 := ha.2
    by_cases h : y = 0
    · subst h
      refine (lcm_zero x w).mono ?_
      rintro e w' ⟨rfl, rfl⟩
      exact ⟨by simp [lcmN, lcmB], Below.refl _ _⟩
    · have h' : ¬ (y : Int) = 0 := by omega
      simpa only [lcmN, lcmB, if_neg h', Int.toNat_natCast] using lcm_pos x y (by omega) (by omega) (by omega) (by omega) w
  good := fun a b ha hb h => lcmN_good ha.1 ha.2 hb h


set_option maxHeartbeats 400000 in
theorem lcms_any (zs : List Int) (hz : ∀ z ∈ zs, U64 z) (hn : (zs.length : Int) ≤ 9223372036854775807) (cap : Nat) (ao : Option Addr) (w : World) (hr : Reads w w.heap.size ao zs) :
    Calls Try.prog 50 #[.slice ao zs.length cap] w fun e w' => e = .returned (.tuple #[.int .u64 (foldR lcmN lcmB 1 zs).1, .bool (foldR lcmN lcmB 1 zs).2]) ∧ Below w.heap.size w w' := by
  have hb : Below w.heap.size w ((w.alloc (.cells #[.slice ao zs.length cap] 86)).alloc (.cells #[.int .i64 0] 3)) := ((Below.refl _ _).alloc (Nat.le_refl _) _).alloc (by simp) _
  have C := fold_any _ _ _ _ joins_lcm zs hz hn w.heap.size cap (w.heap.size + 1) w.heap.size ao 1 ⟨⟨by omega, by omega⟩, by omega⟩ ((w.alloc (.cells #[.slice ao zs.length cap] 86)).alloc (.cells #[.int .i64 0] 3))
    (hr.below hb) (by simp) (by simp) (by simp) (by omega) (by omega) (by simp) (by simp; omega)
  have E := each_any zs.length cap ao w
  unfold eachV at C
  generalize foldR lcmN lcmB 1 zs = res at C ⊢
  have HC := Lib.hid C; clear C
  have HE := Lib.hid E; clear E
  clear hr hz
  go_enter Try.func50, Try.ntmps50
  go_wp2_with (first | (go_at_call 65; refine (HE.out).mono ?_; rintro e w' ⟨rfl, rfl⟩) | (go_at_call 64; refine (HC.out).mono ?_; rintro e w' ⟨rfl, hw⟩))
  go_ret2
  exact ⟨rfl, hb.trans hw⟩

end Go.Proofs.Ytljigfedmjlfgaa

/-
  The walks over what puts numbers of demands together, over work due, and over a period's work.
-/
namespace Go.Proofs.Ytljigfedmjlfgaa
open Go.RowKit Go.Maps

def sumN (f : Dm → Int) (l : List Dm) : Nat → Int
  | 0 => 0
  | k + 1 => match l[k]? with
    | some x => sumN f l k + x.c * f x
    | none => sumN f l k
theorem sum_next {f : Dm → Int} {l : List Dm} {k : Nat} {x : Dm} (h : l[k]? = some x) : sumN f l (k + 1) = sumN f l k + x.c * f x := by rw [sumN, h]
theorem sum_end {f : Dm → Int} {l : List Dm} {k : Nat} (h : l[k]? = none) : sumN f l (k + 1) = sumN f l k := by rw [sumN, h]
theorem sum_due (l : List Dm) (t : Int) : ∀ k, sumN (fun x => jobsD x t) l k = dueN l t k
  | 0 => rfl
  | k + 1 => by
    cases h : l[k]? with
    | none => rw [sum_end h, due_end h, sum_due l t k]
    | some x => rw [sum_next h, due_next h, sum_due l t k]
theorem sum_load (l : List Dm) (p : Int) : ∀ k, sumN (fun x => p / x.t) l k = loadN l p k
  | 0 => rfl
  | k + 1 => by
    cases h : l[k]? with
    | none => rw [sum_end h, load_end h, sum_load l p k]
    | some x => rw [sum_next h, load_next h, sum_load l p k]
theorem sum_mono {f : Dm → Int} {l : List Dm} (h : ∀ x ∈ l, 0 ≤ x.c * f x) : ∀ {j k : Nat}, j ≤ k → sumN f l j ≤ sumN f l k
  | j, k, hjk => by
    induction k with
    | zero => obtain rfl : j = 0 := by omega
              exact Int.le_refl _
    | succ k ih =>
      rcases Nat.lt_or_ge k j with q | q
      · obtain rfl : j = k + 1 := by omega
        exact Int.le_refl _
      · have := ih q
        cases hx : l[k]? with
        | none => rw [sum_end hx]; exact this
        | some x =>
          have := h x (List.mem_of_getElem? hx)
          rw [sum_next hx]; omega
/-- What may be told at all. -/
def capA (s : Int) : Option Int := if s ≤ 4611686018427387904 then some s else none
theorem cap_is {s : Int} (h : s ≤ 4611686018427387904) : capA s = some s := if_pos h
theorem cap_not {s : Int} (h : 4611686018427387904 < s) : capA s = none := if_neg (by omega)

/-- A function value that tells a number of each demand, times its work. -/
structure Each (l : List Dm) (ef : Nat) (pv : Value) (f : Dm → Int) (V : World) : Prop where
  enter : ∀ (args : Array Value) (w : World), (callFunc ef args).run Try.prog w = .ok (.enter ef args) w
  call : ∀ x w, x ∈ l → Below V.heap.size V w → Calls Try.prog ef #[.agg #[.int .i64 x.c, .int .i64 x.d, .int .i64 x.t], pv] w fun e w' => e = .returned (.tuple #[.int .u64 (mulN x.c (f x)), .bool (mulB x.c (f x))]) ∧ Below w.heap.size w w'
  low : ∀ x ∈ l, 0 ≤ f x ∧ f x ≤ 2199023255553

set_option maxRecDepth 100000 in
set_option maxHeartbeats 8000000 in
theorem together_any (l : List Dm) (n c : Nat) (hl : l.length = n) (hn : (n : Int) ≤ 9223372036854775807) (hok : ∀ x ∈ l, x.ok) (a : Option Addr) (w : World) (hv : GView w a l) (ef : Nat) (pv : Value) (f : Dm → Int) (E : Each l ef pv f w) :
    Calls Try.prog 37 #[.func (.func ef) #[] #[pv], .slice a n c] w fun e w' => e = .returned (.tuple #[.int .i64 ((capA (sumN f l l.length)).getD 0), .bool (capA (sumN f l l.length)).isSome]) ∧ Below w.heap.size w w' := by
  have HV := Lib.hid hv
  have HL := Lib.hid hl
  have HOK := Lib.hid hok
  have hen := E.enter
  have HE := Lib.hid E
  obtain ⟨res, hres⟩ : ∃ res, capA (sumN f l l.length) = res := ⟨_, rfl⟩
  have HRES := Lib.hid hres
  rw [hres]
  clear hv hl hok E hres
  go_enter Try.func37, Try.ntmps37
  go_wp2; go_step3; go_wp2; go_step3; go_wp2
  go_loopw [6, 7, 14] (fun g o u wr => ∃ k : Nat, k ≤ n ∧ u = .int .i64 k ∧ g = .int .u64 (sumN f l k) ∧ o = .bool true ∧ Hid (sumN f l k ≤ 4611686018427387904) ∧ Hid (Below w.heap.size w wr)) (fun _ _ u _ => (n - intOf u).toNat)
  case atStart => exact ⟨0, Nat.zero_le _, rfl, rfl, rfl, by show (0 : Int) ≤ _; omega, Below.refl _ _⟩
  case round =>
    obtain ⟨k, hk, rfl, rfl, rfl, HS, HP⟩ := hrel
    by_cases hlt : k < n
    · obtain ⟨x, hx⟩ := nth_of HL.out hlt
      have hxm := List.mem_of_getElem? hx
      have hxo := HOK.out x hxm
      obtain ⟨g, o, rfl, ⟨c0, c1, c2⟩⟩ := (HV.out.below HP.out).at_ hx
      have hk1 : (k : Int) < (n : Int) := by omega
      have hk0 : (0 : Int) ≤ (k : Int) := by omega
      have hnn : ∀ y ∈ l, 0 ≤ y.c * f y := fun y hy => Int.mul_nonneg (HOK.out y hy).c0 (HE.out.low y hy).1
      have HN := Lib.hid (sum_next (f := f) hx)
      have hs0 : 0 ≤ sumN f l k := sum_mono hnn (Nat.zero_le k)
      have HTOP : Hid (sumN f l (k + 1) ≤ sumN f l l.length) := sum_mono hnn (by have := HL.out; omega)
      obtain ⟨hj0, hj1⟩ := HE.out.low x hxm
      have hcx0 := hxo.c0
      have hcx1 := hxo.c1
      have EC := Lib.hid (fun v (hb : Below w.heap.size w v) => HE.out.call x v hxm hb)
      have HST := Lib.hid (of_step hs0 HS.out hcx0 hj0)
      obtain ⟨j, hj⟩ : ∃ j, f x = j := ⟨_, rfl⟩
      rw [hj] at hj0 hj1 EC HST HN
      obtain ⟨sm, hsm⟩ : ∃ sm, sumN f l k = sm := ⟨_, rfl⟩
      rw [hsm] at hs0 HST HN HS
      rw [hsm]
      have hm64 : U64 (mulN x.c j) := mulN_u64 ⟨hcx0, by omega⟩ ⟨hj0, by omega⟩
      have AC := Lib.hid (fun v => add_any sm (mulN x.c j) ⟨hs0, by have := HS.out; omega⟩ hm64 v)
      have ha64 : U64 (addN sm (mulN x.c j)) := addN_u64 ⟨hs0, by have := HS.out; omega⟩ hm64
      obtain ⟨M, hM⟩ : ∃ M, mulN x.c j = M := ⟨_, rfl⟩
      obtain ⟨mb, hmb⟩ : ∃ mb, mulB x.c j = mb := ⟨_, rfl⟩
      rw [hM] at AC HST EC
      rw [hmb] at HST EC
      obtain ⟨A1, hA1⟩ : ∃ A1, addN sm M = A1 := ⟨_, rfl⟩
      obtain ⟨ab, hab⟩ : ∃ ab, addB sm M = ab := ⟨_, rfl⟩
      rw [hA1, hab] at AC HST
      clear hx hxm hxo hj hsm hcx0 hcx1 hj0 hj1 hs0 hm64 ha64 hM hmb hA1 hab HS hnn
      by_cases hok : mb = true ∧ ab = true ∧ A1 ≤ 4611686018427387904
      · obtain ⟨rfl, rfl, hA⟩ := hok
        have hst := HST.out.1 ⟨rfl, rfl, hA⟩
        have HNN : Hid (A1 = sumN f l (k + 1) ∧ A1 ≤ 4611686018427387904) := by
          refine ⟨by rw [HN.out]; exact hst.1, by rw [hst.1]; exact hst.2⟩
        have hA' : ¬ 4611686018427387904 < A1 := by omega
        clear hst HST HN HTOP hA
        go_wp2_with (first | (go_at_call 52; (with_reducible refine (AC.out _).mono ?_); rintro e w5 ⟨rfl, rfl⟩) | ((with_reducible refine (EC.out _ (below_up HP.out (by repeat (first | exact Below.refl _ _ | (with_reducible assumption) | refine bw_alloc ?_ _ | refine bw_drew ?_)))).mono ?_); rintro e w2 ⟨rfl, b2⟩; have HP2 := Lib.hid (below_up (below_up HP.out (by repeat (first | exact Below.refl _ _ | (with_reducible assumption) | refine bw_alloc ?_ _ | refine bw_drew ?_))) b2); clear b2))
        go_roundw
        case rel => exact ⟨k + 1, by omega, by go_num, by rw [HNN.out.1], rfl, Lib.hid (by rw [← HNN.out.1]; exact HNN.out.2), HP2⟩
        case measure => simp [intOf]; omega
      · have hst := HST.out.2 hok
        have HNO : Hid (res = none) := by rw [← HRES.out]; exact cap_not (by have := HTOP.out; rw [HN.out] at this; omega)
        have hcs : mb = false ∨ (mb = true ∧ ab = false) ∨ (mb = true ∧ ab = true ∧ 4611686018427387904 < A1) := by
          cases mb
          · exact .inl rfl
          · cases ab
            · exact .inr (.inl ⟨rfl, rfl⟩)
            · refine .inr (.inr ⟨rfl, rfl, ?_⟩)
              rcases Int.lt_or_le 4611686018427387904 A1 with z | z
              · exact z
              · exact absurd ⟨rfl, rfl, by omega⟩ hok
        clear hok hst HST HN HTOP
        rcases hcs with rfl | ⟨rfl, rfl⟩ | ⟨rfl, rfl, hA⟩
        all_goals
          go_wp2_with (first | (go_at_call 52; (with_reducible refine (AC.out _).mono ?_); rintro e w5 ⟨rfl, rfl⟩) | ((with_reducible refine (EC.out _ (below_up HP.out (by repeat (first | exact Below.refl _ _ | (with_reducible assumption) | refine bw_alloc ?_ _ | refine bw_drew ?_)))).mono ?_); rintro e w2 ⟨rfl, b2⟩; have HP2 := Lib.hid (below_up (below_up HP.out (by repeat (first | exact Below.refl _ _ | (with_reducible assumption) | refine bw_alloc ?_ _ | refine bw_drew ?_))) b2); clear b2))
          rw [Exit.noGoto_ret]
          go_ret2
          exact ⟨by rw [HNO.out]; rfl, HP2.out⟩
    · obtain rfl : k = n := by omega
      have HEE : Hid (res = some (sumN f l k)) := by rw [← HRES.out, HL.out]; exact cap_is HS.out
      have hs1 := HS.out
      have hs0 : 0 ≤ sumN f l k := sum_mono (fun y hy => Int.mul_nonneg (HOK.out y hy).c0 (HE.out.low y hy).1) (Nat.zero_le k)
      generalize sumN f l k = s at *
      have e1 : IntKind.i64.wrap s = s := IntWalk.i64_in _ (by omega)
      clear HS hs1 hs0
      go_wp2_with fail
      rw [Exit.noGoto_ret]
      go_ret2
      exact ⟨by rw [HEE.out]; rfl, HP.out⟩

set_option maxRecDepth 100000 in
set_option maxHeartbeats 4000000 in
/-- The work of one that is due by a time that lies in a box. -/
theorem pdue1_any (x : Dm) (hx : x.ok) (t : Int) (h0 : -1 ≤ t) (ht : t ≤ 2199023255552) (b : Nat) (w : World) (hb : w.heap[b]? = some (.cells #[.int .i64 t] 2 (0, 0))) :
    Calls Try.prog 57 #[.agg #[.int .i64 x.c, .int .i64 x.d, .int .i64 x.t], .pointer (some ⟨b, 0, none⟩)] w fun e w' => e = .returned (.tuple #[.int .u64 (mulN x.c (jobsD x t)), .bool (mulB x.c (jobsD x t))]) ∧ Below w.heap.size w w' := by
  have JC := Lib.hid (fun v => pjobs_any x hx t h0 ht v)
  have hj0 := jobs_nonneg hx t
  have hj1 := jobs_top hx ht
  have hc0 := hx.c0; have hc1 := hx.c1
  obtain ⟨j, hj⟩ : ∃ j, jobsD x t = j := ⟨_, rfl⟩
  rw [hj] at JC hj0 hj1 ⊢
  have e1 : IntKind.u64.wrap x.c = x.c := IntWalk.u64_in _ (by omega)
  have e2 : IntKind.u64.wrap j = j := IntWalk.u64_in _ (by omega)
  have MC := Lib.hid (fun v => mul_any x.c j ⟨hc0, by omega⟩ ⟨hj0, by omega⟩ v)
  obtain ⟨M, hM⟩ : ∃ M, mulN x.c j = M := ⟨_, rfl⟩
  obtain ⟨mb, hmb⟩ : ∃ mb, mulB x.c j = mb := ⟨_, rfl⟩
  rw [hM, hmb] at MC ⊢
  clear hj hj0 hj1 hc0 hc1 hx hM hmb
  go_enter Try.func57, Try.ntmps57
  go_upto_region 1 with fail
  refine gen_world (fun v => Below w.heap.size w v ∧ v.cell? ⟨w.heap.size, 0, none⟩ = some (.int .i64 x.c) ∧ v.cell? ⟨w.heap.size, 1, none⟩ = some (.int .i64 x.d) ∧ v.cell? ⟨w.heap.size, 2, none⟩ = some (.int .i64 x.t) ∧ v.cell? ⟨b, 0, none⟩ = some (.int .i64 t)) ⟨(by repeat (first | exact Below.refl _ _ | (with_reducible assumption) | refine bw_alloc ?_ _ | refine bw_drew ?_)), by rw [World.cell?_alloc_new]; rfl, by rw [World.cell?_alloc_new]; rfl, by rw [World.cell?_alloc_new]; rfl, kept_cell (show Below w.heap.size w _ from (by repeat (first | exact Below.refl _ _ | (with_reducible assumption) | refine bw_alloc ?_ _ | refine bw_drew ?_))) (by rw [blk_cell hb]; rfl)⟩ ?_
  clear hb
  intro V ⟨hb, c0, c1, c2, c3⟩
  have HB := Lib.hid hb
  have HC := Lib.hid (fun w' (hb : Below V.heap.size V w') => And.intro (kept_cell hb c0) (And.intro (kept_cell hb c1) (And.intro (kept_cell hb c2) (kept_cell hb c3))))
  clear hb
  go_region_held3 (fun w' => w'.cell? ⟨w.heap.size, 0, none⟩ = some (.int .i64 x.c) ∧ w'.cell? ⟨w.heap.size, 1, none⟩ = some (.int .i64 x.d) ∧ w'.cell? ⟨w.heap.size, 2, none⟩ = some (.int .i64 x.t) ∧ w'.cell? ⟨b, 0, none⟩ = some (.int .i64 t)) (exact HC.out _ (by repeat (first | exact Below.refl _ _ | (with_reducible assumption) | refine bw_drew ?_ | refine bw_alloc ?_ _))) (first | (go_at_call 58; (with_reducible refine (Calls.upV (V := V) (by repeat (first | exact Below.refl _ _ | (with_reducible assumption) | refine bw_alloc ?_ _ | refine bw_drew ?_)) (JC.out _)).mono ?_); rintro e wj ⟨rfl, bzj, bx1⟩; clear bzj) | (go_at_call 39; (with_reducible refine (MC.out _).mono ?_); rintro e wm ⟨rfl, rfl⟩))
  all_goals
    go_wp2_with fail
    go_ret2
    exact ⟨rfl, below_up HB.out (by repeat (first | exact Below.refl _ _ | (with_reducible assumption) | refine bw_drew ?_ | refine bw_alloc ?_ _))⟩

set_option maxRecDepth 100000 in
set_option maxHeartbeats 4000000 in
/-- The work of one in a period that lies in a box. -/
theorem pload1_any (x : Dm) (hx : x.ok) (p : Int) (h0 : 0 ≤ p) (h1 : p ≤ 1048576) (b : Nat) (w : World) (hb : w.heap[b]? = some (.cells #[.int .i64 p] 2 (0, 0))) :
    Calls Try.prog 38 #[.agg #[.int .i64 x.c, .int .i64 x.d, .int .i64 x.t], .pointer (some ⟨b, 0, none⟩)] w fun e w' => e = .returned (.tuple #[.int .u64 (mulN x.c (p / x.t)), .bool (mulB x.c (p / x.t))]) ∧ Below w.heap.size w w' := by
  obtain ⟨hj0, hj1, _, _⟩ := load_part hx h0 h1
  have hc0 := hx.c0; have hc1 := hx.c1; have hd1 := hx.d1; have hd2 := hx.d2
  have z0 : p.tdiv x.t = p / x.t := Int.tdiv_eq_ediv_of_nonneg h0
  have e3 : IntKind.i64.wrap (p.tdiv x.t) = p / x.t := by rw [z0]; exact IntWalk.i64_in _ (by omega)
  have e4 : IntKind.i64.wrap (p / x.t) = p / x.t := IntWalk.i64_in _ (by omega)
  have z1 : (x.t == 0) = false := by rw [beq_eq_false_iff_ne]; omega
  have z2 : ¬ x.t = 0 := by omega
  obtain ⟨j, hj⟩ : ∃ j, p / x.t = j := ⟨_, rfl⟩
  rw [hj] at hj0 hj1 e3 e4 ⊢
  have e1 : IntKind.u64.wrap x.c = x.c := IntWalk.u64_in _ (by omega)
  have e2 : IntKind.u64.wrap j = j := IntWalk.u64_in _ (by omega)
  have MC := Lib.hid (fun v => mul_any x.c j ⟨hc0, by omega⟩ ⟨hj0, by omega⟩ v)
  obtain ⟨M, hM⟩ : ∃ M, mulN x.c j = M := ⟨_, rfl⟩
  obtain ⟨mb, hmb⟩ : ∃ mb, mulB x.c j = mb := ⟨_, rfl⟩
  rw [hM, hmb] at MC ⊢
  clear hj0 hj1 hc0 hc1 hx hM hmb hd1 hd2 z0
  go_enter Try.func38, Try.ntmps38
  go_upto_region 1 with fail
  refine gen_world (fun v => Below w.heap.size w v ∧ v.cell? ⟨w.heap.size, 0, none⟩ = some (.int .i64 x.c) ∧ v.cell? ⟨w.heap.size, 1, none⟩ = some (.int .i64 x.d) ∧ v.cell? ⟨w.heap.size, 2, none⟩ = some (.int .i64 x.t) ∧ v.cell? ⟨b, 0, none⟩ = some (.int .i64 p)) ⟨(by repeat (first | exact Below.refl _ _ | (with_reducible assumption) | refine bw_alloc ?_ _ | refine bw_drew ?_)), by rw [World.cell?_alloc_new]; rfl, by rw [World.cell?_alloc_new]; rfl, by rw [World.cell?_alloc_new]; rfl, kept_cell (show Below w.heap.size w _ from (by repeat (first | exact Below.refl _ _ | (with_reducible assumption) | refine bw_alloc ?_ _ | refine bw_drew ?_))) (by rw [blk_cell hb]; rfl)⟩ ?_
  clear hb
  intro V ⟨hb, c0, c1, c2, c3⟩
  have HB := Lib.hid hb
  have HC := Lib.hid (fun w' (hb : Below V.heap.size V w') => And.intro (kept_cell hb c0) (And.intro (kept_cell hb c1) (And.intro (kept_cell hb c2) (kept_cell hb c3))))
  clear hb
  go_region_held3 (fun w' => w'.cell? ⟨w.heap.size, 0, none⟩ = some (.int .i64 x.c) ∧ w'.cell? ⟨w.heap.size, 1, none⟩ = some (.int .i64 x.d) ∧ w'.cell? ⟨w.heap.size, 2, none⟩ = some (.int .i64 x.t) ∧ w'.cell? ⟨b, 0, none⟩ = some (.int .i64 p)) (exact HC.out _ (by repeat (first | exact Below.refl _ _ | (with_reducible assumption) | refine bw_drew ?_ | refine bw_alloc ?_ _))) ((go_at_call 39; (with_reducible refine (MC.out _).mono ?_); rintro e wm ⟨rfl, rfl⟩))
  all_goals
    go_wp2_with fail
    go_ret2
    exact ⟨rfl, below_up HB.out (by repeat (first | exact Below.refl _ _ | (with_reducible assumption) | refine bw_drew ?_ | refine bw_alloc ?_ _))⟩
end Go.Proofs.Ytljigfedmjlfgaa

/-
  The walks over the program's work due, next deadline, last deadline.
-/
namespace Go.Proofs.Ytljigfedmjlfgaa
open Go.RowKit Go.Maps
attribute [-go_sem] run_min_int2 run_max_int2

theorem each_due {l : List Dm} (hok : ∀ x ∈ l, x.ok) {t : Int} (h0 : -1 ≤ t) (ht : t ≤ 2199023255552) {b : Nat} {V : World} (hb : V.heap[b]? = some (.cells #[.int .i64 t] 2 (0, 0))) : Each l 57 (.pointer (some ⟨b, 0, none⟩)) (fun x => jobsD x t) V where
  enter := fun _ _ => MuLone.run_callFunc_enter Try.func57 (by kernel_rfl) rfl _ _
  call := fun x w hx hw => pdue1_any x (hok x hx) t h0 ht b w (kept_obj hw hb)
  low := fun x hx => ⟨jobs_nonneg (hok x hx) t, jobs_top (hok x hx) ht⟩
theorem each_load {l : List Dm} (hok : ∀ x ∈ l, x.ok) {p : Int} (h0 : 0 ≤ p) (h1 : p ≤ 1048576) {b : Nat} {V : World} (hb : V.heap[b]? = some (.cells #[.int .i64 p] 2 (0, 0))) : Each l 38 (.pointer (some ⟨b, 0, none⟩)) (fun x => p / x.t) V where
  enter := fun _ _ => MuLone.run_callFunc_enter Try.func38 (by kernel_rfl) rfl _ _
  call := fun x w hx hw => pload1_any x (hok x hx) p h0 h1 b w (kept_obj hw hb)
  low := fun x hx => by have := load_part (hok x hx) h0 h1; exact ⟨this.1, by omega⟩

set_option maxRecDepth 100000 in
set_option maxHeartbeats 4000000 in
theorem pdue_any (l : List Dm) (n c : Nat) (hl : l.length = n) (hn : (n : Int) ≤ 9223372036854775807) (hok : ∀ x ∈ l, x.ok) (a : Option Addr) (t : Int) (h0 : -1 ≤ t) (ht : t ≤ 2199023255552) (w : World) (hv : GView w a l) :
    Calls Try.prog 45 #[.slice a n c, .int .i64 t] w fun e w' => e = .returned (.tuple #[.int .i64 ((capA (dueA l t)).getD 0), .bool (capA (dueA l t)).isSome]) ∧ Below w.heap.size w w' := by
  have hb1 : Below w.heap.size w (w.alloc (.cells #[.int .i64 t] 2)) := (by repeat (first | exact Below.refl _ _ | (with_reducible assumption) | refine bw_alloc ?_ _ | refine bw_drew ?_))
  have TC := Lib.hid (together_any l n c hl hn hok a _ (hv.below hb1) _ _ _ (each_due hok h0 ht (heap_alloc_new w (.cells #[.int .i64 t] 2))))
  have hmf : ∀ (fn : Fn) (first cap : Array Value) (w : World), (Instr.makeFunc fn first cap).run Try.prog w = .ok (.func fn first cap) w := fun _ _ _ _ => rfl
  have HB1 := Lib.hid hb1
  rw [sum_due l t l.length, show dueN l t l.length = dueA l t from rfl] at TC
  generalize capA (dueA l t) = res at *
  clear hv hok hb1 hl
  go_enter Try.func45, Try.ntmps45
  go_wp2_with (go_at_call 37; (with_reducible refine TC.out.mono ?_); rintro e w1 ⟨rfl, bx1⟩)
  go_ret2
  exact ⟨rfl, below_up HB1.out bx1⟩

/-- The least deadline above a time, if there are demands that may be. -/
theorem ofA_cap {l : List Dm} {t : Int} (h1 : okL l = true) (h2 : timeB t = true) : ofA l t = capA (dueA l t) := by
  unfold ofA capA
  by_cases q : dueA l t ≤ 4611686018427387904
  · rw [if_pos q, if_pos ⟨h1, h2, q⟩]
  · rw [if_neg q, if_neg fun h => q h.2.2]

set_option maxRecDepth 100000 in
set_option maxHeartbeats 4000000 in
theorem pof_any {w : World} {a : Option Addr} {n c : Nat} {l : List Dm} (h : Dems w a n c l) (t : Int) (ht : I64 t) : Calls Try.prog 27 #[.slice a n c, .int .i64 t] w fun e w' => e = .returned (.tuple #[.int .i64 ((ofA l t).getD 0), .bool (ofA l t).isSome]) ∧ Below w.heap.size w w' := by
  have HV := Lib.hid h.view
  have RC := Lib.hid (fun v (hb : Below w.heap.size w v) => pchk_any l n c h.len h.n9 a v (h.view.below hb))
  have TC := Lib.hid (fun v => ptime_any t v)
  obtain ⟨b1, hb1⟩ : ∃ b1, okL l = b1 := ⟨_, rfl⟩
  obtain ⟨b2, hb2⟩ : ∃ b2, timeB t = b2 := ⟨_, rfl⟩
  by_cases hbad : b1 = false ∨ b2 = false
  · have HN : Hid (ofA l t = none) := ofA_bad (by rcases hbad with h | h <;> simp_all)
    rw [hb1] at RC
    rw [hb2] at TC
    have hcs : b1 = false ∨ (b1 = true ∧ b2 = false) := by
      rcases hbad with h | h
      · exact .inl h
      · cases b1
        · exact .inl rfl
        · exact .inr ⟨rfl, h⟩
    clear hbad hb1 hb2 h ht
    rcases hcs with rfl | ⟨rfl, rfl⟩
    all_goals
      go_enter Try.func27, Try.ntmps27
      go_wp2_with (first
        | (go_at_call 43; (with_reducible refine (RC.out _ (by repeat (first | exact Below.refl _ _ | (with_reducible assumption) | refine bw_alloc ?_ _ | refine bw_drew ?_))).mono ?_); rintro e w1 ⟨rfl, bx1⟩)
        | (go_at_call 44; (with_reducible refine (TC.out _).mono ?_); rintro e w2 ⟨rfl, rfl⟩))
      go_ret2
      exact ⟨by rw [HN.out]; rfl, bx1⟩
  obtain rfl : b1 = true := by cases b1 with | true => rfl | false => exact absurd (.inl rfl) hbad
  obtain rfl : b2 = true := by cases b2 with | true => rfl | false => exact absurd (.inr rfl) hbad
  have ht2 := timeB_iff.1 hb2
  have DC := Lib.hid (fun v (hb : Below w.heap.size w v) => pdue_any l n c h.len h.n9 (okL_iff.1 hb1).1 a t (by have := ht2.1; omega) ht2.2 v (h.view.below hb))
  rw [← ofA_cap hb1 hb2] at DC
  rw [hb1] at RC
  rw [hb2] at TC
  generalize ofA l t = res at *
  clear hbad hb1 hb2 h ht ht2
  go_enter Try.func27, Try.ntmps27
  go_wp2_with (first
    | (go_at_call 43; (with_reducible refine (RC.out _ (by repeat (first | exact Below.refl _ _ | (with_reducible assumption) | refine bw_alloc ?_ _ | refine bw_drew ?_))).mono ?_); rintro e w1 ⟨rfl, bx1⟩)
    | (go_at_call 44; (with_reducible refine (TC.out _).mono ?_); rintro e w2 ⟨rfl, rfl⟩)
    | (go_at_call 45; (with_reducible refine (DC.out _ bx1).mono ?_); rintro e w3 ⟨rfl, bx3⟩))
  go_ret2
  exact ⟨rfl, below_up bx1 bx3⟩

end Go.Proofs.Ytljigfedmjlfgaa

/-
  The walk over the program's next deadline.
-/
namespace Go.Proofs.Ytljigfedmjlfgaa
open Go.RowKit Go.Maps
attribute [-go_sem] run_min_int2 run_max_int2

theorem nextN_least {l : List Dm} {t : Int} {k : Nat} {x : Dm} {b : Int} (hx : l[k]? = some x) (h : nextN l t k = some b) : nextN l t (k + 1) = some (if nxtD x t < b then nxtD x t else b) := by
  rw [next_old hx h]; split <;> rfl

set_option maxRecDepth 100000 in
set_option maxHeartbeats 8000000 in
theorem pnext_any {w : World} {a : Option Addr} {n c : Nat} {l : List Dm} (h : Dems w a n c l) (t : Int) (ht : I64 t) : Calls Try.prog 48 #[.slice a n c, .int .i64 t] w fun e w' => e = .returned (.tuple #[.int .i64 ((nextS l t).getD 0), .bool (nextS l t).isSome]) ∧ Below w.heap.size w w' := by
  have HV := Lib.hid h.view
  have HL := Lib.hid h.len
  have hn9 := h.n9
  have hnc := h.le
  have hc9 := h.small
  have RC := Lib.hid (fun v (hb : Below w.heap.size w v) => pchk_any l n c h.len h.n9 a v (h.view.below hb))
  have TC := Lib.hid (fun v => ptime_any t v)
  obtain ⟨b1, hb1⟩ : ∃ b1, okL l = b1 := ⟨_, rfl⟩
  obtain ⟨b2, hb2⟩ : ∃ b2, timeB t = b2 := ⟨_, rfl⟩
  by_cases hbad : b1 = false ∨ (b1 = true ∧ b2 = false) ∨ (b1 = true ∧ b2 = true ∧ n = 0)
  · have HN : Hid (nextS l t = none) := by
      rcases hbad with rfl | ⟨rfl, rfl⟩ | ⟨rfl, rfl, rfl⟩
      · exact nextS_bad (.inl hb1)
      · exact nextS_bad (.inr hb2)
      · have e := HL.out
        have e2 : l = [] := List.length_eq_zero_iff.1 e
        show _ = _
        rw [nextS_is hb1 hb2, e2]; rfl
    rw [hb1] at RC
    rw [hb2] at TC
    clear hb1 hb2 h ht
    rcases hbad with rfl | ⟨rfl, rfl⟩ | ⟨rfl, rfl, rfl⟩
    all_goals
      go_enter Try.func48, Try.ntmps48
      go_wp2_with (first
        | (go_at_call 43; (with_reducible refine (RC.out _ (by repeat (first | exact Below.refl _ _ | (with_reducible assumption) | refine bw_alloc ?_ _ | refine bw_drew ?_))).mono ?_); rintro e w1 ⟨rfl, bx1⟩)
        | (go_at_call 44; (with_reducible refine (TC.out _).mono ?_); rintro e w2 ⟨rfl, rfl⟩))
      go_ret2
      exact ⟨by rw [HN.out]; rfl, bx1⟩
  obtain rfl : b1 = true := by cases b1 with | true => rfl | false => exact absurd (.inl rfl) hbad
  obtain rfl : b2 = true := by cases b2 with | true => rfl | false => exact absurd (.inr (.inl ⟨rfl, rfl⟩)) hbad
  have hn1 : 1 ≤ n := by
    cases n with
    | zero => exact absurd (.inr (.inr ⟨rfl, rfl, rfl⟩)) hbad
    | succ m => omega
  have HT := Lib.hid (timeB_iff.1 hb2)
  have HOK := Lib.hid (okL_iff.1 hb1).1
  have HRES := Lib.hid (nextS_is hb1 hb2)
  rw [hb1] at RC
  rw [hb2] at TC
  obtain ⟨res, hres⟩ : ∃ res, nextS l t = res := ⟨_, rfl⟩
  rw [hres] at HRES ⊢
  obtain ⟨x0, hx0⟩ := nth_of HL.out (show 0 < n by omega)
  have hxo := HOK.out x0 (List.mem_of_getElem? hx0)
  have J0 := Lib.hid (fun v => pafter_any x0 hxo t (by have := HT.out.1; omega) HT.out.2 v)
  have HN0 : Hid (nextN l t 1 = some (nxtD x0 t)) := next_new hx0 rfl
  obtain ⟨g, o, rfl, _⟩ := HV.out.at_ hx0
  have HC0 := Lib.hid (fun v (hb : Below w.heap.size w v) => (by obtain ⟨g', o', e', h'⟩ := (HV.out.below hb).at_ hx0; cases e'; rw [Nat.zero_mul, Nat.add_zero] at h'; exact h' : GAt v g o x0))
  have z1 : ((n : Int) == 0) = false := by rw [beq_eq_false_iff_ne]; omega
  have z2 : (0 : Int) < (n : Int) := by omega
  have HNC := Lib.hid hnc
  have HC9 := Lib.hid hc9
  have HN9 := Lib.hid hn9
  clear hbad hb1 hb2 h ht hres hx0 hxo hnc hc9 hn9 hn1
  go_enter Try.func48, Try.ntmps48
  go_upto_region 3 with (first
    | (go_at_call 43; (with_reducible refine (RC.out _ (by repeat (first | exact Below.refl _ _ | (with_reducible assumption) | refine bw_alloc ?_ _ | refine bw_drew ?_))).mono ?_); rintro e w1 ⟨rfl, bx1⟩; have HB1 := Lib.hid bx1; obtain ⟨c0, c1, c2⟩ := HC0.out _ bx1; clear bx1)
    | (go_at_call 44; (with_reducible refine (TC.out _).mono ?_); rintro e w2 ⟨rfl, rfl⟩))
  clear RC TC HC0
  obtain ⟨m, hm⟩ : ∃ m, n - 1 = m := ⟨_, rfl⟩
  have HM : Hid (n = m + 1) := by have := HNC.out; show n = m + 1; omega
  go_upto_region 4 with (go_at_call 60; (with_reducible refine (J0.out _).mono ?_); rintro e wj ⟨rfl, bxj⟩; have HB2 := Lib.hid (below_up HB1.out bxj); clear bxj)
  clear J0 c0 c1 c2
  obtain ⟨b0, hb0⟩ : ∃ b0, nxtD x0 t = b0 := ⟨_, rfl⟩
  rw [hb0] at HN0 ⊢
  clear hb0
  rcases (show c = 1 ∨ ¬ c = 1 by omega) with rfl | hc1
  all_goals
    go_cut [28, 29, 30] (fun s u k wx => ∃ (a2 : Option Addr) (d : Nat), s = .slice a2 m d ∧ u = .int .i64 (m : Int) ∧ k = .int .i64 0 ∧ Hid (GView wx a2 (l.drop 1)) ∧ Hid (Below w.heap.size w wx))
    case first =>
      have HG := Lib.hid (HV.out.below HB2.out)
      go_wp2_with fail
      go_meet
      first
        | exact ⟨_, _, rfl, rfl, rfl, Lib.hid (HG.out.drop 1), HB2⟩
        | (refine ⟨_, _, rfl, rfl, rfl, Lib.hid ?_, HB2⟩
           left
           have h1 := HL.out; have h2 := HNC.out
           rw [List.drop_eq_nil_iff]; omega)
    case rest =>
      obtain ⟨a2, d, rfl, rfl, rfl, HG, HP⟩ := hcut
      clear z1 z2 hm HB1 HB2
      have hm9 : (m : Int) < 9223372036854775807 := by have h1 := HN9.out; have h2 := HM.out; rw [h2] at h1; omega
      have HL2 : Hid ((l.drop 1).length = m) := by show _ = m; rw [List.length_drop, HL.out, HM.out]; omega
      go_upto_block 0 with fail
      go_cut [6] (fun u wx => ∃ b : Int, u = .int .i64 b ∧ Hid (res = some b) ∧ Hid (Below w.heap.size w wx))
      case first =>
        go_wp2
        go_loopw [6, 30] (fun g u wr => ∃ (k : Nat) (b : Int), k ≤ m ∧ u = .int .i64 k ∧ g = .int .i64 b ∧ Hid (nextN l t (k + 1) = some b) ∧ Hid (GView wr a2 (l.drop 1)) ∧ Hid (Below w.heap.size w wr)) (fun _ u _ => (m - intOf u).toNat)
        case atStart => exact ⟨0, b0, Nat.zero_le _, rfl, rfl, HN0, HG, HP⟩
        case round =>
          obtain ⟨k, b, hk, rfl, rfl, HN, HGr, HPr⟩ := hrel
          clear HG HP HN0
          by_cases hlt : k < m
          · obtain ⟨x, hx⟩ := nth_of HL2.out hlt
            obtain ⟨g, o, rfl, ⟨c0, c1, c2⟩⟩ := HGr.out.at_ hx
            have hx1 : l[k + 1]? = some x := by rw [List.getElem?_drop, Nat.add_comm] at hx; exact hx
            have hxo := HOK.out x (List.mem_of_getElem? hx1)
            have hk1 : (k : Int) < (m : Int) := by omega
            have hk0 : (0 : Int) ≤ (k : Int) := by omega
            have JC := Lib.hid (fun v => pafter_any x hxo t (by have := HT.out.1; omega) HT.out.2 v)
            have HN2 := Lib.hid (nextN_least hx1 HN.out)
            obtain ⟨q, hq⟩ : ∃ q, nxtD x t = q := ⟨_, rfl⟩
            rw [hq] at JC HN2
            clear hx hx1 hxo hq HN
            by_cases hqb : q < b
            · have mn : ∀ (ts : Array TypeId) (t : TypeId) (w : World), (Builtin.min_ ts t #[.int .i64 b, .int .i64 q]).run Try.prog w = .ok (.int .i64 q) w := fun ts t w => by rw [run_min_int2, if_pos hqb]
              rw [if_pos hqb] at HN2
              clear hqb
              go_wp2_with (go_at_call 60; (with_reducible refine (JC.out _).mono ?_); rintro e wj ⟨rfl, bxj⟩; have HPJ : Hid (Below wr.heap.size wr wj) := below_up (by repeat (first | exact Below.refl _ _ | (with_reducible assumption) | refine bw_alloc ?_ _ | refine bw_drew ?_)) bxj; clear bxj)
              go_roundw
              case rel => exact ⟨k + 1, q, by omega, by go_num, rfl, HN2, HGr.out.below HPJ.out, below_up HPr.out HPJ.out⟩
              case measure => simp [intOf]; omega
            · have mn : ∀ (ts : Array TypeId) (t : TypeId) (w : World), (Builtin.min_ ts t #[.int .i64 b, .int .i64 q]).run Try.prog w = .ok (.int .i64 b) w := fun ts t w => by rw [run_min_int2, if_neg hqb]
              rw [if_neg hqb] at HN2
              clear hqb
              go_wp2_with (go_at_call 60; (with_reducible refine (JC.out _).mono ?_); rintro e wj ⟨rfl, bxj⟩; have HPJ : Hid (Below wr.heap.size wr wj) := below_up (by repeat (first | exact Below.refl _ _ | (with_reducible assumption) | refine bw_alloc ?_ _ | refine bw_drew ?_)) bxj; clear bxj)
              go_roundw
              case rel => exact ⟨k + 1, b, by omega, by go_num, rfl, HN2, HGr.out.below HPJ.out, below_up HPr.out HPJ.out⟩
              case measure => simp [intOf]; omega
          · obtain rfl : k = m := by omega
            have HE : Hid (res = some b) := by rw [HRES.out]; show nextN l t l.length = _; rw [HL.out, HM.out]; exact HN.out
            go_wp2_with fail
            go_meet
            exact ⟨b, rfl, HE, HPr⟩
      case rest =>
        obtain ⟨b, rfl, HE, HPr⟩ := hcut
        clear HRES
        go_wp2_with fail
        go_ret2
        exact ⟨by rw [HE.out]; rfl, HPr.out⟩
end Go.Proofs.Ytljigfedmjlfgaa

/-
  The walks over the program's period, and over a period's work.
-/
namespace Go.Proofs.Ytljigfedmjlfgaa
open Go.RowKit Go.Maps

theorem infoU : (Try.prog.info? 72).map (fun i => (i.zero, i.size, i.bytes)) = some (some (.int .u64 0), 1, 8) := by kernel_rfl
theorem uparts {P : Program} {e : TypeId} {z : Value} {s b : Nat} (h : (P.info? e).map (fun i => (i.zero, i.size, i.bytes)) = some (some z, s, b)) : ∃ i, P.info? e = some i ∧ i.zero = some z ∧ i.size = s ∧ i.bytes = b := by
  obtain ⟨i, h1, h2⟩ := Option.map_eq_some_iff.1 h
  simp only [Prod.mk.injEq] at h2
  exact ⟨i, h1, h2.1, h2.2.1, h2.2.2⟩
theorem make_u (c : Nat) (hc : c ≤ 2000000000) (w : World) : (Instr.makeSlice 86 (.int .i64 0) (.int .i64 (c : Int))).run Try.prog w = .ok (.slice (some ⟨w.heap.size, 0, none⟩) 0 c) (w.alloc (.cells (madeCells #[.int .u64 0] c) 72)) := by
  obtain ⟨i0, hi, hz0, hz1, hz2⟩ := uparts infoU
  have h := run_make w 86 72 i0 (.int .u64 0) Try.underlying86 hi hz0 .i64 .i64 0 c (by omega) (by omega) (by rw [hz2]; omega) (by omega)
  rw [hz1] at h
  simpa [Value.cells] using h
theorem ownU_made (w : World) (cap : Nat) (hc : cap ≤ 2000000000) (T : TypeId) : OwnU (w.alloc (.cells (madeCells #[.int .u64 0] cap) T)) T w.heap.size (.slice (some ⟨w.heap.size, 0, none⟩) 0 cap) [] :=
  World.ownsRow_made (e := T) (size := 1) (base := w.heap.size) (w := w) (madeCells #[.int .u64 0] cap) cap (by simp) (by unfold maxLen; omega) (by rw [size_madeCells]; omega)

set_option maxRecDepth 100000 in
set_option maxHeartbeats 8000000 in
theorem pperiod_any {w : World} {a : Option Addr} {n c : Nat} {l : List Dm} (h : Dems w a n c l) : Calls Try.prog 34 #[.slice a n c] w fun e w' => e = .returned (.tuple #[.int .i64 (perS l).1, .int .i64 (perS l).2]) ∧ Below w.heap.size w w' := by
  have HV := Lib.hid h.view
  have HL := Lib.hid h.len
  have hn9 := h.n9
  have RC := Lib.hid (fun v (hb : Below w.heap.size w v) => pchk_any l n c h.len h.n9 a v (h.view.below hb))
  clear h
  by_cases hok : okL l = true
  rotate_left
  · have hok' : okL l = false := by cases e : okL l with | true => exact absurd e hok | false => rfl
    have HP := Lib.hid (perS_bad hok')
    rw [hok'] at RC
    clear hok hok'
    go_enter Try.func34, Try.ntmps34
    go_wp2_with (go_at_call 43; (with_reducible refine (RC.out _ (by repeat (first | exact Below.refl _ _ | (with_reducible assumption) | refine bw_alloc ?_ _ | refine bw_drew ?_))).mono ?_); rintro e w1 ⟨rfl, bx1⟩)
    go_ret2
    exact ⟨by rw [HP.out]; rfl, bx1⟩
  have HOK := Lib.hid hok
  rw [hok] at RC
  have HR := Lib.hid (per_row hok)
  have hn64 : n ≤ 64 := by have := (okL_iff.1 hok).2; have := HL.out; omega
  have MK := make_u n (by omega)
  have hOM : Hid (∀ (w : World) (T : TypeId), OwnU (w.alloc (.cells (madeCells #[.int .u64 0] n) T)) T w.heap.size (.slice (some ⟨w.heap.size, 0, none⟩) 0 n) []) := fun w T => ownU_made w n (by omega) T
  clear hok
  go_enter Try.func34, Try.ntmps34
  go_upto_region 4 with (go_at_call 43; (with_reducible refine (RC.out _ (by repeat (first | exact Below.refl _ _ | (with_reducible assumption) | refine bw_alloc ?_ _ | refine bw_drew ?_))).mono ?_); rintro e w1 ⟨rfl, bx1⟩; have HB1 := Lib.hid bx1; clear bx1)
  have HO1 := Lib.hid (hOM.out w1 72)
  go_upto_block 0 with fail
  go_cut [4] (fun u wx => ∃ (a' : Option Addr) (c' : Nat), u = .slice a' n c' ∧ Hid (UInts wx a' (l.map Dm.t)) ∧ Hid (Below w.heap.size w wx))
  case first =>
    go_wp2
    go_loopw [4, 17] (fun g u wr => ∃ (k : Nat) (a' : Option Addr) (c' : Nat), k ≤ n ∧ u = .int .i64 k ∧ g = .slice a' k c' ∧ Hid (OwnU wr 72 w1.heap.size (.slice a' k c') ((l.take k).map Dm.t)) ∧ Hid (Below w1.heap.size w1 wr)) (fun _ u _ => (n - intOf u).toNat)
    case atStart => exact ⟨0, _, _, Nat.zero_le _, rfl, rfl, HO1, Lib.hid (by repeat (first | exact Below.refl _ _ | (with_reducible assumption) | refine bw_alloc ?_ _ | refine bw_drew ?_))⟩
    case round =>
      obtain ⟨k, a', c', hk, rfl, rfl, HO, HB⟩ := hrel
      clear HO1 MK hOM
      by_cases hlt : k < n
      · obtain ⟨x, hx⟩ := nth_of HL.out hlt
        obtain ⟨g, o, rfl, ⟨c0, c1, c2⟩⟩ := (HV.out.below (below_up HB1.out HB.out)).at_ hx
        have hk1 : (k : Int) < (n : Int) := by omega
        have hk0 : (0 : Int) ≤ (k : Int) := by omega
        have hxt := HR.out x.t (List.mem_map.2 ⟨x, List.mem_of_getElem? hx, rfl⟩)
        have e1 : IntKind.u64.wrap x.t = x.t := IntWalk.u64_in _ (by omega)
        have HX : Hid ((l.take (k + 1)).map Dm.t = (l.take k).map Dm.t ++ [x.t]) := by show _ = _; rw [List.take_add_one, hx, List.map_append]; rfl
        have HLN : Hid (((l.take k).map Dm.t).length = k) := by show _ = _; rw [List.length_map, List.length_take]; have := HL.out; omega
        have HSM : Hid (((((l.take k).map Dm.t).length + 1 : Nat) : Int) ≤ 17592186044416) := by show _ ≤ _; rw [HLN.out]; omega
        have HNN : Hid (((l.take k).map Dm.t).length + 1 = k + 1) := by show _ = _; rw [HLN.out]
        have HSZ : Hid (w1.heap.size ≤ wr.heap.size) := HB.out.size
        generalize (l.take k).map Dm.t = Q at *
        clear hx hxt
        go_upto_region 7 with fail
        obtain ⟨v7, hv7⟩ : ∃ v7, wr.alloc (.cells #[.int .i64 x.c, .int .i64 x.d, .int .i64 x.t] 32) = v7 := ⟨_, rfl⟩
        have hbx : v7.cell? ⟨wr.heap.size, 2, none⟩ = some (.int .i64 x.t) := by rw [← hv7, World.cell?_alloc_new]; rfl
        have HB7 : Hid (Below wr.heap.size wr v7) := by rw [← hv7]; exact bw_alloc (Below.refl _ _) _
        rw [hv7]
        clear hv7 c0 c1 c2
        generalize wr.heap.size = gx at hbx ⊢
        go_wp2_with (at_builtin; refine wp_uints numU (m := 1) (l := [x.t]) rfl _ _ rfl rfl rfl ((HO.out.below HB7.out).below (by repeat (first | exact Below.refl _ _ | (with_reducible assumption) | refine bw_alloc ?_ _ | refine bw_drew ?_))) (Nat.le_trans (Nat.le_trans HSZ.out HB7.out.size) ((by repeat (first | exact Below.refl _ _ | (with_reducible assumption) | refine bw_alloc ?_ _ | refine bw_drew ?_)) : Below v7.heap.size v7 _).size) (uints_new v7 x.t _) rfl (by have := HSM.out; omega) (fun z => by cases z) (k + 1) HNN.out ?_; intro a6 c6 w6 o6 n6 l6; rw [← HX.out] at o6; have HO6 := Lib.hid o6; have HB6 : Hid (Below w1.heap.size w1 w6) := ((below_up HB.out HB7.out).trans (((by repeat (first | exact Below.refl _ _ | (with_reducible assumption) | refine bw_alloc ?_ _ | refine bw_drew ?_)) : Below v7.heap.size v7 _).mono (Nat.le_trans HSZ.out HB7.out.size))).grown n6 (Nat.le_trans (Nat.le_trans HSZ.out HB7.out.size) ((by repeat (first | exact Below.refl _ _ | (with_reducible assumption) | refine bw_alloc ?_ _ | refine bw_drew ?_)) : Below v7.heap.size v7 _).size) (fun q hq => (OwnU.new ((HO.out.below HB7.out).below (by repeat (first | exact Below.refl _ _ | (with_reducible assumption) | refine bw_alloc ?_ _ | refine bw_drew ?_))) hq).1); clear o6 n6 l6)
        go_roundw
        case rel => exact ⟨k + 1, a6, c6, by omega, by go_num, rfl, HO6, HB6⟩
        case measure => simp [intOf]; omega
      · obtain rfl : k = n := by omega
        have HE : Hid (UInts wr a' (l.map Dm.t)) := by
          obtain ⟨a9, c9, e9, hu, _⟩ := HO.out.slice
          obtain ⟨rfl, _, rfl⟩ := Value.slice.inj e9
          have : (l.take k).map Dm.t = l.map Dm.t := by rw [List.take_of_length_le (by have := HL.out; omega)]
          rw [this] at hu; exact hu
        have HBB := Lib.hid (below_up HB1.out HB.out)
        clear HO HB
        go_wp2_with fail
        go_meet
        exact ⟨a', c', rfl, HE, HBB⟩
  case rest =>
    obtain ⟨a', c', rfl, HU, HB⟩ := hcut
    have LC : Hid (∀ v, Below wc.heap.size wc v → Calls Try.prog 50 #[.slice a' n c'] v fun e w' => e = .returned (.tuple #[.int .u64 (perR l).1, .bool (perR l).2]) ∧ Below v.heap.size v w') := fun v hb => by
      have := lcms_any (l.map Dm.t) (fun z hz => by have := HR.out z hz; exact ⟨by omega, by omega⟩) (by rw [List.length_map, HL.out]; omega) c' a' v (reads_of (HU.out.below hb))
      rw [List.length_map, HL.out] at this
      exact this
    have hp := per_pos HOK.out
    have HS1 := Lib.hid (fun h1 h2 => perS_is HOK.out h1 h2)
    have HS2 := Lib.hid (fun h => perS_not HOK.out h)
    generalize (perR l).1 = P at *
    generalize (perR l).2 = pb at *
    clear HR HU HOK MK hOM HO1
    cases pb with
    | false =>
      have HE := Lib.hid (HS2.out (fun h => by cases h.1))
      clear hp HS1 HS2
      go_wp2_with (go_at_call 50; (with_reducible refine (LC.out _ (by repeat (first | exact Below.refl _ _ | (with_reducible assumption) | refine bw_alloc ?_ _ | refine bw_drew ?_))).mono ?_); rintro e w5 ⟨rfl, bx5⟩; have HB5 := Lib.hid (below_up HB.out bx5); clear bx5)
      go_ret2
      exact ⟨by rw [HE.out]; rfl, HB5.out⟩
    | true =>
      by_cases hq : P ≤ 1048576
      · have hq1 : ¬ 1048576 < P := by omega
        have HE := Lib.hid (HS1.out rfl hq)
        have e1 : IntKind.i64.wrap P = P := IntWalk.i64_in _ (by omega)
        clear hp HS1 HS2 hq
        go_wp2_with (go_at_call 50; (with_reducible refine (LC.out _ (by repeat (first | exact Below.refl _ _ | (with_reducible assumption) | refine bw_alloc ?_ _ | refine bw_drew ?_))).mono ?_); rintro e w5 ⟨rfl, bx5⟩; have HB5 := Lib.hid (below_up HB.out bx5); clear bx5)
        go_ret2
        exact ⟨by rw [HE.out]; rfl, HB5.out⟩
      · have hq1 : 1048576 < P := by omega
        have HE := Lib.hid (HS2.out (fun h => hq h.2))
        clear hp HS1 HS2 hq
        go_wp2_with (go_at_call 50; (with_reducible refine (LC.out _ (by repeat (first | exact Below.refl _ _ | (with_reducible assumption) | refine bw_alloc ?_ _ | refine bw_drew ?_))).mono ?_); rintro e w5 ⟨rfl, bx5⟩; have HB5 := Lib.hid (below_up HB.out bx5); clear bx5)
        go_ret2
        exact ⟨by rw [HE.out]; rfl, HB5.out⟩

set_option maxRecDepth 100000 in
set_option maxHeartbeats 8000000 in
theorem pload_any {w : World} {a : Option Addr} {n c : Nat} {l : List Dm} (h : Dems w a n c l) : Calls Try.prog 20 #[.slice a n c] w fun e w' => e = .returned (.tuple #[.int .i64 (ldS l).1, .int .i64 (ldS l).2.1, .int .i64 (ldS l).2.2]) ∧ Below w.heap.size w w' := by
  have HH := Lib.hid h
  have PC := Lib.hid (fun v (hb : Below w.heap.size w v) => pperiod_any (h.below hb))
  have HS1 := Lib.hid (fun q => ldS_bad (l := l) q)
  have HS2 := Lib.hid (fun q r => ldS_is (l := l) q r)
  have HS3 := Lib.hid (fun q r => ldS_over (l := l) q r)
  have HP := Lib.hid (fun q => perS_ok (l := l) q)
  have hmf : ∀ (fn : Fn) (first cap : Array Value) (w : World), (Instr.makeFunc fn first cap).run Try.prog w = .ok (.func fn first cap) w := fun _ _ _ _ => rfl
  generalize (perS l).1 = p at *
  generalize (perS l).2 = er at *
  clear h
  by_cases her : er = 0
  rotate_left
  · have her1 : (er != 0) = true := by simp [her]
    have HE := Lib.hid (HS1.out her)
    clear HS1 HS2 HS3 HP her
    go_enter Try.func20, Try.ntmps20
    go_wp2_with (go_at_call 34; (with_reducible refine (PC.out _ (by repeat (first | exact Below.refl _ _ | (with_reducible assumption) | refine bw_alloc ?_ _ | refine bw_drew ?_))).mono ?_); rintro e w1 ⟨rfl, bx1⟩; have HB1 := Lib.hid (below_up (show Below w.heap.size w _ from (by repeat (first | exact Below.refl _ _ | (with_reducible assumption) | refine bw_alloc ?_ _ | refine bw_drew ?_))) bx1); clear bx1)
    refine bodyPost_ret (v := .tuple #[.int .i64 0, .int .i64 0, .int .i64 er]) (by simp [results, Try.results20, go_sem]) rfl ⟨by rw [HE.out]; try rfl, below_up HB1.out (by repeat (first | exact Below.refl _ _ | (with_reducible assumption) | refine bw_alloc ?_ _ | refine bw_drew ?_))⟩
  subst her
  have hok := (HP.out rfl).1
  have hp0 := (HP.out rfl).2.2.2.1
  have hp1 := (HP.out rfl).2.2.2.2.1
  have HOK := Lib.hid hok
  have TC : Hid (∀ b V, Below w.heap.size w V → V.heap[b]? = some (.cells #[.int .i64 p] 2 (0, 0)) → Calls Try.prog 37 #[.func (.func 38) #[] #[.pointer (some ⟨b, 0, none⟩)], .slice a n c] V fun e w' => e = .returned (.tuple #[.int .i64 ((capA (loadN l p l.length)).getD 0), .bool (capA (loadN l p l.length)).isSome]) ∧ Below V.heap.size V w') := fun b V hb hbx => by
    have hok2 := (okL_iff.1 hok).1
    have := together_any l n c HH.out.len HH.out.n9 hok2 a V (HH.out.view.below hb) _ _ _ (each_load hok2 (by omega) hp1 hbx)
    rwa [sum_load] at this
  have HS2 := Lib.hid (HS2.out rfl)
  have HS3 := Lib.hid (HS3.out rfl)
  clear hok hp0 hp1
  by_cases hq : loadN l p l.length ≤ 4611686018427387904
  · have HE := Lib.hid (HS2.out hq)
    rw [cap_is hq] at TC
    generalize loadN l p l.length = q at *
    clear HS1 HS2 HS3 HP hq
    go_enter Try.func20, Try.ntmps20
    go_upto_region 2 with (go_at_call 34; (with_reducible refine (PC.out _ (by repeat (first | exact Below.refl _ _ | (with_reducible assumption) | refine bw_alloc ?_ _ | refine bw_drew ?_))).mono ?_); rintro e w1 ⟨rfl, bx1⟩; have HB1 := Lib.hid (below_up (show Below w.heap.size w _ from (by repeat (first | exact Below.refl _ _ | (with_reducible assumption) | refine bw_alloc ?_ _ | refine bw_drew ?_))) bx1); clear bx1)
    refine gen_world (fun v => Below w.heap.size w v ∧ v.heap[w1.heap.size]? = some (.cells #[.int .i64 p] 2 (0, 0))) ⟨below_up HB1.out (by repeat (first | exact Below.refl _ _ | (with_reducible assumption) | refine bw_alloc ?_ _ | refine bw_drew ?_)), heap_alloc_new w1 _⟩ ?_
    intro V ⟨hb, hx⟩
    have HB := Lib.hid hb
    have HX := Lib.hid hx
    generalize w1.heap.size = gx at *
    clear hb hx
    go_upto_region 5 with (go_at_call 37; (with_reducible refine (TC.out _ _ HB.out HX.out).mono ?_); rintro e w2 ⟨rfl, bx2⟩; have HB2 := Lib.hid (below_up HB.out bx2); have x0 : w2.cell? ⟨gx, 0, none⟩ = some (.int .i64 p) := (by have := kept_obj bx2 HX.out; rw [blk_cell this]; rfl); clear bx2)
    go_wp2
    go_quiet (fail)
    go_wp2
    refine bodyPost_ret (v := .tuple #[.int .i64 q, .int .i64 p, .int .i64 0]) (by simp [results, Try.results20, go_sem]) rfl ⟨by rw [HE.out]; try rfl, below_drewN HB2.out _⟩
  · have hq' : 4611686018427387904 < loadN l p l.length := by omega
    have HE := Lib.hid (HS3.out hq')
    rw [cap_not hq'] at TC
    clear HS1 HS2 HS3 HP hq hq'
    go_enter Try.func20, Try.ntmps20
    go_upto_region 2 with (go_at_call 34; (with_reducible refine (PC.out _ (by repeat (first | exact Below.refl _ _ | (with_reducible assumption) | refine bw_alloc ?_ _ | refine bw_drew ?_))).mono ?_); rintro e w1 ⟨rfl, bx1⟩; have HB1 := Lib.hid (below_up (show Below w.heap.size w _ from (by repeat (first | exact Below.refl _ _ | (with_reducible assumption) | refine bw_alloc ?_ _ | refine bw_drew ?_))) bx1); clear bx1)
    refine gen_world (fun v => Below w.heap.size w v ∧ v.heap[w1.heap.size]? = some (.cells #[.int .i64 p] 2 (0, 0))) ⟨below_up HB1.out (by repeat (first | exact Below.refl _ _ | (with_reducible assumption) | refine bw_alloc ?_ _ | refine bw_drew ?_)), heap_alloc_new w1 _⟩ ?_
    intro V ⟨hb, hx⟩
    have HB := Lib.hid hb
    have HX := Lib.hid hx
    generalize w1.heap.size = gx at *
    clear hb hx
    go_wp2_with (go_at_call 37; (with_reducible refine (TC.out _ _ HB.out HX.out).mono ?_); rintro e w2 ⟨rfl, bx2⟩; have HB2 := Lib.hid (below_up HB.out bx2); clear bx2)
    refine bodyPost_ret (v := .tuple #[.int .i64 0, .int .i64 0, .int .i64 16]) (by simp [results, Try.results20, go_sem]) rfl ⟨by rw [HE.out]; try rfl, HB2.out⟩
end Go.Proofs.Ytljigfedmjlfgaa

/-
  The walks over the least of a row, and over what makes the row of next deadlines that of a later time.
-/
namespace Go.Proofs.Ytljigfedmjlfgaa
open Go.RowKit Go.Maps
attribute [-go_sem] run_min_int2 run_max_int2

/-- What may have turned of what was there: the blocks of S alone. -/
structure Turn (S : Nat → Prop) (w w' : World) : Prop where
  os : w'.os = w.os
  tape : w'.tape = w.tape
  output : w'.output = w.output
  size : w.heap.size ≤ w'.heap.size
  block : ∀ k, k < w.heap.size → ¬ S k → w'.heap[k]? = w.heap[k]?

theorem Turn.refl (S : Nat → Prop) (w : World) : Turn S w w := ⟨rfl, rfl, rfl, Nat.le_refl _, fun _ _ _ => rfl⟩
theorem Turn.trans {S S' : Nat → Prop} {a b c : World} (h : Turn S a b) (k : Turn S' b c) (hs : ∀ i, i < a.heap.size → S' i → S i) : Turn S a c :=
  ⟨k.os.trans h.os, k.tape.trans h.tape, k.output.trans h.output, Nat.le_trans h.size k.size, fun i hi hn => (k.block i (Nat.lt_of_lt_of_le hi h.size) (fun q => hn (hs i hi q))).trans (h.block i hi hn)⟩
theorem Turn.then {S : Nat → Prop} {a b c : World} (h : Turn S a b) (k : Turn S b c) : Turn S a c := h.trans k fun _ _ q => q
theorem Turn.mono {S S' : Nat → Prop} {a b : World} (h : Turn S a b) (hs : ∀ i, i < a.heap.size → S i → S' i) : Turn S' a b :=
  ⟨h.os, h.tape, h.output, h.size, fun i hi hn => h.block i hi (fun q => hn (hs i hi q))⟩
theorem Turn.of_below {S : Nat → Prop} {w w' : World} (h : Below w.heap.size w w') : Turn S w w' := ⟨h.os, h.tape, h.output, h.size, fun k hk _ => h.block k hk⟩
theorem Turn.of_same {S : Nat → Prop} {w w1 w' : World} (h : Turn S w1 w') (e : w1.heap = w.heap) (e1 : w1.os = w.os) (e2 : w1.tape = w.tape) (e3 : w1.output = w.output) : Turn S w w' :=
  ⟨h.os.trans e1, h.tape.trans e2, h.output.trans e3, by rw [← e]; exact h.size, fun k hk hn => by rw [← e]; exact h.block k (by rw [e]; exact hk) hn⟩
theorem Turn.below {S : Nat → Prop} {w w' : World} {B : Nat} (h : Turn S w w') (hB : B ≤ w.heap.size) (hs : ∀ i, S i → B ≤ i) : Below B w w' :=
  ⟨h.os, h.tape, h.output, h.size, fun k hk => h.block k (by omega) (fun q => by have := hs k q; omega)⟩
theorem Turn.drew {S : Nat → Prop} {a w : World} (h : Turn S a w) : Turn S a w.drew := ⟨h.os, h.tape, h.output, h.size, h.block⟩
theorem Turn.alloc {S : Nat → Prop} {a w : World} (h : Turn S a w) (o : Obj) : Turn S a (w.alloc o) :=
  h.then (Turn.of_below ((Below.refl _ _).alloc (Nat.le_refl _) o))
theorem Turn.setCell {S : Nat → Prop} {a w : World} (h : Turn S a w) {p : Addr} (hp : p.block < a.heap.size → S p.block) (u : Value) : Turn S a (w.setCell p u) :=
  ⟨h.os, h.tape, h.output, by simp [World.setCell]; exact h.size, fun k hk hn => by
    rw [Below.heap_setCell _ _ _ _ (fun e => hn (by rw [e]; exact hp (by omega)))]; exact h.block k hk hn⟩
theorem Turn.grown {S : Nat → Prop} {a w w' : World} {row : Option Nat} (h : Turn S a w) (hg : w.grownBy w' row) (hr : ∀ k, row = some k → k < a.heap.size → S k) : Turn S a w' :=
  ⟨hg.os.trans h.os, hg.tape.trans h.tape, hg.output.trans h.output, Nat.le_trans h.size hg.size, fun k hk hn => (hg.block k (Nat.lt_of_lt_of_le hk h.size) (fun e => hn (hr k e.symm hk))).trans (h.block k hk hn)⟩

theorem Turn.obj {S : Nat → Prop} {w w' : World} (h : Turn S w w') {b : Nat} {o : Obj} (ho : w.heap[b]? = some o) (hn : ¬ S b) : w'.heap[b]? = some o := (h.block b (lt_of_block ho) hn).trans ho

/-- A row of numbers that lies in a block of its own. -/
structure RowI (w : World) (g c : Nat) (row : List Int) : Prop where
  blk : ∃ cur, w.heap[g]? = some (.cells cur 2 (0, 0)) ∧ row.length ≤ cur.size ∧ ∀ (j : Nat) (u : Int), row[j]? = some u → cur[j]? = some (.int .i64 u)
theorem RowI.at_ {w : World} {g c : Nat} {row : List Int} (h : RowI w g c row) {k : Nat} {x : Int} (hx : row[k]? = some x) : w.cell? ⟨g, k, none⟩ = some (.int .i64 x) := by
  obtain ⟨cur, h1, _, h3⟩ := h.blk
  rw [blk_cell h1]; exact h3 k x hx
theorem RowI.free {w : World} {g c : Nat} {row : List Int} (h : RowI w g c row) (k : Nat) : w.frozen? ⟨g, k, none⟩ = false := by
  obtain ⟨cur, h1, _⟩ := h.blk
  exact blk_free h1 k
theorem RowI.obj {w w' : World} {g c : Nat} {row : List Int} (h : RowI w g c row) (k : ∀ cs T fr, w.heap[g]? = some (.cells cs T fr) → w'.heap[g]? = some (.cells cs T fr)) : RowI w' g c row := by
  obtain ⟨cur, h1, h2⟩ := h.blk
  exact ⟨cur, k _ _ _ h1, h2⟩
theorem RowI.below {w w' : World} {g c : Nat} {row : List Int} (h : RowI w g c row) (hb : Below w.heap.size w w') : RowI w' g c row := h.obj fun _ _ _ z => kept_obj hb z
theorem RowI.lt {w : World} {g c : Nat} {row : List Int} (h : RowI w g c row) : g < w.heap.size := by
  obtain ⟨cur, h1, _⟩ := h.blk
  exact lt_of_block h1
theorem RowI.ints {w : World} {g c : Nat} {row : List Int} (h : RowI w g c row) : Ints w (some ⟨g, 0, none⟩) row := by
  obtain ⟨cur, h1, _, h3⟩ := h.blk
  exact Ints.of_block h1 h3
theorem RowI.set {w : World} {g c : Nat} {row : List Int} (h : RowI w g c row) {i : Nat} (hi : i < row.length) (x : Int) : RowI (w.setCell ⟨g, i, none⟩ (.int .i64 x)) g c (row.set i x) := by
  obtain ⟨cur, h1, h2, h3⟩ := h.blk
  refine ⟨_, blk_set h1 _, by rw [List.length_set, Array.size_setIfInBounds]; exact h2, fun j u hj => ?_⟩
  rw [Array.getElem?_setIfInBounds]
  by_cases e : i = j
  · subst e
    rw [if_pos rfl, if_pos (by omega)]
    rw [List.getElem?_set_self hi] at hj
    cases hj; rfl
  · rw [if_neg e]
    rw [List.getElem?_set_ne e] at hj
    exact h3 j u hj
theorem RowI.of_own {w : World} {B n c : Nat} {a : Option Addr} {row : List Int} (h : OwnI w 2 B (.slice a n c) row) (hn : 0 < n) : ∃ g, a = some ⟨g, 0, none⟩ ∧ B ≤ g ∧ RowI w g c row ∧ row.length = n := by
  have hlen : row.length = n := by
    obtain ⟨_, _, e, _⟩ := h.slice
    exact (Value.slice.inj e).2.1.symm
  rcases h.2 with ⟨e, h0⟩ | ⟨g, cap, cur, e, hB, h3, h1, h2, h4, h5⟩
  · omega
  · obtain ⟨rfl, _, rfl⟩ := Value.slice.inj e
    refine ⟨g, rfl, hB, ⟨cur, h3, by omega, fun j u hj => ?_⟩, hlen⟩
    have := vi_at hj
    rw [← h5, List.getElem?_take] at this
    split at this
    · simpa using this
    · cases this

set_option maxRecDepth 100000 in
set_option maxHeartbeats 4000000 in
/-- The least one of a row. -/
theorem pmin_any (row : List Int) (m : Int) (hm : m ∈ row) (hle : ∀ x ∈ row, m ≤ x) (n : Nat) (hl : row.length = n) (hn : n ≤ 1000000) (a : Option Addr) (c : Nat) (w : World) (hi : Ints w a row) :
    Calls Try.prog 61 #[.slice a n c] w fun e w' => e = .returned (.int .i64 m) ∧ w = w' := by
  have h0 : 0 < n := by rw [← hl]; exact List.length_pos_of_mem hm
  have HL := Lib.hid hl
  have HI := Lib.hid hi
  have HM := Lib.hid hm
  have HLE := Lib.hid hle
  obtain ⟨x0, hx0⟩ := nth_of hl h0
  obtain ⟨g, o, rfl, c0⟩ := hi.at_ hx0
  rw [Nat.add_zero] at c0
  have z1 : ¬ (n : Int) < 1 := by omega
  have z2 : (0 : Int) < (n : Int) := by omega
  have HX0 : Hid (x0 ∈ row ∧ ∀ j y, j < 1 → row[j]? = some y → x0 ≤ y) := by
    refine ⟨List.mem_of_getElem? hx0, fun j y hj hy => ?_⟩
    obtain rfl : j = 0 := by omega
    rw [hx0] at hy
    cases hy
    omega
  clear hl hi hm hle hx0 h0
  go_enter Try.func61, Try.ntmps61
  go_wp2
  go_loop [3, 4] (fun v u => ∃ (k : Nat) (y : Int), 1 ≤ k ∧ k ≤ n ∧ u = .int .i64 k ∧ v = .int .i64 y ∧ Hid (y ∈ row ∧ ∀ j z, j < k → row[j]? = some z → y ≤ z)) (fun _ u => (n - intOf u).toNat)
  case atStart => exact ⟨1, x0, by omega, by omega, rfl, rfl, HX0⟩
  case round =>
    obtain ⟨k, y, hk0, hk, rfl, rfl, HY⟩ := hrel
    clear HX0 c0
    by_cases hlt : k < n
    · obtain ⟨x, hx⟩ := nth_of HL.out hlt
      obtain ⟨g', o', e', c1⟩ := HI.out.at_ hx
      cases e'
      have hk1 : (k : Int) < (n : Int) := by omega
      have hk2 : (0 : Int) ≤ (k : Int) := by omega
      have HXM : Hid (x ∈ row) := List.mem_of_getElem? hx
      have HXK : Hid (∀ z, row[k]? = some z → x = z) := fun z hz => by rw [hx] at hz; exact Option.some.inj hz
      clear hx
      by_cases hq : x < y
      · have mn : ∀ (ts : Array TypeId) (t : TypeId) (w : World), (Builtin.min_ ts t #[.int .i64 y, .int .i64 x]).run Try.prog w = .ok (.int .i64 x) w := fun ts t w => by rw [run_min_int2, if_pos hq]
        have HN : Hid (∀ j z, j < k + 1 → row[j]? = some z → x ≤ z) := fun j z hj hz => by
          rcases Nat.lt_or_ge j k with q | q
          · have := HY.out.2 j z q hz; omega
          · obtain rfl : j = k := by omega
            have := HXK.out z hz; omega
        clear hq
        go_wp2
        go_round
        case rel => exact ⟨k + 1, x, by omega, by omega, by go_num, rfl, HXM.out, HN.out⟩
        case measure => simp [intOf]; omega
      · have mn : ∀ (ts : Array TypeId) (t : TypeId) (w : World), (Builtin.min_ ts t #[.int .i64 y, .int .i64 x]).run Try.prog w = .ok (.int .i64 y) w := fun ts t w => by rw [run_min_int2, if_neg hq]
        have HN : Hid (∀ j z, j < k + 1 → row[j]? = some z → y ≤ z) := fun j z hj hz => by
          rcases Nat.lt_or_ge j k with q | q
          · exact HY.out.2 j z q hz
          · obtain rfl : j = k := by omega
            have := HXK.out z hz; omega
        clear hq
        go_wp2
        go_round
        case rel => exact ⟨k + 1, y, by omega, by omega, by go_num, rfl, HY.out.1, HN.out⟩
        case measure => simp [intOf]; omega
    · obtain rfl : k = n := by omega
      obtain rfl : y = m := by
        have h1 := HLE.out y HY.out.1
        obtain ⟨j, hj⟩ := List.mem_iff_getElem?.1 HM.out
        have h2 := HY.out.2 j m (by have := (List.getElem?_eq_some_iff.1 hj).1; have := HL.out; omega) hj
        omega
      go_wp2
      go_ret
      exact ⟨rfl, rfl⟩

/-- What a pass leaves. -/
structure PassAt (w : World) (g c : Nat) (row : List Int) (V : World) : Prop where
  turn : Turn (fun k => k = g) w V
  row : RowI V g c row
theorem PassAt.below {w V V' : World} {g c : Nat} {row : List Int} (h : PassAt w g c row V) (hb : Below V.heap.size V V') : PassAt w g c row V' := ⟨h.turn.then (Turn.of_below hb), h.row.below hb⟩
theorem PassAt.set {w V : World} {g c : Nat} {row : List Int} (h : PassAt w g c row V) {i : Nat} (hi : i < row.length) (x : Int) : PassAt w g c (row.set i x) (V.setCell ⟨g, i, none⟩ (.int .i64 x)) :=
  ⟨h.turn.setCell (fun _ => rfl) _, h.row.set hi x⟩
theorem GAt.turn {w w' : World} {g b o : Nat} {x : Dm} (h : GAt w b o x) (ht : Turn (fun k => k = g) w w') (hne : b ≠ g) : GAt w' b o x := by
  have hlt := block_of_cell h.c0
  have e := ht.block b hlt hne
  have k : ∀ o, w'.cell? ⟨b, o, none⟩ = w.cell? ⟨b, o, none⟩ := fun o => by unfold World.cell?; rw [show w'.heap[b]? = w.heap[b]? from e]
  exact ⟨by rw [k]; exact h.c0, by rw [k]; exact h.c1, by rw [k]; exact h.c2⟩
/-- A row of demands that does not lie in a block. -/
def Off (a : Option Addr) (g : Nat) : Prop := ∀ b o i, a = some ⟨b, o, i⟩ → b ≠ g
theorem GView.turn {w w' : World} {g : Nat} {a : Option Addr} {l : List Dm} (h : GView w a l) (ht : Turn (fun k => k = g) w w') (hne : Off a g) : GView w' a l := by
  rcases h with rfl | ⟨b, o, rfl, hc⟩
  · exact .inl rfl
  · refine .inr ⟨b, o, rfl, fun j u hj => ?_⟩
    have hh := hc j u hj
    have e := ht.block b (block_of_cell hh) (hne b o none rfl)
    have k : w'.cell? ⟨b, o + j, none⟩ = w.cell? ⟨b, o + j, none⟩ := by unfold World.cell?; rw [show w'.heap[b]? = w.heap[b]? from e]
    rw [k]; exact hh

set_option maxRecDepth 100000 in
set_option maxHeartbeats 8000000 in
theorem ppass_any (l : List Dm) (n c : Nat) (hl : l.length = n) (hn : n ≤ 64) (hok : ∀ x ∈ l, x.ok) (a : Option Addr) (u t : Int) (hut : u ≤ t) (h0 : 0 ≤ t) (ht : t ≤ 2199023255552) (hle : ∀ x ∈ l, t ≤ nxtD x u) (g cg : Nat) (w : World) (hv : GView w a l) (hr : RowI w g cg (nxR l u)) (hoff : Off a g) :
    Calls Try.prog 62 #[.slice a n c, .slice (some ⟨g, 0, none⟩) n cg, .int .i64 t] w fun e w' => e = .returned (.int .i64 (dueA l t - dueA l u)) ∧ PassAt w g cg (nxR l t) w' := by
  have HV := Lib.hid hv
  have HL := Lib.hid hl
  have HOK := Lib.hid hok
  have HLE := Lib.hid hle
  have HOFF := Lib.hid hoff
  have HP0 : Hid (PassAt w g cg (nxH l t u 0) w) := ⟨Turn.refl _ _, by rw [nxH_zero]; exact hr⟩
  obtain ⟨res, hres⟩ : ∃ res, dueA l t - dueA l u = res := ⟨_, rfl⟩
  have HRES := Lib.hid hres
  rw [hres]
  have HJ : Hid (∀ k, 0 ≤ dueN l t k - dueN l u k ∧ dueN l t k - dueN l u k ≤ (k : Int) * 1099511627776) := due_jump hok hut hle
  clear hv hl hok hle hr hoff hres
  go_enter Try.func62, Try.ntmps62
  go_wp2
  go_loopw [7, 12] (fun s v wr => ∃ k : Nat, k ≤ n ∧ v = .int .i64 k ∧ s = .int .i64 (dueN l t k - dueN l u k) ∧ Hid (PassAt w g cg (nxH l t u k) wr)) (fun _ v _ => (n - intOf v).toNat)
  case atStart => exact ⟨0, Nat.zero_le _, rfl, rfl, HP0⟩
  case round =>
    obtain ⟨k, hk, rfl, rfl, HP⟩ := hrel
    clear HP0
    by_cases hlt : k < n
    · obtain ⟨x, hx⟩ := nth_of HL.out hlt
      have hxm := List.mem_of_getElem? hx
      have hxo := HOK.out x hxm
      obtain ⟨b, o, rfl, ⟨c0, c1, c2⟩⟩ := (HV.out.turn HP.out.turn HOFF.out).at_ hx
      have r0 := HP.out.row.at_ (nxH_at (t := t) (u := u) hx)
      have rf := HP.out.row.free k
      have hk1 : (k : Int) < (n : Int) := by omega
      have hk0 : (0 : Int) ≤ (k : Int) := by omega
      obtain ⟨j1, j2⟩ := jump_next hx hxo hut (HLE.out x hxm)
      obtain ⟨q1, q2⟩ := HJ.out k
      have HLN : Hid (k < (nxH l t u k).length) := by show _ < _; rw [nxH_len, HL.out]; exact hlt
      have hc0 := hxo.c0; have hc1 := hxo.c1; have hd2 := hxo.d2; have hd1 := hxo.d1; have ht2 := hxo.t2
      by_cases he : nxtD x u = t
      · have hb : (t == t) = true := by simp
        have e2 := (step_eq hxo he).2
        have HS : Hid ((nxH l t u k).set k (t + x.t) = nxH l t u (k + 1)) := by rw [← e2]; exact nxH_set hx
        have HN := Lib.hid (j1 he)
        rw [he] at r0
        obtain ⟨s, hs⟩ : ∃ s, dueN l t k - dueN l u k = s := ⟨_, rfl⟩
        rw [hs] at q1 q2 HN ⊢
        have e3 : IntKind.i64.wrap (s + x.c) = s + x.c := IntWalk.i64_in _ (by omega)
        have e4 : IntKind.i64.wrap (t + x.t) = t + x.t := IntWalk.i64_in _ (by omega)
        obtain ⟨tx, htx⟩ : ∃ tx, t + x.t = tx := ⟨_, rfl⟩
        rw [htx] at e4 HS
        clear hx hxm hxo j1 j2 q1 q2 hc0 hc1 hd2 hd1 ht2 he e2 hs
        go_upto_region 5 with fail
        refine gen_world (fun v => PassAt w g cg (nxH l t u k) v ∧ v.cell? ⟨wr.heap.size, 0, none⟩ = some (.int .i64 x.c) ∧ v.cell? ⟨wr.heap.size, 2, none⟩ = some (.int .i64 x.t) ∧ v.cell? ⟨g, k, none⟩ = some (.int .i64 t)) ⟨HP.out.below (by repeat (first | exact Below.refl _ _ | (with_reducible assumption) | refine bw_alloc ?_ _ | refine bw_drew ?_)), by rw [World.cell?_alloc_new]; rfl, by rw [World.cell?_alloc_new]; rfl, kept_cell (show Below wr.heap.size wr _ from (by repeat (first | exact Below.refl _ _ | (with_reducible assumption) | refine bw_alloc ?_ _ | refine bw_drew ?_))) r0⟩ ?_
        intro V ⟨hpv, y0, y2, y3⟩
        have HPV := Lib.hid hpv
        have rf := hpv.row.free k
        generalize wr.heap.size = gx at y0 y2 ⊢
        clear hpv r0 c0 c1 c2 HP
        go_upto_region 7 with fail
        go_still_tail 7, (by kernel_rfl)
        go_wp2
        go_roundw
        case rel => exact ⟨k + 1, by omega, by go_num, by rw [HN.out], by rw [← HS.out]; exact Lib.hid ((HPV.out.below (below_drewN (Below.refl _ _) _)).set HLN.out _)⟩
        case measure => simp [intOf]; omega
      · have hb : (nxtD x u == t) = false := by rw [beq_eq_false_iff_ne]; exact he
        have e2 := (step_ne hxo hut (by have := HLE.out x hxm; omega)).2
        have HS : Hid (nxH l t u k = nxH l t u (k + 1)) := nxH_same hx e2
        have HN := Lib.hid (j2 he)
        obtain ⟨s, hs⟩ : ∃ s, dueN l t k - dueN l u k = s := ⟨_, rfl⟩
        rw [hs] at HN ⊢
        clear hx hxm hxo j1 j2 q1 q2 hc0 hc1 hd2 hd1 ht2 he e2 hs
        generalize nxtD x u = q at *
        go_upto_region 5 with fail
        refine gen_world (fun v => PassAt w g cg (nxH l t u k) v ∧ v.cell? ⟨g, k, none⟩ = some (.int .i64 q)) ⟨HP.out.below (by repeat (first | exact Below.refl _ _ | (with_reducible assumption) | refine bw_alloc ?_ _ | refine bw_drew ?_)), kept_cell (show Below wr.heap.size wr _ from (by repeat (first | exact Below.refl _ _ | (with_reducible assumption) | refine bw_alloc ?_ _ | refine bw_drew ?_))) r0⟩ ?_
        intro V ⟨hpv, y3⟩
        have HPV := Lib.hid hpv
        generalize wr.heap.size = gx
        clear hpv r0 c0 c1 c2 HP
        go_wp2
        go_roundw
        case rel => exact ⟨k + 1, by omega, by go_num, by rw [HN.out], by rw [← HS.out]; exact Lib.hid (HPV.out.below (by repeat (first | exact Below.refl _ _ | (with_reducible assumption) | refine bw_alloc ?_ _ | refine bw_drew ?_)))⟩
        case measure => simp [intOf]; omega
    · obtain rfl : k = n := by omega
      have HE : Hid (dueN l t k - dueN l u k = res) := by rw [← HRES.out]; unfold dueA; rw [HL.out]; rfl
      have HR : Hid (PassAt w g cg (nxR l t) wr) := by have := HP.out; rw [nxH_end HL.out] at this; exact this
      generalize dueN l t k - dueN l u k = s at *
      go_wp2
      go_ret
      exact ⟨by rw [← HE.out]; rfl, HR.out⟩
end Go.Proofs.Ytljigfedmjlfgaa
