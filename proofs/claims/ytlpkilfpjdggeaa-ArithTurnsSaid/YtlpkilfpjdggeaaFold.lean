/-
  The walks over the fold of numbers, and what tells them one by one.
-/
import Derived.Test.YtlpkilfpjdggeaaRows
import Derived.Test.YtlpkilfpjdggeaaShelf
import Derived.Test.YtlpkilfpjdggeaaNum
import Derived.WalkKit
import Derived.WalkSpells
import Derived.WalkLawsBesides
import Derived.Laws.Externs
import Derived.Shelf.Spec.BitsCarry
import Derived.Lib.Hide
import Derived.Test.YtlpkilfpjdggeaaArith
import Derived.Deep.QuietTactic
import Derived.BigQuiet
namespace Go.Proofs.Ytlpkilfpjdggeaa
open Go.RowKit

set_option maxHeartbeats 400000 in
theorem each1_end (pi pl n cap : Nat) (ao : Option Addr) (w : World) (hi : w.cell? ⟨pi, 0, none⟩ = some (.int .i64 n)) (hl : w.cell? ⟨pl, 0, none⟩ = some (.slice ao n cap)) :
    Calls Try.prog 40 #[.pointer (some ⟨pi, 0, none⟩), .pointer (some ⟨pl, 0, none⟩)] w fun e w' => e = .returned (.tuple #[.int .u64 0, .bool false]) ∧ w = w' := by
  go_enter Try.func40, Try.ntmps40
  go_wp2
  go_ret2
  exact ⟨rfl, rfl⟩

set_option maxHeartbeats 400000 in
theorem each1_next (pi pl k n cap b off : Nat) (z : Int) (w : World) (hk : k < n) (hn : (n : Int) ≤ 9223372036854775807) (hi : w.cell? ⟨pi, 0, none⟩ = some (.int .i64 k)) (hf : w.frozen? ⟨pi, 0, none⟩ = false)
    (hl : w.cell? ⟨pl, 0, none⟩ = some (.slice (some ⟨b, off, none⟩) n cap)) (hz : w.cell? ⟨b, off + k, none⟩ = some (.int .u64 z)) (hb : b ≠ pi) (hp : pl ≠ pi) :
    Calls Try.prog 40 #[.pointer (some ⟨pi, 0, none⟩), .pointer (some ⟨pl, 0, none⟩)] w fun e w' => e = .returned (.tuple #[.int .u64 z, .bool true]) ∧ w.setCell ⟨pi, 0, none⟩ (.int .i64 ((k : Int) + 1)) = w' := by
  have h1 : ((k : Int) == (n : Int)) = false := by rw [beq_eq_false_iff_ne]; omega
  go_enter Try.func40, Try.ntmps40
  go_wp2
  go_ret2
  exact ⟨rfl, rfl⟩

set_option maxHeartbeats 400000 in
theorem each_any (n cap : Nat) (ao : Option Addr) (w : World) :
    Calls Try.prog 32 #[.slice ao n cap] w fun e w' => e = .returned (.func (.func 40) #[] #[.pointer (some ⟨w.heap.size + 1, 0, none⟩), .pointer (some ⟨w.heap.size, 0, none⟩)]) ∧ (w.alloc (.cells #[.slice ao n cap] 24)).alloc (.cells #[.int .i64 0] 3) = w' := by
  have hmf : ∀ (fn : Fn) (first cap : Array Value) (w : World), (Instr.makeFunc fn first cap).run Try.prog w = .ok (.func fn first cap) w := fun _ _ _ _ => rfl
  go_enter Try.func32, Try.ntmps32
  go_wp2
  go_ret
  exact ⟨rfl, rfl⟩

/-- What the function value of a joining function must keep to. -/
structure Joins (jf : Nat) (jN : Int → Int → Int) (jB : Int → Int → Bool) (Good : Int → Prop) : Prop where
  enter : ∀ (args : Array Value) (w : World), (callFunc jf args).run Try.prog w = .ok (.enter jf args) w
  call : ∀ a b w, Good a → U64 b → Calls Try.prog jf #[.int .u64 a, .int .u64 b] w fun e w' => e = .returned (.tuple #[.int .u64 (jN a b), .bool (jB a b)]) ∧ Below w.heap.size w w'
  good : ∀ a b, Good a → U64 b → jB a b = true → Good (jN a b)

def eachV (pi pl : Nat) : Value := .func (.func 40) #[] #[.pointer (some ⟨pi, 0, none⟩), .pointer (some ⟨pl, 0, none⟩)]

set_option maxHeartbeats 800000 in
theorem fold_any (jf : Nat) (jN : Int → Int → Int) (jB : Int → Int → Bool) (Good : Int → Prop) (J : Joins jf jN jB Good)
    (zs : List Int) (hz : ∀ z ∈ zs, U64 z) (hn : (zs.length : Int) ≤ 9223372036854775807) (B cap pi pl : Nat) (ao : Option Addr) (so : Int) (hso : Good so) (w : World) (hr : Reads w B ao zs)
    (hi : w.cell? ⟨pi, 0, none⟩ = some (.int .i64 0)) (hl : w.cell? ⟨pl, 0, none⟩ = some (.slice ao zs.length cap)) (hf : w.frozen? ⟨pi, 0, none⟩ = false)
    (hpl : pl ≠ pi) (hbi : B ≤ pi) (hsi : pi < w.heap.size) (hsl : pl < w.heap.size) :
    Calls Try.prog 31 #[.int .u64 so, eachV pi pl, .func (.func jf) #[] #[]] w fun e w' =>
      e = .returned (.tuple #[.int .u64 (foldR jN jB so zs).1, .bool (foldR jN jB so zs).2]) ∧ Below B w w' := by
  unfold eachV
  have hen := J.enter
  have HJ := Lib.hid J; clear J
  have HR := Lib.hid hr; clear hr
  have HZ := Lib.hid hz; clear hz
  have Hgood := Lib.hid hso; clear hso
  have H0 : Hid (foldR jN jB so (zs.drop 0) = foldR jN jB so zs) := by rw [List.drop_zero]; rfl
  generalize foldR jN jB so zs = res at H0 ⊢
  go_enter Try.func31, Try.ntmps31
  go_wp2; go_step3; go_wp2; go_step3; go_wp2
  go_loopw [0, 8] (fun s o wr => ∃ (k : Nat) (a : Int), k ≤ zs.length ∧ Hid (Good a) ∧ Hid (foldR jN jB a (zs.drop k) = res) ∧ s = .int .u64 a ∧ o = .bool true ∧
      wr.cell? ⟨pi, 0, none⟩ = some (.int .i64 k) ∧ wr.cell? ⟨pl, 0, none⟩ = some (.slice ao zs.length cap) ∧ wr.frozen? ⟨pi, 0, none⟩ = false ∧ w.heap.size ≤ wr.heap.size ∧ Below B w wr)
    (fun _ _ wr => zs.length - (intOf ((wr.cell? ⟨pi, 0, none⟩).getD undef)).toNat)
  case atStart => exact ⟨0, so, Nat.zero_le _, Hgood, H0, rfl, rfl, hi, hl, hf, Nat.le_refl _, Below.refl _ _⟩
  case round =>
    obtain ⟨k, a, hk, hg, hres, rfl, rfl, hci, hcl, hfi, hsz, hbel⟩ := hrel
    by_cases hlt : k < zs.length
    · have hz : U64 (zs.getD k 0) := HZ.out _ (by rw [List.getD_eq_getElem?_getD, List.getElem?_eq_getElem hlt]; exact List.getElem_mem _)
      have hd := drop_cons zs k hlt
      obtain ⟨b, off, rfl, hb, hcells⟩ : ∃ b off, ao = some ⟨b, off, none⟩ ∧ b < B ∧ ∀ k, k < zs.length → wr.cell? ⟨b, off + k, none⟩ = some (.int .u64 (zs.getD k 0)) := by
        rcases HR.out.below hbel with h | h
        · rw [h] at hlt; exact absurd hlt (Nat.not_lt_zero _)
        · exact h
      have hc := hcells k hlt
      clear hcells
      have H1 := hres.out
      rw [hd] at H1
      have Hz := Lib.hid hz; clear hz hd
      generalize zs.getD k 0 = z at hc H1 Hz
      have C1 := each1_next pi pl k zs.length cap b off z wr hlt hn hci hfi hcl hc (by omega) hpl
      have HC := Lib.hid C1; clear C1 hc
      by_cases hj : jB a z = true
      · rw [foldR_yes hj] at H1
        have Hg := Lib.hid (HJ.out.good a z hg.out Hz.out hj)
        have H1 := Lib.hid H1
        clear hres
        go_wp2_with (first | (go_at_call 40; refine (HC.out).mono ?_; rintro e w' ⟨rfl, rfl⟩) | ((with_reducible refine (HJ.out.call a z _ hg.out Hz.out).mono ?_); rintro e w' ⟨rfl, hw2⟩))
        go_roundw
        case rel =>
          obtain ⟨c1, c2, c3, c4, c5⟩ := each_step hsi hsl hsz hci hcl hfi hpl hbi hbel hw2
          exact ⟨k + 1, jN a z, hlt, Hg, H1, rfl, rfl, by rw [c1]; go_num, c2, c3, c4, c5⟩
        case measure =>
          obtain ⟨c1, c2, c3, c4, c5⟩ := each_step hsi hsl hsz hci hcl hfi hpl hbi hbel hw2
          rw [c1, hci]; simp [intOf]; omega
      · have hj' : jB a z = false := by simpa using hj
        rw [foldR_no hj'] at H1
        have H1 := Lib.hid H1
        clear hres hj
        go_wp2_with (first | (go_at_call 40; refine (HC.out).mono ?_; rintro e w' ⟨rfl, rfl⟩) | ((with_reducible refine (HJ.out.call a z _ hg.out Hz.out).mono ?_); rintro e w' ⟨rfl, hw2⟩))
        rw [Exit.noGoto_ret]
        go_ret2
        obtain ⟨c1, c2, c3, c4, c5⟩ := each_step hsi hsl hsz hci hcl hfi hpl hbi hbel hw2
        exact ⟨by rw [← H1.out]; simp only [← hj']; rfl, c5⟩
    · have hke : k = zs.length := by omega
      subst hke
      go_wp2_with (go_at_call 40; refine (each1_end pi pl zs.length cap ao _ hci hcl).mono ?_; rintro e w' ⟨rfl, rfl⟩)
      rw [Exit.noGoto_ret]
      go_ret2
      have := hres.out
      rw [List.drop_length, foldR_nil] at this
      exact ⟨by rw [← this]; rfl, hbel⟩

end Go.Proofs.Ytlpkilfpjdggeaa
