/-
  The walks over rows of numbers copied, and over a task with rows of its own.
-/
import Derived.Test.YtknjldmpcokgfaaKW16
namespace Go.Proofs.Ytknjldmpcokgfaa
open Go.RowKit Go.Maps

/-- A row of one's own that comes back. -/
def CloneBack (l : List Int) (w : World) (e : Ending) (w' : World) : Prop :=
  ∃ a c, e = .returned (.slice a l.length c) ∧ Ints w' a l ∧ IsI w' a l ∧ l.length ≤ c ∧ (c : Int) ≤ 9223372036854775807 ∧ Below w.heap.size w w'

theorem nilL (n c : Nat) (w : World) : (binOp .eql 22 (.slice none n c) (.slice none 0 0)).run Try.prog w = .ok (.bool true) w := by kernel_rfl
theorem someL (x : Addr) (n c : Nat) (w : World) : (binOp .eql 22 (.slice (some x) n c) (.slice none 0 0)).run Try.prog w = .ok (.bool false) w := by kernel_rfl
theorem nilI (n c : Nat) (w : World) : (binOp .eql 23 (.slice none n c) (.slice none 0 0)).run Try.prog w = .ok (.bool true) w := by kernel_rfl
theorem someI (x : Addr) (n c : Nat) (w : World) : (binOp .eql 23 (.slice (some x) n c) (.slice none 0 0)).run Try.prog w = .ok (.bool false) w := by kernel_rfl
theorem numint64 : IsNum 22 2 := numL
theorem numint : IsNum 23 3 := numI
attribute [local go_sem] nilL someL nilI someI

set_option maxRecDepth 100000 in
set_option maxHeartbeats 1000000 in
theorem clone_int64 (n cap : Nat) (a : Option Addr) (l : List Int) (hl : l.length = n) (hn : (n : Int) ≤ 1000000) (w : World) (h : Ints w a l) :
    Calls Try.prog 55 #[.slice a n cap] w (CloneBack l w) := by
  cases a with
  | none =>
    obtain rfl := h.nothing
    obtain rfl : n = 0 := by simpa using hl.symm
    go_enter Try.func55, Try.ntmps55
    go_wp2
    go_ret
    exact ⟨_, _, rfl, .inl rfl, .inl rfl, Nat.le_refl _, by omega, Below.refl _ _⟩
  | some x =>
    have H := Lib.hid h
    have HL := Lib.hid hl
    have HSM : Hid (((([] : List Int).length : Int) + (n : Int)) ≤ 17592186044416) := by show _ ≤ _; simp; omega
    clear h hl
    go_enter Try.func55, Try.ntmps55
    go_wp2_with (at_builtin; refine wp_ints (m := n) (l := l) (q := []) numint64 rfl _ _ rfl rfl rfl (OwnI.made w 2) (by simp) (H.out.below (by repeat (first | exact Below.refl _ _ | (with_reducible assumption) | refine bw_alloc ?_ _ | refine bw_drew ?_))) HL.out HSM.out (fun z => by cases z) n (by simp) ?_; intro a3 k3 w3 o3 g3 l3; have HO := Lib.hid o3; have HB := Lib.hid (((Below.refl w.heap.size w).alloc (Nat.le_refl _) _).grown g3 (by simp) (fun k hk => ((OwnI.made w 2).new hk).1)); clear o3 g3 l3)
    go_ret
    have ho : OwnI w3 2 w.heap.size (.slice a3 n k3) l := by simpa using HO.out
    obtain ⟨a4, c4, e4, i4, l4, m4⟩ := ho.slice
    simp only [Value.slice.injEq] at e4
    obtain ⟨rfl, _, rfl⟩ := e4
    exact ⟨a3, k3, (by rw [HL.out]; rfl), i4, ho.isI (by first | exact .inl rfl | exact .inr rfl), l4, m4, HB.out⟩
set_option maxRecDepth 100000 in
set_option maxHeartbeats 1000000 in
theorem clone_int (n cap : Nat) (a : Option Addr) (l : List Int) (hl : l.length = n) (hn : (n : Int) ≤ 1000000) (w : World) (h : Ints w a l) :
    Calls Try.prog 56 #[.slice a n cap] w (CloneBack l w) := by
  cases a with
  | none =>
    obtain rfl := h.nothing
    obtain rfl : n = 0 := by simpa using hl.symm
    go_enter Try.func56, Try.ntmps56
    go_wp2
    go_ret
    exact ⟨_, _, rfl, .inl rfl, .inl rfl, Nat.le_refl _, by omega, Below.refl _ _⟩
  | some x =>
    have H := Lib.hid h
    have HL := Lib.hid hl
    have HSM : Hid (((([] : List Int).length : Int) + (n : Int)) ≤ 17592186044416) := by show _ ≤ _; simp; omega
    clear h hl
    go_enter Try.func56, Try.ntmps56
    go_wp2_with (at_builtin; refine wp_ints (m := n) (l := l) (q := []) numint rfl _ _ rfl rfl rfl (OwnI.made w 3) (by simp) (H.out.below (by repeat (first | exact Below.refl _ _ | (with_reducible assumption) | refine bw_alloc ?_ _ | refine bw_drew ?_))) HL.out HSM.out (fun z => by cases z) n (by simp) ?_; intro a3 k3 w3 o3 g3 l3; have HO := Lib.hid o3; have HB := Lib.hid (((Below.refl w.heap.size w).alloc (Nat.le_refl _) _).grown g3 (by simp) (fun k hk => ((OwnI.made w 3).new hk).1)); clear o3 g3 l3)
    go_ret
    have ho : OwnI w3 3 w.heap.size (.slice a3 n k3) l := by simpa using HO.out
    obtain ⟨a4, c4, e4, i4, l4, m4⟩ := ho.slice
    simp only [Value.slice.injEq] at e4
    obtain ⟨rfl, _, rfl⟩ := e4
    exact ⟨a3, k3, (by rw [HL.out]; rfl), i4, ho.isI (by first | exact .inl rfl | exact .inr rfl), l4, m4, HB.out⟩
end Go.Proofs.Ytknjldmpcokgfaa
