/-
  The walks over the document's own count; two rows held against each other; the first numbers of a row; the chapter's example.
-/
import Derived.Test.YtigafpmhgogpmaaDoorBRef5
namespace Go.Proofs.YtigafpmhgogpmaaDoor
open Go.RowKit

theorem els_length (p : Nat → Bool) : (els p).length = cntN p 256 := by unfold els; rw [List.length_map, below_length]

set_option maxHeartbeats 1000000 in
theorem rlen_any (p : Nat → Bool) (w : World) :
    Calls Tryd.prog 29 #[.agg #[.int .u64 (wd p 0), .int .u64 (wd p 1), .int .u64 (wd p 2), .int .u64 (wd p 3)]] w fun e w' => e = .returned (.int .i64 (cntN p 256)) ∧ Below w.heap.size w w' := by
  have C := Lib.hid (fun w => rlist_any p w)
  have HE := Lib.hid (els_length p)
  have HB := Lib.hid ((Below.refl w.heap.size w).alloc (Nat.le_refl _) (.cells #[.int .u64 (wd p 0), .int .u64 (wd p 1), .int .u64 (wd p 2), .int .u64 (wd p 3)] 24))
  go_enter Tryd.func29, Tryd.ntmps29
  go_wp2_with (go_at_call 19; (refine (C.out _).mono ?_); rintro e w1 ⟨v, rfl, hown, hw1⟩; obtain ⟨ao, cap, rfl, _, _, _⟩ := owns_reads hown; have HB1 := Lib.hid (below_next hw1 HB.out (Nat.le_refl _)); clear hw1 hown)
  go_ret
  exact ⟨by rw [HE.out]; rfl, HB1.out⟩

set_option maxHeartbeats 1000000 in
theorem same_any (L : List Int) (hl : (L.length : Int) ≤ 9223372036854775807) (ao bo : Option Addr) (ca cb : Nat) (w : World) (ha : Reads w w.heap.size ao L) (hb : Reads w w.heap.size bo L) :
    Calls Tryd.prog 17 #[.slice ao L.length ca, .slice bo L.length cb] w fun e w' => e = .returned (.bool true) ∧ Below w.heap.size w w' := by
  have HA := Lib.hid ha
  have HB := Lib.hid hb
  clear ha hb
  go_enter Tryd.func17, Tryd.ntmps17
  go_wp2
  go_loopw [5] (fun i wr => ∃ k : Nat, k ≤ L.length ∧ i = .int .i64 k ∧ Hid (Below w.heap.size w wr)) (fun i _ => (L.length - intOf i).toNat)
  case atStart => exact ⟨0, by omega, rfl, Below.refl _ _⟩
  case round =>
    obtain ⟨k, hk, rfl, hw⟩ := hrel
    by_cases hlt : k < L.length
    · obtain ⟨b1, o1, rfl, _, h1⟩ : ∃ b off, ao = some ⟨b, off, none⟩ ∧ b < w.heap.size ∧ ∀ k, k < L.length → wr.cell? ⟨b, off + k, none⟩ = some (.int .i64 (L.getD k 0)) := by
        rcases HA.out.below hw.out with h | h
        · rw [h] at hlt; exact absurd hlt (Nat.not_lt_zero _)
        · exact h
      obtain ⟨b2, o2, rfl, _, h2⟩ : ∃ b off, bo = some ⟨b, off, none⟩ ∧ b < w.heap.size ∧ ∀ k, k < L.length → wr.cell? ⟨b, off + k, none⟩ = some (.int .i64 (L.getD k 0)) := by
        rcases HB.out.below hw.out with h | h
        · rw [h] at hlt; exact absurd hlt (Nat.not_lt_zero _)
        · exact h
      have c1 := h1 k hlt
      have c2 := h2 k hlt
      clear h1 h2
      generalize L.getD k 0 = x at c1 c2
      go_wp2
      go_region
      all_goals
        go_wp2
        go_roundw
        case rel => exact ⟨k + 1, by omega, by go_num, hw.out.drew⟩
        case measure => simp [intOf]; omega
    · obtain rfl : k = L.length := by omega
      go_wp2
      go_ret
      exact ⟨rfl, hw.out⟩

set_option maxHeartbeats 400000 in
theorem few_long (n cap : Nat) (ao : Option Addr) (hn : 20 < n) (hc : n ≤ cap) (hm : (cap : Int) ≤ 9223372036854775807) (w : World) :
    Calls Tryd.prog 10 #[.slice ao n cap] w fun e w' => e = .returned (.slice ao 20 cap) ∧ w = w' := by
  go_enter Tryd.func10, Tryd.ntmps10
  go_wp2
  go_ret
  exact ⟨rfl, rfl⟩
set_option maxHeartbeats 400000 in
theorem few_short (n cap : Nat) (ao : Option Addr) (hn : n ≤ 20) (w : World) :
    Calls Tryd.prog 10 #[.slice ao n cap] w fun e w' => e = .returned (.slice ao n cap) ∧ w = w' := by
  go_enter Tryd.func10, Tryd.ntmps10
  go_wp2
  go_ret
  exact ⟨rfl, rfl⟩

theorem i64_of_wf {x : Int} (h : (Lit.int .i64 x).wf = true) : -9223372036854775808 ≤ x ∧ x ≤ 9223372036854775807 := by
  simp [Lit.wf, IntKind.min, IntKind.max, IntKind.signed, IntKind.bits] at h
  omega

/-- What came in, cut to 20: a row of at most 20 numbers. -/
theorem few_any {w : World} {a : Option Addr} {len cap : Nat} {z : List Int} (h : IsRow .i64 w a len cap z) :
    ∃ L : List Int, L.length ≤ 20 ∧ (∀ x ∈ L, -9223372036854775808 ≤ x ∧ x ≤ 9223372036854775807) ∧ Reads w w.heap.size a L ∧ ∃ cap', L.length ≤ cap' ∧ (cap' : Int) ≤ 9223372036854775807 ∧
      ∀ w', Calls Tryd.prog 10 #[.slice a len cap] w' fun e w'' => e = .returned (.slice a L.length cap') ∧ w' = w'' := by
  obtain ⟨h1, h2, _, hc, hc2, h3⟩ := isrow_reads h
  by_cases hl : 20 < len
  · refine ⟨(z.take len).take 20, ?_, fun x hx => i64_of_wf (h3 x (List.mem_of_mem_take hx)), h1.take 20, cap, ?_, hc2, ?_⟩
    · rw [List.length_take]; omega
    · rw [List.length_take, h2]; omega
    · have : ((z.take len).take 20).length = 20 := by rw [List.length_take, h2]; omega
      rw [this]
      exact fun w' => few_long len cap a hl hc hc2 w'
  · refine ⟨z.take len, by omega, fun x hx => i64_of_wf (h3 x hx), h1, cap, by omega, hc2, ?_⟩
    rw [h2]
    exact fun w' => few_short len cap a (by omega) w'

theorem of_four (a b c d : Int) (hu : a ≤ 9223372036854775807 ∧ b ≤ 9223372036854775807 ∧ c ≤ 9223372036854775807 ∧ d ≤ 9223372036854775807) (g : Nat) (w : World) (hg : g < w.heap.size)
    (h0 : w.cell? ⟨g, 0, none⟩ = some (.int .i64 a)) (h1 : w.cell? ⟨g, 1, none⟩ = some (.int .i64 b)) (h2 : w.cell? ⟨g, 2, none⟩ = some (.int .i64 c)) (h3 : w.cell? ⟨g, 3, none⟩ = some (.int .i64 d)) :
    Calls Tryd.prog 20 #[.slice (some ⟨g, 0, none⟩) 4 4] w fun e w' => e = .returned (.agg #[.int .u64 (wd (ofN [a, b, c, d] 4) 0), .int .u64 (wd (ofN [a, b, c, d] 4) 1), .int .u64 (wd (ofN [a, b, c, d] 4) 2), .int .u64 (wd (ofN [a, b, c, d] 4) 3)]) ∧ Below w.heap.size w w' :=
  of_any [a, b, c, d] (by simp) (by intro x hx; simp at hx; rcases hx with rfl | rfl | rfl | rfl <;> omega) 4 (some ⟨g, 0, none⟩) w (.inr ⟨g, 0, rfl, hg, fun k hk => by
    rcases (show k = 0 ∨ k = 1 ∨ k = 2 ∨ k = 3 by simp at hk; omega) with rfl | rfl | rfl | rfl
    · exact h0
    · exact h1
    · exact h2
    · exact h3⟩)
theorem of_one (a : Int) (hu : a ≤ 9223372036854775807) (g : Nat) (w : World) (hg : g < w.heap.size) (h0 : w.cell? ⟨g, 0, none⟩ = some (.int .i64 a)) :
    Calls Tryd.prog 20 #[.slice (some ⟨g, 0, none⟩) 1 1] w fun e w' => e = .returned (.agg #[.int .u64 (wd (ofN [a] 1) 0), .int .u64 (wd (ofN [a] 1) 1), .int .u64 (wd (ofN [a] 1) 2), .int .u64 (wd (ofN [a] 1) 3)]) ∧ Below w.heap.size w w' :=
  of_any [a] (by simp) (by intro x hx; simp at hx; omega) 1 (some ⟨g, 0, none⟩) w (.inr ⟨g, 0, rfl, hg, fun k hk => by
    obtain rfl : k = 0 := by simp at hk; omega
    exact h0⟩)

theorem els_sample : els (ofN [5, 3, 300, 3] 4) = [3, 5] := by decide +kernel
theorem has_sample : hasP (ofN [3] 1) 3 = true := by decide +kernel

theorem reads_two (a b : Int) (g : Nat) (w : World) (hg : g < w.heap.size) (h0 : w.cell? ⟨g, 0, none⟩ = some (.int .i64 a)) (h1 : w.cell? ⟨g, 1, none⟩ = some (.int .i64 b)) : Reads w w.heap.size (some ⟨g, 0, none⟩) [a, b] :=
  .inr ⟨g, 0, rfl, hg, fun k hk => by
    rcases (show k = 0 ∨ k = 1 by simp at hk; omega) with rfl | rfl
    · exact h0
    · exact h1⟩

theorem reads_next {w w1 w2 : World} {B : Nat} {ao : Option Addr} {L : List Int} (hb : Below w1.heap.size w1 w2) (h : Reads w B ao L) (hB : B ≤ w.heap.size) (e : w1.heap = w.heap := by rfl) : Reads w2 w2.heap.size ao L := by
  rcases h with h | ⟨b, off, h1, h2, h3⟩
  · exact .inl h
  · refine .inr ⟨b, off, h1, ?_, fun k hk => ?_⟩
    · have := hb.size; rw [e] at this; omega
    · rw [hb.cell (p := ⟨b, off + k, none⟩) (by show b < _; rw [e]; omega), cell_same e]; exact h3 k hk

set_option maxRecDepth 100000 in
set_option maxHeartbeats 2000000 in
theorem awake_any (w : World) (hT : Tab w) :
    Calls Tryd.prog 9 #[] w fun e w' => e = .returned (.bool true) ∧ Below w.heap.size w w' := by
  have hg : 0 < w.heap.size := block_of_cell (hT 0 (by decide))
  have HT := Lib.hid (fun w' (h : Below w.heap.size w w') => hT.below h hg)
  have C1 := Lib.hid (fun g w => of_four 5 3 300 3 (by omega) g w)
  have C2 := Lib.hid (fun g w => of_one 3 (by omega) g w)
  have CL := Lib.hid (fun w => list_in (ofN [5, 3, 300, 3] 4) w)
  have CS : Hid (∀ ao bo ca cb w, Reads w w.heap.size ao [3, 5] → Reads w w.heap.size bo [3, 5] → Calls Tryd.prog 17 #[.slice ao 2 ca, .slice bo 2 cb] w fun e w' => e = .returned (.bool true) ∧ Below w.heap.size w w') := fun ao bo ca cb w => same_any [3, 5] (by simp) ao bo ca cb w
  have CH := Lib.hid (fun w => has_any (ofN [3] 1) 3 (by omega) w)
  have HE := Lib.hid els_sample
  rw [has_sample] at CH
  clear hT hg
  generalize ofN [5, 3, 300, 3] 4 = p at C1 CL HE
  generalize ofN [3] 1 = q at C2 CH
  go_enter Tryd.func9, Tryd.ntmps9
  go_wp2_with (first
    | (go_at_call 20; (refine (C1.out _ _ (by simp) (by simp) (by simp) (by simp) (by simp)).mono ?_); rintro e w1 ⟨rfl, hw1⟩; have HB1 := Lib.hid (below_next hw1 ((Below.refl w.heap.size w).alloc (Nat.le_refl _) _) (Nat.le_refl _)); clear hw1 C1)
    | (go_at_call 18; (refine (CL.out _ (HT.out _ HB1.out)).mono ?_); rintro e w2 ⟨v, rfl, hown, hw2⟩; rw [HE.out] at hown; obtain ⟨ao, cap, rfl, hr, _, _⟩ := owns_reads hown; have HR := Lib.hid hr; have HB2 := Lib.hid (below_next hw2 HB1.out (Nat.le_refl _)); clear hw2 hown hr)
    | (go_at_call 17; (refine (CS.out _ _ _ _ _ (HR.out.later (Nat.le_refl _) ((Below.refl _ _).alloc (Nat.le_refl _) _)) (reads_two 3 5 _ _ (by simp) (by simp) (by simp))).mono ?_); rintro e w3 ⟨rfl, hw3⟩; have HB3 := Lib.hid (below_next hw3 (HB2.out.alloc HB2.out.size _) (Nat.le_refl _)); clear hw3)
    | (go_at_call 20; (refine (C2.out _ _ (by simp) (by simp)).mono ?_); rintro e w4 ⟨rfl, hw4⟩; have HB4 := Lib.hid (below_next hw4 (HB3.out.alloc HB3.out.size _) (Nat.le_refl _)); clear hw4)
    | (go_at_call 11; (refine (CH.out _).mono ?_); rintro e w5 ⟨rfl, hw5⟩; have HB5 := Lib.hid (below_next hw5 HB4.out (Nat.le_refl _)); clear hw5))
  go_ret
  exact ⟨rfl, HB5.out⟩

end Go.Proofs.YtigafpmhgogpmaaDoor
