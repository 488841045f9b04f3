/-
  The walks over the document's own answers, the simple ones.
-/
import Derived.Test.YtlpkilfpjdggeaaLaws3
namespace Go.Proofs.Ytlpkilfpjdggeaa
open Go.RowKit

theorem bcell {W w1 : World} (hb : Below W.heap.size W w1) : (∀ b o, b < W.heap.size → w1.cell? ⟨b, o, none⟩ = W.cell? ⟨b, o, none⟩) ∧ (∀ b o, b < W.heap.size → w1.frozen? ⟨b, o, none⟩ = W.frozen? ⟨b, o, none⟩) :=
  ⟨fun b o h => hb.cell (p := ⟨b, o, none⟩) h, fun b o h => hb.frozen (p := ⟨b, o, none⟩) h⟩

/-- A cell that was there reads as it did. -/
theorem kept_cell {w w' : World} (hb : Below w.heap.size w w') {b o : Nat} {v : Value} (h : w.cell? ⟨b, o, none⟩ = some v) : w'.cell? ⟨b, o, none⟩ = some v := by
  rw [hb.cell (p := ⟨b, o, none⟩) (block_of_cell h)]; exact h
theorem kept_frozen {w w' : World} (hb : Below w.heap.size w w') {b o : Nat} {v : Value} (h : w.cell? ⟨b, o, none⟩ = some v) (hf : w.frozen? ⟨b, o, none⟩ = false) : w'.frozen? ⟨b, o, none⟩ = false := by
  rw [hb.frozen (p := ⟨b, o, none⟩) (block_of_cell h)]; exact hf

/-- Both fields of a block of two are written. -/
theorem two_set {w : World} {b : Nat} {x y : Value} (u v : Value) (h0 : w.cell? ⟨b, 0, none⟩ = some x) (h1 : w.cell? ⟨b, 1, none⟩ = some y) :
    ((w.setCell ⟨b, 0, none⟩ u).setCell ⟨b, 1, none⟩ v).cell? ⟨b, 0, none⟩ = some u ∧ ((w.setCell ⟨b, 0, none⟩ u).setCell ⟨b, 1, none⟩ v).cell? ⟨b, 1, none⟩ = some v ∧
    (∀ b' o, b' ≠ b → ((w.setCell ⟨b, 0, none⟩ u).setCell ⟨b, 1, none⟩ v).cell? ⟨b', o, none⟩ = w.cell? ⟨b', o, none⟩) ∧
    (∀ a, ((w.setCell ⟨b, 0, none⟩ u).setCell ⟨b, 1, none⟩ v).frozen? a = w.frozen? a) ∧
    ((w.setCell ⟨b, 0, none⟩ u).setCell ⟨b, 1, none⟩ v).heap.size = w.heap.size ∧
    ∀ B W, Below B W w → B ≤ b → Below B W ((w.setCell ⟨b, 0, none⟩ u).setCell ⟨b, 1, none⟩ v) := by
  refine ⟨?_, ?_, ?_, ?_, ?_, ?_⟩
  · rw [World.cell?_setCell_other _ _ _ _ (by simp), World.cell?_setCell_same _ _ _ h0]
  · have : (w.setCell ⟨b, 0, none⟩ u).cell? ⟨b, 1, none⟩ = some y := by rw [World.cell?_setCell_other _ _ _ _ (by simp)]; exact h1
    rw [World.cell?_setCell_same _ _ _ this]
  · intro b' o hne
    rw [World.cell?_setCell_far _ _ _ _ (by simp; omega), World.cell?_setCell_far _ _ _ _ (by simp; omega)]
  · intro a; simp
  · simp
  · intro B W h hB
    exact (h.setCell (p := ⟨b, 0, none⟩) hB u).setCell (p := ⟨b, 1, none⟩) hB v

set_option maxHeartbeats 400000 in
theorem radd_any (a b : Int) (ha : U64 a) (hb : U64 b) (w : World) :
    Calls Try.prog 12 #[.int .u64 a, .int .u64 b] w fun e w' => e = .returned (.agg #[.int .u64 (addN a b), .bool (addB a b)]) ∧ Below w.heap.size w w' := by
  have h0 := ha.1; have h1 := hb.1; have h2 := hb.2
  obtain ⟨c, e0, hc⟩ : ∃ c, IntKind.u64.wrap (18446744073709551615 - b) = c ∧ c = 18446744073709551615 - b := ⟨_, IntWalk.u64_in _ (by omega), rfl⟩
  unfold addN addB
  by_cases h : a + b < 18446744073709551616
  · simp only [h, if_true, decide_true]
    have hle : ¬ c < a := by omega
    have e1 : IntKind.u64.wrap (a + b) = a + b := IntWalk.u64_in _ (by omega)
    clear h h0 h1 h2 ha hb hc
    go_enter Try.func12, Try.ntmps12
    go_wp2
    exact bodyPost_ret (v := .agg #[.int .u64 (a + b), .bool true]) (by simp [results, Try.results12, go_sem]) rfl ⟨rfl, (Below.refl _ _).alloc (Nat.le_refl _) _⟩
  · simp only [h, if_false, decide_false]
    have hle : c < a := by omega
    clear h h0 h1 h2 ha hb hc
    go_enter Try.func12, Try.ntmps12
    go_wp2
    exact bodyPost_ret (v := .agg #[.int .u64 0, .bool false]) (by simp [results, Try.results12, go_sem]) rfl ⟨rfl, (Below.refl _ _).alloc (Nat.le_refl _) _⟩

set_option maxHeartbeats 400000 in
theorem rsub_any (a b : Int) (ha : U64 a) (hb : U64 b) (w : World) :
    Calls Try.prog 14 #[.int .u64 a, .int .u64 b] w fun e w' => e = .returned (.agg #[.int .u64 (subN a b), .bool (subB a b)]) ∧ Below w.heap.size w w' := by
  have h0 := ha.1; have h1 := hb.1; have h2 := ha.2
  unfold subN subB
  by_cases h : b ≤ a
  · simp only [h, if_true, decide_true]
    have e1 : IntKind.u64.wrap (a - b) = a - b := IntWalk.u64_in _ (by omega)
    clear h0 h1 h2 ha hb
    go_enter Try.func14, Try.ntmps14
    go_wp2
    exact bodyPost_ret (v := .agg #[.int .u64 (a - b), .bool true]) (by simp [results, Try.results14, go_sem]) rfl ⟨rfl, (Below.refl _ _).alloc (Nat.le_refl _) _⟩
  · simp only [h, if_false, decide_false]
    have hle : a < b := by omega
    clear h0 h1 h2 ha hb h
    go_enter Try.func14, Try.ntmps14
    go_wp2
    exact bodyPost_ret (v := .agg #[.int .u64 0, .bool false]) (by simp [results, Try.results14, go_sem]) rfl ⟨rfl, (Below.refl _ _).alloc (Nat.le_refl _) _⟩

set_option maxHeartbeats 400000 in
theorem rmul_any (a b : Int) (ha : U64 a) (hb : U64 b) (w : World) :
    Calls Try.prog 16 #[.int .u64 a, .int .u64 b] w fun e w' => e = .returned (.agg #[.int .u64 (mulN a b), .bool (mulB a b)]) ∧ Below w.heap.size w w' := by
  have h0 := ha.1; have h1 := hb.1; have h2 := ha.2; have h3 := hb.2
  unfold mulN mulB
  rcases (show b = 0 ∨ 0 < b by omega) with hz | hpos
  · subst hz
    simp only [Int.mul_zero, show (0 : Int) < 18446744073709551616 by omega, if_true, decide_true]
    clear h0 h1 h2 h3 ha hb
    go_enter Try.func16, Try.ntmps16
    go_wp2
    exact bodyPost_ret (v := .agg #[.int .u64 0, .bool true]) (by simp [results, Try.results16, go_sem]) rfl ⟨rfl, (Below.refl _ _).alloc (Nat.le_refl _) _⟩
  · have hn := Int.mul_nonneg h0 h1
    have hq : a * b < 18446744073709551616 ↔ a ≤ 18446744073709551615 / b := by
      rw [Int.le_ediv_iff_mul_le hpos]; omega
    obtain ⟨c, e0, hc⟩ : ∃ c, IntKind.u64.wrap ((18446744073709551615 : Int).tdiv b) = c ∧ c = 18446744073709551615 / b := ⟨_, IntWalk.u64_quo _ _ (by omega), rfl⟩
    have e0' : IntKind.u64.wrap ((18446744073709551615 : Int) / b) = c := by rw [← e0, IntWalk.u64_quo _ _ (by omega), IntWalk.u64_in _ ⟨Int.ediv_nonneg (by omega) h1, Int.ediv_le_self _ (by omega)⟩]
    have hz : (b == 0) = false := by rw [beq_eq_false_iff_ne]; omega
    by_cases h : a * b < 18446744073709551616
    · simp only [h, if_true, decide_true]
      have hle : ¬ c < a := by have := hq.1 h; omega
      obtain ⟨p, hp⟩ : ∃ p, a * b = p := ⟨_, rfl⟩
      have e1 : IntKind.u64.wrap (a * b) = p := by rw [← hp]; exact IntWalk.u64_in _ (by omega)
      rw [hp]
      clear hp h h0 h1 h2 h3 ha hb hc hq hn
      go_enter Try.func16, Try.ntmps16
      go_wp2
      exact bodyPost_ret (v := .agg #[.int .u64 p, .bool true]) (by simp [results, Try.results16, go_sem]) rfl ⟨rfl, (Below.refl _ _).alloc (Nat.le_refl _) _⟩
    · simp only [h, if_false, decide_false]
      have hle : c < a := by
        rcases (show c < a ∨ a ≤ c by omega) with g | g
        · exact g
        · exact absurd (hq.2 (by omega)) h
      clear h h0 h1 h2 h3 ha hb hc hq hn
      go_enter Try.func16, Try.ntmps16
      go_wp2
      exact bodyPost_ret (v := .agg #[.int .u64 0, .bool false]) (by simp [results, Try.results16, go_sem]) rfl ⟨rfl, (Below.refl _ _).alloc (Nat.le_refl _) _⟩

set_option maxHeartbeats 400000 in
theorem rceil_any (a b : Int) (ha : U64 a) (hb : U64 b) (w : World) :
    Calls Try.prog 18 #[.int .u64 a, .int .u64 b] w fun e w' => e = .returned (.agg #[.int .u64 (ceilN a b), .bool (ceilB b)]) ∧ Below w.heap.size w w' := by
  have h0 := ha.1; have h1 := hb.1; have h2 := ha.2; have h3 := hb.2
  unfold ceilN ceilB
  rcases (show b = 0 ∨ 0 < b by omega) with hz | hpos
  · subst hz
    simp only [ne_eq, not_true_eq_false, decide_false, if_true]
    clear h0 h1 h2 h3 ha hb
    go_enter Try.func18, Try.ntmps18
    go_wp2
    exact bodyPost_ret (v := .agg #[.int .u64 0, .bool false]) (by simp [results, Try.results18, go_sem]) rfl ⟨rfl, (Below.refl _ _).alloc (Nat.le_refl _) _⟩
  · have hz : ¬ b = 0 := by omega
    have hzb : (b == 0) = false := by rw [beq_eq_false_iff_ne]; omega
    simp only [ne_eq, hz, not_false_eq_true, decide_true, if_false]
    have m := Int.mul_ediv_add_emod a b
    have r0 := Int.emod_nonneg a (b := b) (by omega)
    have q0 := Int.ediv_nonneg h0 h1
    have q1 := Int.ediv_le_self b h0
    rw [Int.mul_comm] at m
    have dv := div_succ_le h0 hpos
    obtain ⟨c, e0, hc⟩ : ∃ c, IntKind.u64.wrap (a.tdiv b) = c ∧ c = a / b := ⟨_, IntWalk.u64_quo _ _ (by omega), rfl⟩
    have e0' : IntKind.u64.wrap (a / b) = c := by rw [hc]; exact IntWalk.u64_in _ (by omega)
    rw [← hc] at m q0 q1 dv ⊢
    obtain ⟨p, hp⟩ : ∃ p, c * b = p := ⟨_, rfl⟩
    have p0 : 0 ≤ p := by rw [← hp]; exact Int.mul_nonneg q0 h1
    have e2 : IntKind.u64.wrap (c * b) = p := by rw [hp]; rw [hp] at m; exact IntWalk.u64_in _ (by omega)
    rw [hp] at m
    by_cases h : a % b = 0
    · simp only [h, if_true]
      have e3 : ¬ p < a := by omega
      clear h h0 h1 h2 h3 ha hb hc m r0 q0 q1 dv hp p0 hz
      go_enter Try.func18, Try.ntmps18
      go_wp2
      exact bodyPost_ret (v := .agg #[.int .u64 c, .bool true]) (by simp [results, Try.results18, go_sem]) rfl ⟨rfl, (Below.refl _ _).alloc (Nat.le_refl _) _⟩
    · simp only [h, if_false]
      have e3 : p < a := by omega
      have e4 : IntKind.u64.wrap (c + 1) = c + 1 := by have := dv h; exact IntWalk.u64_in _ (by omega)
      clear h h0 h1 h2 h3 ha hb hc m r0 q0 q1 dv hp p0 hz
      go_enter Try.func18, Try.ntmps18
      go_wp2
      exact bodyPost_ret (v := .agg #[.int .u64 (c + 1), .bool true]) (by simp [results, Try.results18, go_sem]) rfl ⟨rfl, (Below.refl _ _).alloc (Nat.le_refl _) _⟩

set_option maxHeartbeats 400000 in
theorem rgcd_any (a b : Nat) (ha : (a : Int) ≤ 18446744073709551615) (hb : (b : Int) ≤ 18446744073709551615) (w : World) :
    Calls Try.prog 34 #[.int .u64 a, .int .u64 b] w fun e w' => e = .returned (.int .u64 (Nat.gcd a b)) ∧ w = w' := by
  go_enter Try.func34, Try.ntmps34
  go_wp2
  go_loop [0, 1] (fun u v => ∃ x y : Nat, (x : Int) ≤ 18446744073709551615 ∧ (y : Int) ≤ 18446744073709551615 ∧ Hid (Nat.gcd x y = Nat.gcd a b) ∧ u = .int .u64 x ∧ v = .int .u64 y) (fun _ v => (intOf v).toNat)
  case atStart => exact ⟨a, b, ha, hb, rfl, rfl, rfl⟩
  case round =>
    obtain ⟨x, y, hx, hy, hg, rfl, rfl⟩ := hrel
    by_cases h : y = 0
    · have h1 : ¬ (0 : Int) < (y : Int) := by omega
      have hg' : Hid (x = Nat.gcd a b) := by have := hg.out; rw [h, Nat.gcd_zero_right] at this; exact this
      clear h hg
      go_wp2
      go_ret
      exact ⟨by rw [← hg'.out]; rfl, rfl⟩
    · have hpos : (0 : Int) < y := by omega
      have h2 : ((y : Int) == 0) = false := by rw [beq_eq_false_iff_ne]; omega
      have h3 : (x : Int) % y < y := Int.emod_lt_of_pos _ hpos
      have h4 : 0 ≤ (x : Int) % y := Int.emod_nonneg _ (by omega)
      have hg' : Hid (Nat.gcd y (x % y) = Nat.gcd a b) := by
        have := hg.out
        rw [Nat.gcd_comm, Nat.gcd_rec] at this
        rw [Nat.gcd_comm]
        exact this
      clear hg
      go_wp2
      go_round
      case rel => exact ⟨y, x % y, hy, by omega, hg', rfl, by go_num⟩
      case measure => simp [intOf]; omega

end Go.Proofs.Ytlpkilfpjdggeaa
