/-
  The walks over the document's own whole part and rest.
-/
import Derived.Test.YtlpkilfpjdggeaaRef3
import Derived.Test.YtlpkilfpjdggeaaDiv
namespace Go.Proofs.Ytlpkilfpjdggeaa
open Go.RowKit

/-- A whole part and a rest, as the document's own answer has them. -/
def twoV (q r : Int) (ok : Bool) : Value := .agg #[.int .u64 q, .int .u64 r, .bool ok]

set_option maxHeartbeats 1000000 in
theorem rrest_low (q R r c : Int) (hR : 0 ≤ R) (hr : 0 ≤ r) (hc : U64 c) (h : R + r < c) (w : World) :
    Calls Try.prog 42 #[.agg #[.int .u64 q, .int .u64 R, .bool true], .int .u64 r, .int .u64 c] w fun e w' => e = .returned (.agg #[.int .u64 q, .int .u64 (R + r), .bool true]) ∧ Below w.heap.size w w' := by
  have h1 := hc.2
  have e1 : IntKind.u64.wrap (c - r) = c - r := IntWalk.u64_in _ (by omega)
  have e2 : IntKind.u64.wrap (R + r) = R + r := IntWalk.u64_in _ (by omega)
  have h2 : R < c - r := by omega
  clear hc h1
  go_enter Try.func42, Try.ntmps42
  go_wp2
  exact bodyPost_ret (v := .agg #[.int .u64 q, .int .u64 (R + r), .bool true]) (by simp [results, Try.results42, go_sem]) rfl ⟨rfl, ((Below.refl _ _).alloc (Nat.le_refl _) _).alloc (by simp) _⟩

set_option maxHeartbeats 1000000 in
theorem rrest_high (q R r c : Int) (hq : U64 q) (hR : 0 ≤ R) (hRc : R < c) (hrc : r < c) (hc : U64 c) (h : ¬ R + r < c) (w : World) :
    Calls Try.prog 42 #[.agg #[.int .u64 q, .int .u64 R, .bool true], .int .u64 r, .int .u64 c] w fun e w' =>
      e = .returned (if addB q 1 = true then .agg #[.int .u64 (addN q 1), .int .u64 (R + r - c), .bool true] else .agg #[.int .u64 0, .int .u64 0, .bool false]) ∧ Below w.heap.size w w' := by
  have h1 := hc.2
  obtain ⟨d, e1, e1'⟩ : ∃ d, IntKind.u64.wrap (c - r) = d ∧ d = c - r := ⟨_, IntWalk.u64_in _ (by omega), rfl⟩
  obtain ⟨t, e2, e2'⟩ : ∃ t, IntKind.u64.wrap (R - d) = t ∧ t = R + r - c := ⟨_, IntWalk.u64_in _ (by omega), by omega⟩
  have h2 : ¬ R < d := by omega
  have A := radd_any q 1 hq ⟨by omega, by omega⟩
  rw [← e2']
  by_cases hb : addB q 1 = true
  · rw [if_pos hb]
    rw [hb] at A
    generalize addN q 1 = s at A ⊢
    have A := Lib.hid A
    clear hq hc h1 h e1' e2' hb hR hRc hrc
    go_enter Try.func42, Try.ntmps42
    go_wp2_with (go_at_call 12; (refine (A.out _).mono ?_); rintro e w' ⟨rfl, hw⟩; have hz0 : w.heap.size < w'.heap.size := (by have := hw.size; simp at this; omega); have hz1 : w.heap.size + 1 < w'.heap.size := (by have := hw.size; simp at this; omega); have d0 : w'.cell? ⟨w.heap.size, 0, none⟩ = some (.int .u64 q) := kept_cell hw (by simp); have d1 : w'.cell? ⟨w.heap.size, 1, none⟩ = some (.int .u64 t) := kept_cell hw (by simp); have d2 : w'.cell? ⟨w.heap.size, 2, none⟩ = some (.bool true) := kept_cell hw (by simp); have f0 : w'.frozen? ⟨w.heap.size, 0, none⟩ = false := kept_frozen hw (v := .int .u64 q) (by simp) (by simp); have g0 : w'.cell? ⟨w.heap.size + 1, 0, none⟩ = some (.int .u64 0) := kept_cell hw (by simp); have g1 : w'.cell? ⟨w.heap.size + 1, 1, none⟩ = some (.int .u64 0) := kept_cell hw (by simp); have g2 : w'.cell? ⟨w.heap.size + 1, 2, none⟩ = some (.bool false) := kept_cell hw (by simp); have k0 : w'.frozen? ⟨w.heap.size + 1, 0, none⟩ = false := kept_frozen hw (v := .int .u64 0) (by simp) (by simp); have k1 : w'.frozen? ⟨w.heap.size + 1, 1, none⟩ = false := kept_frozen hw (v := .int .u64 0) (by simp) (by simp); have k2 : w'.frozen? ⟨w.heap.size + 1, 2, none⟩ = false := kept_frozen hw (v := .bool false) (by simp) (by simp))
    have hb2 : Below w.heap.size w w' := (((Below.refl _ _).alloc (Nat.le_refl _) _).alloc (by simp) _).trans (hw.mono (by simp; omega))
    refine bodyPost_ret (v := .agg #[.int .u64 s, .int .u64 t, .bool true]) (by simp [results, Try.results42, go_sem, *]) rfl ⟨rfl, ?_⟩
    repeat (first | exact hb2 | refine Below.setCell ?_ (by simp) _ | refine Below.alloc ?_ (by simp; omega) _)
  · rw [if_neg hb]
    rw [show addB q 1 = false by simpa using hb] at A
    generalize addN q 1 = s at A
    have A := Lib.hid A
    clear hq hc h1 h e1' e2' hb hR hRc hrc
    go_enter Try.func42, Try.ntmps42
    go_wp2_with (go_at_call 12; (refine (A.out _).mono ?_); rintro e w' ⟨rfl, hw⟩; have hz0 : w.heap.size < w'.heap.size := (by have := hw.size; simp at this; omega); have hz1 : w.heap.size + 1 < w'.heap.size := (by have := hw.size; simp at this; omega); have d0 : w'.cell? ⟨w.heap.size, 0, none⟩ = some (.int .u64 q) := kept_cell hw (by simp); have d1 : w'.cell? ⟨w.heap.size, 1, none⟩ = some (.int .u64 t) := kept_cell hw (by simp); have d2 : w'.cell? ⟨w.heap.size, 2, none⟩ = some (.bool true) := kept_cell hw (by simp); have f0 : w'.frozen? ⟨w.heap.size, 0, none⟩ = false := kept_frozen hw (v := .int .u64 q) (by simp) (by simp); have g0 : w'.cell? ⟨w.heap.size + 1, 0, none⟩ = some (.int .u64 0) := kept_cell hw (by simp); have g1 : w'.cell? ⟨w.heap.size + 1, 1, none⟩ = some (.int .u64 0) := kept_cell hw (by simp); have g2 : w'.cell? ⟨w.heap.size + 1, 2, none⟩ = some (.bool false) := kept_cell hw (by simp); have k0 : w'.frozen? ⟨w.heap.size + 1, 0, none⟩ = false := kept_frozen hw (v := .int .u64 0) (by simp) (by simp); have k1 : w'.frozen? ⟨w.heap.size + 1, 1, none⟩ = false := kept_frozen hw (v := .int .u64 0) (by simp) (by simp); have k2 : w'.frozen? ⟨w.heap.size + 1, 2, none⟩ = false := kept_frozen hw (v := .bool false) (by simp) (by simp))
    have hb2 : Below w.heap.size w w' := (((Below.refl _ _).alloc (Nat.le_refl _) _).alloc (by simp) _).trans (hw.mono (by simp; omega))
    refine bodyPost_ret (v := .agg #[.int .u64 0, .int .u64 0, .bool false]) (by simp [results, Try.results42, go_sem, *]) rfl ⟨rfl, ?_⟩
    repeat (first | exact hb2 | refine Below.setCell ?_ (by simp) _ | refine Below.alloc ?_ (by simp; omega) _)

/-- The document's whole part and rest of n by c. -/
def tQ (n c : Int) : Int := if n / c < 18446744073709551616 then n / c else 0
def tR (n c : Int) : Int := if n / c < 18446744073709551616 then n % c else 0
def tB (n c : Int) : Bool := decide (n / c < 18446744073709551616)

theorem t_yes {n c : Int} (h : n / c < 18446744073709551616) : tQ n c = n / c ∧ tR n c = n % c ∧ tB n c = true := by
  unfold tQ tR tB; rw [if_pos h, if_pos h]; exact ⟨rfl, rfl, decide_eq_true h⟩
theorem t_no {n c : Int} (h : ¬ n / c < 18446744073709551616) : tQ n c = 0 ∧ tR n c = 0 ∧ tB n c = false := by
  unfold tQ tR tB; rw [if_neg h, if_neg h]; exact ⟨rfl, rfl, decide_eq_false h⟩
theorem div_of {n c q r : Int} (h0 : 0 ≤ r) (h1 : r < c) (h : n = q * c + r) : n / c = q ∧ n % c = r := by
  have hq : n / c = q := digit_of (by omega) (by omega) (by rw [Int.add_mul, Int.one_mul]; omega)
  refine ⟨hq, ?_⟩
  rw [Int.emod_def, hq, Int.mul_comm]; omega

theorem rrest_any (q R r c : Int) (hq : U64 q) (hR : 0 ≤ R) (hRc : R < c) (hr : 0 ≤ r) (hrc : r < c) (hc : U64 c) (n : Int) (hn : n = q * c + R + r) (w : World) :
    Calls Try.prog 42 #[.agg #[.int .u64 q, .int .u64 R, .bool true], .int .u64 r, .int .u64 c] w fun e w' =>
      e = .returned (.agg #[.int .u64 (tQ n c), .int .u64 (tR n c), .bool (tB n c)]) ∧ Below w.heap.size w w' := by
  have hq2 := hq.2
  by_cases h : R + r < c
  · obtain ⟨d1, d2⟩ := div_of (n := n) (c := c) (q := q) (r := R + r) (by omega) h (by omega)
    obtain ⟨t1, t2, t3⟩ := t_yes (n := n) (c := c) (by omega)
    rw [t1, t2, t3, d1, d2]
    exact rrest_low q R r c hR hr hc h w
  · obtain ⟨d1, d2⟩ := div_of (n := n) (c := c) (q := q + 1) (r := R + r - c) (by omega) (by omega) (by rw [Int.add_mul, Int.one_mul]; omega)
    have H := rrest_high q R r c hq hR hRc hrc hc h w
    unfold addB addN at H
    by_cases hb : q + 1 < 18446744073709551616
    · obtain ⟨t1, t2, t3⟩ := t_yes (n := n) (c := c) (by omega)
      rw [t1, t2, t3, d1, d2]
      simpa only [hb, decide_true, if_true] using H
    · obtain ⟨t1, t2, t3⟩ := t_no (n := n) (c := c) (by omega)
      rw [t1, t2, t3]
      simpa only [hb, decide_false, if_false, Bool.false_eq_true] using H

set_option maxHeartbeats 1000000 in
theorem rtwice_any (n c : Int) (hn : 0 ≤ n) (hc : U64 c) (hc0 : 0 < c) (h : n / c < 18446744073709551616) (w : World) :
    Calls Try.prog 36 #[.agg #[.int .u64 (n / c), .int .u64 (n % c), .bool true], .int .u64 c] w fun e w' =>
      e = .returned (.agg #[.int .u64 (tQ (2 * n) c), .int .u64 (tR (2 * n) c), .bool (tB (2 * n) c)]) ∧ Below w.heap.size w w' := by
  have hq0 : 0 ≤ n / c := Int.ediv_nonneg hn (by omega)
  have hr0 := Int.emod_nonneg n (b := c) (by omega)
  have hr1 := Int.emod_lt_of_pos n hc0
  have hdm := Int.mul_ediv_add_emod n c
  rw [Int.mul_comm] at hdm
  generalize n / c = q at h hq0 hdm ⊢
  generalize n % c = R at hr0 hr1 hdm ⊢
  have M := rmul_any q 2 ⟨hq0, h⟩ ⟨by omega, by omega⟩
  have e2 : 2 * n = q * 2 * c + R + R := by rw [Int.mul_right_comm]; omega
  by_cases hb : q * 2 < 18446744073709551616
  · have m1 : mulN q 2 = q * 2 := if_pos hb
    have m2 : mulB q 2 = true := decide_eq_true hb
    rw [m1, m2] at M
    have T := rrest_any (q * 2) R R c ⟨by omega, hb⟩ hr0 hr1 hr0 hr1 hc (2 * n) e2
    generalize tQ (2 * n) c = u1 at T ⊢
    generalize tR (2 * n) c = u2 at T ⊢
    generalize tB (2 * n) c = u3 at T ⊢
    generalize q * 2 = p at M T
    have M := Lib.hid M
    have T := Lib.hid T
    clear hn hc hc0 h hq0 hr0 hr1 hdm e2 hb m1 m2
    go_enter Try.func36, Try.ntmps36
    go_wp2_with (first | (go_at_call 16; (refine (M.out _).mono ?_); rintro e w1 ⟨rfl, hw⟩; have hzw10 : w.heap.size < w1.heap.size := (by have := hw.size; simp at this; omega); have hzw11 : w.heap.size + 1 < w1.heap.size := (by have := hw.size; simp at this; omega); have a0w1 : w1.cell? ⟨w.heap.size, 0, none⟩ = some (.int .u64 q) := kept_cell hw (by simp [go_sem, *]); have a1w1 : w1.cell? ⟨w.heap.size, 1, none⟩ = some (.int .u64 R) := kept_cell hw (by simp [go_sem, *]); have a2w1 : w1.cell? ⟨w.heap.size, 2, none⟩ = some (.bool true) := kept_cell hw (by simp [go_sem, *]); have b0w1 : w1.cell? ⟨w.heap.size + 1, 0, none⟩ = some (.int .u64 0) := kept_cell hw (by simp [go_sem, *]); have b0fw1 : w1.frozen? ⟨w.heap.size + 1, 0, none⟩ = false := kept_frozen hw (v := .int .u64 0) (by simp [go_sem, *]) (by simp [go_sem, *]); have b1w1 : w1.cell? ⟨w.heap.size + 1, 1, none⟩ = some (.int .u64 0) := kept_cell hw (by simp [go_sem, *]); have b1fw1 : w1.frozen? ⟨w.heap.size + 1, 1, none⟩ = false := kept_frozen hw (v := .int .u64 0) (by simp [go_sem, *]) (by simp [go_sem, *]); have b2w1 : w1.cell? ⟨w.heap.size + 1, 2, none⟩ = some (.bool false) := kept_cell hw (by simp [go_sem, *]); have b2fw1 : w1.frozen? ⟨w.heap.size + 1, 2, none⟩ = false := kept_frozen hw (v := .bool false) (by simp [go_sem, *]) (by simp [go_sem, *])) | (go_at_call 42; (refine (T.out _).mono ?_); rintro e w2 ⟨rfl, hv⟩; have hzw20 : w.heap.size < w2.heap.size := (by have := hv.size; simp at this; omega); have hzw21 : w.heap.size + 1 < w2.heap.size := (by have := hv.size; simp at this; omega); have b0w2 : w2.cell? ⟨w.heap.size + 1, 0, none⟩ = some (.int .u64 0) := kept_cell hv (by simp [go_sem, *]); have b0fw2 : w2.frozen? ⟨w.heap.size + 1, 0, none⟩ = false := kept_frozen hv (v := .int .u64 0) (by simp [go_sem, *]) (by simp [go_sem, *]); have b1w2 : w2.cell? ⟨w.heap.size + 1, 1, none⟩ = some (.int .u64 0) := kept_cell hv (by simp [go_sem, *]); have b1fw2 : w2.frozen? ⟨w.heap.size + 1, 1, none⟩ = false := kept_frozen hv (v := .int .u64 0) (by simp [go_sem, *]) (by simp [go_sem, *]); have b2w2 : w2.cell? ⟨w.heap.size + 1, 2, none⟩ = some (.bool false) := kept_cell hv (by simp [go_sem, *]); have b2fw2 : w2.frozen? ⟨w.heap.size + 1, 2, none⟩ = false := kept_frozen hv (v := .bool false) (by simp [go_sem, *]) (by simp [go_sem, *])))
    have hb1 : Below w.heap.size w w1 := (((Below.refl _ _).alloc (Nat.le_refl _) _).alloc (by simp) _).trans (hw.mono (by simp; omega))
    have hb2 : Below w.heap.size w w2 := ((hb1.alloc (by omega) _).alloc (by simp; omega) _).trans (hv.mono (by simp; omega))
    refine bodyPost_ret (v := .agg #[.int .u64 u1, .int .u64 u2, .bool u3]) (by simp [results, Try.results36, go_sem, *]) rfl ⟨rfl, ?_⟩
    repeat (first | exact hb2 | refine Below.setCell ?_ (by simp) _ | refine Below.alloc ?_ (by simp; omega) _)
  · have m2 : mulB q 2 = false := decide_eq_false hb
    rw [m2] at M
    obtain ⟨t1, t2, t3⟩ := t_no (n := 2 * n) (c := c) (by
      intro hlt
      have := (Int.ediv_lt_iff_lt_mul hc0).1 hlt
      rw [e2] at this
      have h5 : 18446744073709551616 * c ≤ q * 2 * c := Int.mul_le_mul_of_nonneg_right (by omega) (by omega)
      omega)
    rw [t1, t2, t3]
    generalize mulN q 2 = p at M
    have M := Lib.hid M
    clear hn hc hc0 h hq0 hr0 hr1 hdm e2 hb m2 t1 t2 t3
    go_enter Try.func36, Try.ntmps36
    go_wp2_with (go_at_call 16; (refine (M.out _).mono ?_); rintro e w1 ⟨rfl, hw⟩; have hzw10 : w.heap.size < w1.heap.size := (by have := hw.size; simp at this; omega); have hzw11 : w.heap.size + 1 < w1.heap.size := (by have := hw.size; simp at this; omega); have a0w1 : w1.cell? ⟨w.heap.size, 0, none⟩ = some (.int .u64 q) := kept_cell hw (by simp [go_sem, *]); have a1w1 : w1.cell? ⟨w.heap.size, 1, none⟩ = some (.int .u64 R) := kept_cell hw (by simp [go_sem, *]); have a2w1 : w1.cell? ⟨w.heap.size, 2, none⟩ = some (.bool true) := kept_cell hw (by simp [go_sem, *]); have b0w1 : w1.cell? ⟨w.heap.size + 1, 0, none⟩ = some (.int .u64 0) := kept_cell hw (by simp [go_sem, *]); have b0fw1 : w1.frozen? ⟨w.heap.size + 1, 0, none⟩ = false := kept_frozen hw (v := .int .u64 0) (by simp [go_sem, *]) (by simp [go_sem, *]); have b1w1 : w1.cell? ⟨w.heap.size + 1, 1, none⟩ = some (.int .u64 0) := kept_cell hw (by simp [go_sem, *]); have b1fw1 : w1.frozen? ⟨w.heap.size + 1, 1, none⟩ = false := kept_frozen hw (v := .int .u64 0) (by simp [go_sem, *]) (by simp [go_sem, *]); have b2w1 : w1.cell? ⟨w.heap.size + 1, 2, none⟩ = some (.bool false) := kept_cell hw (by simp [go_sem, *]); have b2fw1 : w1.frozen? ⟨w.heap.size + 1, 2, none⟩ = false := kept_frozen hw (v := .bool false) (by simp [go_sem, *]) (by simp [go_sem, *]))
    have hb1 : Below w.heap.size w w1 := (((Below.refl _ _).alloc (Nat.le_refl _) _).alloc (by simp) _).trans (hw.mono (by simp; omega))
    refine bodyPost_ret (v := .agg #[.int .u64 0, .int .u64 0, .bool false]) (by simp [results, Try.results36, go_sem, *]) rfl ⟨rfl, ?_⟩
    repeat (first | exact hb1 | refine Below.setCell ?_ (by simp) _ | refine Below.alloc ?_ (by simp; omega) _)

set_option maxHeartbeats 2000000 in
theorem rmore_any (n a c : Int) (hn : 0 ≤ n) (ha : U64 a) (hc : U64 c) (hc0 : 0 < c) (h : n / c < 18446744073709551616) (w : World) :
    Calls Try.prog 37 #[.agg #[.int .u64 (n / c), .int .u64 (n % c), .bool true], .int .u64 a, .int .u64 c] w fun e w' =>
      e = .returned (.agg #[.int .u64 (tQ (n + a) c), .int .u64 (tR (n + a) c), .bool (tB (n + a) c)]) ∧ Below w.heap.size w w' := by
  have hq0 : 0 ≤ n / c := Int.ediv_nonneg hn (by omega)
  have hr0 := Int.emod_nonneg n (b := c) (by omega)
  have hr1 := Int.emod_lt_of_pos n hc0
  have hdm := Int.mul_ediv_add_emod n c
  have ga := ha.1; have gb := ha.2
  have hp0 : 0 ≤ a / c := Int.ediv_nonneg ga (by omega)
  have hp1 : a / c ≤ a := Int.ediv_le_self c ga
  have hs0 := Int.emod_nonneg a (b := c) (by omega)
  have hs1 := Int.emod_lt_of_pos a hc0
  have hda := Int.mul_ediv_add_emod a c
  rw [Int.mul_comm] at hdm hda
  have x1 : IntKind.u64.wrap (a.tdiv c) = a / c := IntWalk.u64_quo _ _ (by omega)
  have x2 : IntKind.u64.wrap (a / c) = a / c := IntWalk.u64_in _ (by omega)
  have x3 : a.tmod c = a % c := IntWalk.rem_in _ _ ga
  have x4 : IntKind.u64.wrap (a % c) = a % c := IntWalk.u64_in _ (by have := hc.2; omega)
  have hcz : (c == 0) = false := by rw [beq_eq_false_iff_ne]; omega
  have hcz2 : ¬ c = 0 := by omega
  generalize n / c = q at h hq0 hdm ⊢
  generalize n % c = R at hr0 hr1 hdm ⊢
  have M := radd_any q (a / c) ⟨hq0, h⟩ ⟨hp0, by omega⟩
  have e2 : n + a = (q + a / c) * c + R + a % c := by rw [Int.add_mul]; omega
  by_cases hb : q + a / c < 18446744073709551616
  · have m1 : addN q (a / c) = q + a / c := if_pos hb
    have m2 : addB q (a / c) = true := decide_eq_true hb
    rw [m1, m2] at M
    have T := rrest_any (q + a / c) R (a % c) c ⟨by omega, hb⟩ hr0 hr1 hs0 hs1 hc (n + a) e2
    generalize tQ (n + a) c = u1 at T ⊢
    generalize tR (n + a) c = u2 at T ⊢
    generalize tB (n + a) c = u3 at T ⊢
    generalize q + a / c = p at M T
    have M := Lib.hid M
    have T := Lib.hid T
    clear hn hc h hq0 hr0 hr1 hdm e2 hb m1 m2 hp0 hp1 hs0 hs1 hda ha gb
    go_enter Try.func37, Try.ntmps37
    go_upto_region 1 with (fail)
    go_cut [7] from 8 to 13 (fun v wc' => ∃ nb, v = .pointer (some ⟨nb, 0, none⟩) ∧ w.heap.size + 1 < nb ∧ nb < wc'.heap.size ∧ wc'.cell? ⟨nb, 0, none⟩ = some (.int .u64 p) ∧ wc'.cell? ⟨nb, 1, none⟩ = some (.bool true) ∧
      wc'.cell? ⟨w.heap.size, 1, none⟩ = some (.int .u64 R) ∧ wc'.cell? ⟨w.heap.size + 1, 0, none⟩ = some (.int .u64 0) ∧ wc'.cell? ⟨w.heap.size + 1, 1, none⟩ = some (.int .u64 0) ∧ wc'.cell? ⟨w.heap.size + 1, 2, none⟩ = some (.bool false) ∧
      wc'.frozen? ⟨w.heap.size + 1, 0, none⟩ = false ∧ wc'.frozen? ⟨w.heap.size + 1, 1, none⟩ = false ∧ wc'.frozen? ⟨w.heap.size + 1, 2, none⟩ = false ∧ Below w.heap.size w wc')
    case first =>
      go_region_with (go_at_call 12; (refine (M.out _).mono ?_); rintro e w1 ⟨rfl, hw⟩; have hzw10 : w.heap.size < w1.heap.size := (by have := hw.size; simp at this; omega); have hzw11 : w.heap.size + 1 < w1.heap.size := (by have := hw.size; simp at this; omega); have a0w1 : w1.cell? ⟨w.heap.size, 0, none⟩ = some (.int .u64 q) := kept_cell hw (by simp [go_sem, *]); have a1w1 : w1.cell? ⟨w.heap.size, 1, none⟩ = some (.int .u64 R) := kept_cell hw (by simp [go_sem, *]); have a2w1 : w1.cell? ⟨w.heap.size, 2, none⟩ = some (.bool true) := kept_cell hw (by simp [go_sem, *]); have b0w1 : w1.cell? ⟨w.heap.size + 1, 0, none⟩ = some (.int .u64 0) := kept_cell hw (by simp [go_sem, *]); have b0fw1 : w1.frozen? ⟨w.heap.size + 1, 0, none⟩ = false := kept_frozen hw (v := .int .u64 0) (by simp [go_sem, *]) (by simp [go_sem, *]); have b1w1 : w1.cell? ⟨w.heap.size + 1, 1, none⟩ = some (.int .u64 0) := kept_cell hw (by simp [go_sem, *]); have b1fw1 : w1.frozen? ⟨w.heap.size + 1, 1, none⟩ = false := kept_frozen hw (v := .int .u64 0) (by simp [go_sem, *]) (by simp [go_sem, *]); have b2w1 : w1.cell? ⟨w.heap.size + 1, 2, none⟩ = some (.bool false) := kept_cell hw (by simp [go_sem, *]); have b2fw1 : w1.frozen? ⟨w.heap.size + 1, 2, none⟩ = false := kept_frozen hw (v := .bool false) (by simp [go_sem, *]) (by simp [go_sem, *]); try (have hz9 : w.heap.size + 1 + 1 < w1.heap.size := (by have := hw.size; simp at this; omega)); try (have n0 : w1.cell? ⟨w.heap.size + 1 + 1, 0, none⟩ = some (.int .u64 0) := kept_cell hw (by simp [go_sem, *])); try (have n0f : w1.frozen? ⟨w.heap.size + 1 + 1, 0, none⟩ = false := kept_frozen hw (v := .int .u64 0) (by simp [go_sem, *]) (by simp [go_sem, *])); try (have n1 : w1.cell? ⟨w.heap.size + 1 + 1, 1, none⟩ = some (.bool false) := kept_cell hw (by simp [go_sem, *])); try (have n1f : w1.frozen? ⟨w.heap.size + 1 + 1, 1, none⟩ = false := kept_frozen hw (v := .bool false) (by simp [go_sem, *]) (by simp [go_sem, *])))
      all_goals
        go_wp2_with (fail)
        go_meet
        case rel =>
          have hb1 : Below w.heap.size w w1 := (by first | exact ((((Below.refl _ _).alloc (Nat.le_refl _) _).alloc (by simp) _).drew).trans (hw.mono (by simp; omega)) | exact (((((Below.refl _ _).alloc (Nat.le_refl _) _).alloc (by simp) _).alloc (by simp; omega) _).drew).trans (hw.mono (by simp; omega)))
          refine ⟨_, rfl, ?_, ?_, ?_, ?_, ?_, ?_, ?_, ?_, ?_, ?_, ?_, ?_⟩
          · omega
          · first | (simp; done) | (simp; omega)
          all_goals (first | (simp [go_sem, *]; done) | (repeat (first | exact hb1 | refine Below.setCell ?_ (by first | omega | (simp; done) | (simp; omega)) _ | refine Below.alloc ?_ (by first | omega | (simp; done) | (simp; omega)) _)))
    case rest =>
      obtain ⟨nb, rfl, hn1, hn2, c0, c1, c2, g0, g1, g2, k0, k1, k2, hbw⟩ := hcut
      go_wp2_with (fail)
      go_still_tail 9, (by kernel_rfl)
      go_wp2_with (go_at_call 42; (refine (T.out _).mono ?_); rintro e w2 ⟨rfl, hv⟩; have r0 := kept_cell hv g0; have rf0 := kept_frozen hv g0 k0; have r1 := kept_cell hv g1; have rf1 := kept_frozen hv g1 k1; have r2 := kept_cell hv g2; have rf2 := kept_frozen hv g2 k2)
      have hb2 : Below w.heap.size w w2 := (hbw.drew).trans (hv.mono hbw.size)
      refine bodyPost_ret (v := .agg #[.int .u64 u1, .int .u64 u2, .bool u3]) (by simp [results, Try.results37, go_sem, *]) rfl ⟨rfl, ?_⟩
      repeat (first | exact hb2 | refine Below.setCell ?_ (by simp) _ | refine Below.alloc ?_ (by simp; omega) _)
  · have m2 : addB q (a / c) = false := decide_eq_false hb
    rw [m2] at M
    obtain ⟨t1, t2, t3⟩ := t_no (n := n + a) (c := c) (by
      intro hlt
      have := (Int.ediv_lt_iff_lt_mul hc0).1 hlt
      rw [e2] at this
      have h5 : 18446744073709551616 * c ≤ (q + a / c) * c := Int.mul_le_mul_of_nonneg_right (by omega) (by omega)
      omega)
    rw [t1, t2, t3]
    generalize addN q (a / c) = p at M
    have M := Lib.hid M
    clear hn hc h hq0 hr0 hr1 hdm e2 hb m2 hp0 hp1 hs0 hs1 hda gb t1 t2 t3
    go_enter Try.func37, Try.ntmps37
    go_upto_region 1 with (fail)
    go_cut [7] from 8 to 13 (fun v wc' => ∃ nb, v = .pointer (some ⟨nb, 0, none⟩) ∧ w.heap.size + 1 < nb ∧ nb < wc'.heap.size ∧ wc'.cell? ⟨nb, 0, none⟩ = some (.int .u64 p) ∧ wc'.cell? ⟨nb, 1, none⟩ = some (.bool false) ∧
      wc'.cell? ⟨w.heap.size, 1, none⟩ = some (.int .u64 R) ∧ wc'.cell? ⟨w.heap.size + 1, 0, none⟩ = some (.int .u64 0) ∧ wc'.cell? ⟨w.heap.size + 1, 1, none⟩ = some (.int .u64 0) ∧ wc'.cell? ⟨w.heap.size + 1, 2, none⟩ = some (.bool false) ∧
      wc'.frozen? ⟨w.heap.size + 1, 0, none⟩ = false ∧ wc'.frozen? ⟨w.heap.size + 1, 1, none⟩ = false ∧ wc'.frozen? ⟨w.heap.size + 1, 2, none⟩ = false ∧ Below w.heap.size w wc')
    case first =>
      go_region_with (go_at_call 12; (refine (M.out _).mono ?_); rintro e w1 ⟨rfl, hw⟩; have hzw10 : w.heap.size < w1.heap.size := (by have := hw.size; simp at this; omega); have hzw11 : w.heap.size + 1 < w1.heap.size := (by have := hw.size; simp at this; omega); have a0w1 : w1.cell? ⟨w.heap.size, 0, none⟩ = some (.int .u64 q) := kept_cell hw (by simp [go_sem, *]); have a1w1 : w1.cell? ⟨w.heap.size, 1, none⟩ = some (.int .u64 R) := kept_cell hw (by simp [go_sem, *]); have a2w1 : w1.cell? ⟨w.heap.size, 2, none⟩ = some (.bool true) := kept_cell hw (by simp [go_sem, *]); have b0w1 : w1.cell? ⟨w.heap.size + 1, 0, none⟩ = some (.int .u64 0) := kept_cell hw (by simp [go_sem, *]); have b0fw1 : w1.frozen? ⟨w.heap.size + 1, 0, none⟩ = false := kept_frozen hw (v := .int .u64 0) (by simp [go_sem, *]) (by simp [go_sem, *]); have b1w1 : w1.cell? ⟨w.heap.size + 1, 1, none⟩ = some (.int .u64 0) := kept_cell hw (by simp [go_sem, *]); have b1fw1 : w1.frozen? ⟨w.heap.size + 1, 1, none⟩ = false := kept_frozen hw (v := .int .u64 0) (by simp [go_sem, *]) (by simp [go_sem, *]); have b2w1 : w1.cell? ⟨w.heap.size + 1, 2, none⟩ = some (.bool false) := kept_cell hw (by simp [go_sem, *]); have b2fw1 : w1.frozen? ⟨w.heap.size + 1, 2, none⟩ = false := kept_frozen hw (v := .bool false) (by simp [go_sem, *]) (by simp [go_sem, *]); try (have hz9 : w.heap.size + 1 + 1 < w1.heap.size := (by have := hw.size; simp at this; omega)); try (have n0 : w1.cell? ⟨w.heap.size + 1 + 1, 0, none⟩ = some (.int .u64 0) := kept_cell hw (by simp [go_sem, *])); try (have n0f : w1.frozen? ⟨w.heap.size + 1 + 1, 0, none⟩ = false := kept_frozen hw (v := .int .u64 0) (by simp [go_sem, *]) (by simp [go_sem, *])); try (have n1 : w1.cell? ⟨w.heap.size + 1 + 1, 1, none⟩ = some (.bool false) := kept_cell hw (by simp [go_sem, *])); try (have n1f : w1.frozen? ⟨w.heap.size + 1 + 1, 1, none⟩ = false := kept_frozen hw (v := .bool false) (by simp [go_sem, *]) (by simp [go_sem, *])))
      all_goals
        go_wp2_with (fail)
        go_meet
        case rel =>
          have hb1 : Below w.heap.size w w1 := (by first | exact ((((Below.refl _ _).alloc (Nat.le_refl _) _).alloc (by simp) _).drew).trans (hw.mono (by simp; omega)) | exact (((((Below.refl _ _).alloc (Nat.le_refl _) _).alloc (by simp) _).alloc (by simp; omega) _).drew).trans (hw.mono (by simp; omega)))
          refine ⟨_, rfl, ?_, ?_, ?_, ?_, ?_, ?_, ?_, ?_, ?_, ?_, ?_, ?_⟩
          · omega
          · first | (simp; done) | (simp; omega)
          all_goals (first | (simp [go_sem, *]; done) | (repeat (first | exact hb1 | refine Below.setCell ?_ (by first | omega | (simp; done) | (simp; omega)) _ | refine Below.alloc ?_ (by first | omega | (simp; done) | (simp; omega)) _)))
    case rest =>
      obtain ⟨nb, rfl, hn1, hn2, c0, c1, c2, g0, g1, g2, k0, k1, k2, hbw⟩ := hcut
      go_wp2_with (fail)
      refine bodyPost_ret (v := .agg #[.int .u64 0, .int .u64 0, .bool false]) (by simp [results, Try.results37, go_sem, *]) rfl ⟨rfl, ?_⟩
      repeat (first | exact hbw | refine Below.setCell ?_ (by simp) _ | refine Below.alloc ?_ (by simp; omega) _)

end Go.Proofs.Ytlpkilfpjdggeaa
