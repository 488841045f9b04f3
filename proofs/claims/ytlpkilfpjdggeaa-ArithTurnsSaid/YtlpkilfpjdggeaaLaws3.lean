/-
  The walk over the statement on what divides.
-/
import Derived.Test.YtlpkilfpjdggeaaRowsIn
import Derived.Test.YtlpkilfpjdggeaaLcmNum
namespace Go.Proofs.Ytlpkilfpjdggeaa
open Go.RowKit

/-- The greatest divisor of a row, in any later world. -/
theorem gcds_later {W : World} {L : List Int} {cap : Nat} {ao : Option Addr} (hz : ∀ z ∈ L, U64 z) (hn : (L.length : Int) ≤ 9223372036854775807) (hr : Reads W W.heap.size ao L) (w : World) (hb : Below W.heap.size W w) :
    Calls Try.prog 25 #[.slice ao L.length cap] w fun e w' => e = .returned (.int .u64 (foldR gcdN (fun _ _ => true) 0 L).1) ∧ Below W.heap.size W w' :=
  Calls.under hb (Nat.le_refl _) (gcds_any L hz hn cap ao w (hr.later (Nat.le_refl _) hb))

theorem lcms_later {W : World} {L : List Int} {cap : Nat} {ao : Option Addr} (hz : ∀ z ∈ L, U64 z) (hn : (L.length : Int) ≤ 9223372036854775807) (hr : Reads W W.heap.size ao L) (w : World) (hb : Below W.heap.size W w) :
    Calls Try.prog 21 #[.slice ao L.length cap] w fun e w' => e = .returned (.tuple #[.int .u64 (foldR lcmN lcmB 1 L).1, .bool (foldR lcmN lcmB 1 L).2]) ∧ Below W.heap.size W w' :=
  Calls.under hb (Nat.le_refl _) (lcms_any L hz hn cap ao w (hr.later (Nat.le_refl _) hb))

theorem sums_later {W : World} {L : List Int} {cap : Nat} {ao : Option Addr} (hz : ∀ z ∈ L, U64 z) (hn : (L.length : Int) ≤ 9223372036854775807) (hr : Reads W W.heap.size ao L) (w : World) (hb : Below W.heap.size W w) :
    Calls Try.prog 19 #[.slice ao L.length cap] w fun e w' => e = .returned (.tuple #[.int .u64 (foldR addN addB 0 L).1, .bool (foldR addN addB 0 L).2]) ∧ Below W.heap.size W w' :=
  Calls.under hb (Nat.le_refl _) (sum_any L hz hn cap ao w (hr.later (Nat.le_refl _) hb))

/-- A new row of two. -/
theorem two_reads (w : World) (x y : Int) : Reads (w.alloc (.cells #[.int .u64 x, .int .u64 y] 22)) (w.alloc (.cells #[.int .u64 x, .int .u64 y] 22)).heap.size (some ⟨w.heap.size, 0, none⟩) [x, y] :=
  .inr ⟨w.heap.size, 0, rfl, by simp, by
    intro k hk
    have hk : k < 2 := hk
    have : k = 0 ∨ k = 1 := by omega
    rcases this with rfl | rfl <;> simp⟩

theorem gcd_two {B : Nat} {W : World} (hB : B ≤ W.heap.size) {x y : Int} (hx : U64 x) (hy : U64 y) (w : World) (hb : Below B W w) :
    Calls Try.prog 25 #[.slice (some ⟨w.heap.size, 0, none⟩) 2 2] (w.alloc (.cells #[.int .u64 x, .int .u64 y] 22)) fun e w' => e = .returned (.int .u64 (foldR gcdN (fun _ _ => true) 0 [x, y]).1) ∧ Below B W w' :=
  Calls.under (hb.alloc (Nat.le_trans hB hb.size) _) hB (gcds_any [x, y] (by intro z hz; simp at hz; rcases hz with rfl | rfl <;> assumption) (by simp) 2 _ _ (two_reads w x y))

theorem lcm_two {B : Nat} {W : World} (hB : B ≤ W.heap.size) {x y : Int} (hx : U64 x) (hy : U64 y) (w : World) (hb : Below B W w) :
    Calls Try.prog 21 #[.slice (some ⟨w.heap.size, 0, none⟩) 2 2] (w.alloc (.cells #[.int .u64 x, .int .u64 y] 22)) fun e w' => e = .returned (.tuple #[.int .u64 (foldR lcmN lcmB 1 [x, y]).1, .bool (foldR lcmN lcmB 1 [x, y]).2]) ∧ Below B W w' :=
  Calls.under (hb.alloc (Nat.le_trans hB hb.size) _) hB (lcms_any [x, y] (by intro z hz; simp at hz; rcases hz with rfl | rfl <;> assumption) (by simp) 2 _ _ (two_reads w x y))

/-- What is known of each number of the row. -/
theorem divides_each {L : List Int} (hz : ∀ z ∈ L, U64 z) (g n : Int) (ok : Bool) (hg : (foldR gcdN (fun _ _ => true) 0 L).1 = g) (hn : foldR lcmN lcmB 1 L = (n, ok)) :
    (∀ z ∈ L, (g = 0 ∧ z = 0 ∧ ok = false) ∨ (0 < g ∧ z % g = 0 ∧ ok = false) ∨ (0 < g ∧ z % g = 0 ∧ ok = true ∧ 0 < z ∧ n % z = 0)) ∧ 0 ≤ g ∧ 0 ≤ n ∧ (ok = true → 0 < n) := by
  have hz' : ∀ z ∈ L, 0 ≤ z := fun z h => (hz z h).1
  obtain ⟨g1, _, g3, _⟩ := gcd_row L 0 (by omega) hz'
  obtain ⟨l1, l2⟩ := lcm_row L 1 (by omega) hz'
  rw [hg] at g1 g3
  rw [hn] at l1 l2
  have mod : ∀ u v : Int, 0 ≤ u → 0 ≤ v → u.toNat ∣ v.toNat → v % u = 0 := by
    intro u v hu hv hd
    obtain ⟨a, rfl⟩ := Int.eq_ofNat_of_zero_le hu
    obtain ⟨b, rfl⟩ := Int.eq_ofNat_of_zero_le hv
    rw [Int.toNat_natCast, Int.toNat_natCast] at hd
    exact Int.emod_eq_zero_of_dvd (Int.natCast_dvd_natCast.2 hd)
  cases ok with
  | true =>
    obtain ⟨a, _, c, _⟩ := l1 rfl
    have a : 0 < n := a
    refine ⟨fun z h => .inr (.inr ?_), g1, by omega, fun _ => a⟩
    obtain ⟨c1, c2⟩ := c z h
    have hgz := g3 z h
    have hg0 : 0 < g := by
      rcases (show g = 0 ∨ 0 < g by omega) with e | e
      · rw [e] at hgz
        have := Nat.eq_zero_of_zero_dvd hgz
        omega
      · exact e
    exact ⟨hg0, mod g z g1 (by omega) hgz, rfl, c1, mod z n (by omega) (by omega) c2⟩
  | false =>
    obtain ⟨a, _⟩ := l2 rfl
    have a : n = 0 := a
    refine ⟨fun z h => ?_, g1, by omega, fun h => by cases h⟩
    have hgz := g3 z h
    have hz0 := hz' z h
    rcases (show g = 0 ∨ 0 < g by omega) with e | e
    · left
      rw [e] at hgz
      have := Nat.eq_zero_of_zero_dvd hgz
      exact ⟨e, by omega, rfl⟩
    · right; left
      exact ⟨e, mod g z g1 hz0 hgz, rfl⟩

set_option maxRecDepth 100000 in
set_option maxHeartbeats 2000000 in
theorem law_divides (a0 : Option Addr) (len cap : Nat) (z : List Int) (a b : Int) (W : World) (hrow : IsRow .u64 W a0 len cap z) (ha : U64 a) (hb : U64 b) :
    Calls Try.prog 6 #[.slice a0 len cap, .int .u64 a, .int .u64 b] W fun e w' => e = .returned (.bool true) ∧ Below W.heap.size W w' := by
  obtain ⟨L, hl8, hlu, hlr, cap', hlc, _, F⟩ := few_any hrow
  obtain ⟨x, hx, hx0, hx1⟩ : ∃ m, bits .and .u64 a 2147483647 = m ∧ 0 ≤ m ∧ m ≤ 2147483647 := ⟨_, mask31 a ha, by omega, by omega⟩
  obtain ⟨y, hy, hy0, hy1⟩ : ∃ m, bits .and .u64 b 2147483647 = m ∧ 0 ≤ m ∧ m ≤ 2147483647 := ⟨_, mask31 b hb, by omega, by omega⟩
  have A := Lib.hid (fun w (h : Below W.heap.size W w) => Calls.under (R := fun e => e = .returned (.bool true)) h (Nat.le_refl _) (awake_any w))
  have G := gcds_later (cap := cap') hlu (by omega) hlr
  have M := lcms_later (cap := cap') hlu (by omega) hlr
  obtain ⟨g, hg⟩ : ∃ g, (foldR gcdN (fun _ _ => true) 0 L).1 = g := ⟨_, rfl⟩
  obtain ⟨n, ok, hn⟩ : ∃ n ok, foldR lcmN lcmB 1 L = (n, ok) := ⟨_, _, rfl⟩
  obtain ⟨each, hg0, hn0, hnp⟩ := divides_each hlu g n ok hg hn
  rw [hg] at G
  rw [hn] at M
  have H1 := gcd_two (Nat.le_refl _) (W := W) (x := 1 + x) (y := 1 + y) ⟨by omega, by omega⟩ ⟨by omega, by omega⟩
  have H2 := lcm_two (Nat.le_refl _) (W := W) (x := 1 + x) (y := 1 + y) ⟨by omega, by omega⟩ ⟨by omega, by omega⟩
  obtain ⟨h, t, u, k, p1, p2, p3, p4, p5, p6, p7, p8, p9, p10⟩ := pair_row (1 + x).toNat (1 + y).toNat (by omega) (by omega) (by omega) (by omega)
  rw [show (((1 + x).toNat : Nat) : Int) = 1 + x by omega, show (((1 + y).toNat : Nat) : Int) = 1 + y by omega] at p1 p2
  rw [p1] at H1
  rw [p2] at H2
  have q1 : IntKind.u64.wrap ((k : Int).tdiv h) = t := by rw [IntWalk.u64_quo _ _ (by omega), ← p7]; simp
  have q2 : IntKind.u64.wrap ((h : Int) * t) = k := by rw [← p8]; rw [IntWalk.u64_in _ (by rw [show (h : Int) * t = ((h * t : Nat) : Int) by simp, p8]; omega)]; simp
  have q3 : IntKind.u64.wrap ((k : Int).tdiv (1 + x)) = u := by
    rw [IntWalk.u64_quo _ _ (by omega), ← p9, show 1 + x = (((1 + x).toNat : Nat) : Int) by omega]
    simp
  have q4 : IntKind.u64.wrap ((u : Int) * h) = 1 + y := by
    have : (u : Int) * h = 1 + y := by rw [show (u : Int) * h = ((u * h : Nat) : Int) by simp, p10]; omega
    rw [this]; exact IntWalk.u64_in _ (by omega)
  have q1' : IntKind.u64.wrap ((k : Int) / h) = t := by rw [← q1, IntWalk.u64_quo _ _ (by omega), IntWalk.u64_in _ ⟨Int.ediv_nonneg (by omega) (by omega), by have := Int.ediv_le_self (h : Int) (show 0 ≤ (k : Int) by omega); omega⟩]
  have q3' : IntKind.u64.wrap ((k : Int) / (1 + x)) = u := by rw [← q3, IntWalk.u64_quo _ _ (by omega), IntWalk.u64_in _ ⟨Int.ediv_nonneg (by omega) (by omega), by have := Int.ediv_le_self (1 + x) (show 0 ≤ (k : Int) by omega); omega⟩]
  have q5 : ((h : Int) == 0) = false := by rw [beq_eq_false_iff_ne]; omega
  have q6 : ((1 + x : Int) == 0) = false := by rw [beq_eq_false_iff_ne]; omega
  have q7 : (0 : Int) < h := by omega
  have F := Lib.hid F
  have G := Lib.hid G
  have M := Lib.hid M
  have H1 := Lib.hid H1
  have H2 := Lib.hid H2
  have HE := Lib.hid each
  have HU := Lib.hid hlu
  have HR := Lib.hid hlr
  have HW := Lib.hid (Below.refl W.heap.size W)
  clear p1 p2 p4 p6 p7 p8 p9 p10 hg hn hlr hlu each hrow ha hb
  go_enter Try.func6, Try.ntmps6
  go_wp2_with (first | (go_at_call 9; (refine (A.out _ HW.out).mono ?_); rintro e w1 ⟨rfl, hw1⟩) | (go_at_call 10; (refine (F.out _).mono ?_); rintro e w' ⟨rfl, rfl⟩) | (go_at_call 25; (refine (G.out _ hw1).mono ?_); rintro e w2 ⟨rfl, hw2⟩) | (go_at_call 21; (refine (M.out _ hw2).mono ?_); rintro e w3 ⟨rfl, hw3⟩))
  go_loop [12] (fun i => ∃ k : Nat, k ≤ L.length ∧ i = .int .i64 k) (fun i => L.length - (intOf i).toNat)
  case atStart => exact ⟨0, Nat.zero_le _, rfl⟩
  case round =>
    obtain ⟨k, hk, rfl⟩ := hrel
    by_cases hlt : k < L.length
    · have hmem : L.getD k 0 ∈ L := by rw [List.getD_eq_getElem?_getD, List.getElem?_eq_getElem hlt]; exact List.getElem_mem _
      have hzz := HE.out _ hmem
      have hzu := HU.out _ hmem
      obtain ⟨b, off, rfl, _, hcells⟩ : ∃ b off, a0 = some ⟨b, off, none⟩ ∧ b < W.heap.size ∧ ∀ k, k < L.length → w3.cell? ⟨b, off + k, none⟩ = some (.int .u64 (L.getD k 0)) := by
        rcases HR.out.below hw3 with h | h
        · rw [h] at hlt; exact absurd hlt (Nat.not_lt_zero _)
        · exact h
      have hc := hcells k hlt
      clear hcells hmem
      generalize L.getD k 0 = z at hc hzz hzu
      have hz0 := hzu.1; have hz1 := hzu.2
      clear hzu
      rcases hzz with ⟨rfl, rfl, rfl⟩ | ⟨g0, zg, rfl⟩ | ⟨g0, zg, rfl, z0, nz⟩
      · go_wp2_with (fail)
        go_round
        case rel => exact ⟨k + 1, hlt, by go_num⟩
        case measure => simp [intOf]; omega
      · have gz : (g == 0) = false := by rw [beq_eq_false_iff_ne]; omega
        go_wp2_with (fail)
        go_round
        case rel => exact ⟨k + 1, hlt, by go_num⟩
        case measure => simp [intOf]; omega
      · have gz : (g == 0) = false := by rw [beq_eq_false_iff_ne]; omega
        have zz : (z == 0) = false := by rw [beq_eq_false_iff_ne]; omega
        go_wp2_with (fail)
        go_round
        case rel => exact ⟨k + 1, hlt, by go_num⟩
        case measure => simp [intOf]; omega
    · cases ok with
      | false =>
        clear hnp
        have hge : L.length ≤ k := by omega
        go_wp2_with (first | (go_at_call 25; (refine (H1.out _ hw3).mono ?_); rintro e w4 ⟨rfl, hw4⟩) | (go_at_call 21; (refine (H2.out _ hw4).mono ?_); rintro e w5 ⟨rfl, hw5⟩))
        go_ret
        exact ⟨rfl, hw5⟩
      | true =>
        have hn1 := hnp rfl
        clear hnp
        go_wp2_with (first | (go_at_call 25; (refine (H1.out _ hw3).mono ?_); rintro e w4 ⟨rfl, hw4⟩) | (go_at_call 21; (refine (H2.out _ hw4).mono ?_); rintro e w5 ⟨rfl, hw5⟩))
        go_ret
        exact ⟨rfl, hw5⟩

theorem row_divides (W : World) (a0 : Option Addr) (len cap : Nat) (z : List Int) (hz : IsRow .u64 W a0 len cap z) (a : Int) (ha : (Lit.int .u64 a).wf = true) (b : Int) (hb : (Lit.int .u64 b).wf = true) :
    Calls Try.prog 6 #[.slice a0 len cap, .int .u64 a, .int .u64 b] W fun e w' => e = .returned (.bool true) ∧ Below W.heap.size W w' :=
  law_divides a0 len cap z a b W hz (u64_of_wf ha) (u64_of_wf hb)

end Go.Proofs.Ytlpkilfpjdggeaa
