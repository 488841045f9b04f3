/-
  The walk over the document's own least multiple.
-/
import Derived.Test.YtlpkilfpjdggeaaRef2
import Derived.StillTailTactics
namespace Go.Proofs.Ytlpkilfpjdggeaa
open Go.RowKit

theorem lcm_with_zero (zs : List Int) (hz : ∀ z ∈ zs, U64 z) (h : ∃ z ∈ zs, z = 0) : foldR lcmN lcmB 1 zs = (0, false) := by
  obtain ⟨l1, l2⟩ := lcm_row zs 1 (by omega) (fun z h => (hz z h).1)
  obtain ⟨z, hm, h0⟩ := h
  generalize foldR lcmN lcmB 1 zs = r at l1 l2
  obtain ⟨n, ok⟩ := r
  cases ok with
  | true => have := ((l1 rfl).2.2.1 z hm).1; omega
  | false => have := (l2 rfl).1; simp only at this; rw [this]

set_option maxHeartbeats 1000000 in
theorem rlcm_any (zs : List Int) (hz : ∀ z ∈ zs, U64 z) (hn : (zs.length : Int) ≤ 9223372036854775807) (cap : Nat) (ao : Option Addr) (w : World) (hr : Reads w w.heap.size ao zs) :
    Calls Try.prog 22 #[.slice ao zs.length cap] w fun e w' => e = .returned (.agg #[.int .u64 (foldR lcmN lcmB 1 zs).1, .bool (foldR lcmN lcmB 1 zs).2]) ∧ Below w.heap.size w w' := by
  have HZ0 := Lib.hid (lcm_with_zero zs hz)
  have HR := Lib.hid hr; clear hr
  have HZ := Lib.hid hz; clear hz
  have H0 : Hid (true = true → foldR lcmN lcmB 1 (zs.drop 0) = foldR lcmN lcmB 1 zs) := by rw [List.drop_zero]; exact fun _ => rfl
  generalize foldR lcmN lcmB 1 zs = res at H0 HZ0 ⊢
  go_enter Try.func22, Try.ntmps22
  go_wp2
  go_loop [4] (fun i => ∃ (k : Nat), k ≤ zs.length ∧ Hid (∀ j, j < k → zs.getD j 0 ≠ 0) ∧ i = .int .i64 k) (fun i => zs.length - (intOf i).toNat)
  case atStart => exact ⟨0, Nat.zero_le _, fun j hj => absurd hj (Nat.not_lt_zero _), rfl⟩
  case round =>
    obtain ⟨k, hk, hnz, rfl⟩ := hrel
    by_cases hlt : k < zs.length
    · have hmem : zs.getD k 0 ∈ zs := by rw [List.getD_eq_getElem?_getD, List.getElem?_eq_getElem hlt]; exact List.getElem_mem _
      obtain ⟨b, off, rfl, hb, hcells⟩ : ∃ b off, ao = some ⟨b, off, none⟩ ∧ b < w.heap.size ∧ ∀ k, k < zs.length → w.cell? ⟨b, off + k, none⟩ = some (.int .u64 (zs.getD k 0)) := by
        rcases HR.out with h | h
        · rw [h] at hlt; exact absurd hlt (Nat.not_lt_zero _)
        · exact h
      have hc := hcells k hlt
      clear hcells
      by_cases hzz : zs.getD k 0 = 0
      · have hres : res = (0, false) := HZ0.out ⟨_, hmem, hzz⟩
        rw [hzz] at hc
        clear hmem hzz
        go_wp2
        refine bodyPost_ret (v := .agg #[.int .u64 0, .bool false]) (by simp [results, Try.results22, go_sem]) rfl ⟨rfl, ((Below.refl _ _).alloc (Nat.le_refl _) _).alloc (by simp) _⟩
      · have hne : (zs.getD k 0 == 0) = false := by rw [beq_eq_false_iff_ne]; exact hzz
        have hnz' : Hid (∀ j, j < k + 1 → zs.getD j 0 ≠ 0) := by
          intro j hj
          rcases (show j < k ∨ j = k by omega) with h | h
          · exact hnz.out j h
          · rw [h]; exact hzz
        generalize zs.getD k 0 = z at hc hne
        clear hmem hzz hnz
        go_wp2
        go_round
        case rel => exact ⟨k + 1, hlt, hnz', by go_num⟩
        case measure => simp [intOf]; omega
    · have hke : k = zs.length := by omega
      subst hke
      go_wp2
      go_loopw [5] (fun i wr => ∃ (k : Nat) (a : Int) (ok : Bool), k ≤ zs.length ∧ (ok = true → 0 < a) ∧ U64 a ∧ Hid (if ok = true then foldR lcmN lcmB a (zs.drop k) = res else res = (a, false)) ∧ i = .int .i64 k ∧
        wr.cell? ⟨w.heap.size + 1, 0, none⟩ = some (.int .u64 a) ∧ wr.cell? ⟨w.heap.size + 1, 1, none⟩ = some (.bool ok) ∧ wr.frozen? ⟨w.heap.size + 1, 0, none⟩ = false ∧ wr.frozen? ⟨w.heap.size + 1, 1, none⟩ = false ∧
        (∃ v0, wr.cell? ⟨w.heap.size, 0, none⟩ = some v0) ∧ (∃ v1, wr.cell? ⟨w.heap.size, 1, none⟩ = some v1) ∧ wr.frozen? ⟨w.heap.size, 0, none⟩ = false ∧ wr.frozen? ⟨w.heap.size, 1, none⟩ = false ∧
        w.heap.size + 2 ≤ wr.heap.size ∧ Below w.heap.size w wr) (fun i _ => zs.length - (intOf i).toNat)
      case atStart =>
        refine ⟨0, 1, true, Nat.zero_le _, fun _ => by omega, ⟨by omega, by omega⟩, by simpa using H0, rfl, by simp, by simp, by simp, by simp, ⟨.int .u64 0, by simp⟩, ⟨.bool false, by simp⟩, by simp, by simp, by simp, ((Below.refl _ _).alloc (Nat.le_refl _) _).alloc (by simp) _⟩
      case round =>
        clear hlt hk
        obtain ⟨k, a, ok, hk, ha0, ha, hres, rfl, c0, c1, f0, f1, ⟨v0, r0⟩, ⟨v1, r1⟩, g0, g1, hsz, hbel⟩ := hrel
        by_cases hlt : k < zs.length
        · have hz : U64 (zs.getD k 0) := HZ.out _ (by rw [List.getD_eq_getElem?_getD, List.getElem?_eq_getElem hlt]; exact List.getElem_mem _)
          have hd := drop_cons zs k hlt
          obtain ⟨b, off, rfl, hb, hcells⟩ : ∃ b off, ao = some ⟨b, off, none⟩ ∧ b < w.heap.size ∧ ∀ k, k < zs.length → wr.cell? ⟨b, off + k, none⟩ = some (.int .u64 (zs.getD k 0)) := by
            rcases HR.out.below hbel with h | h
            · rw [h] at hlt; exact absurd hlt (Nat.not_lt_zero _)
            · exact h
          have hc := hcells k hlt
          have hzne := hnz.out k hlt
          clear hcells
          cases ok with
          | true =>
            have H1 : foldR lcmN lcmB a (zs.drop k) = res := by have := hres.out; simpa using this
            rw [hd] at H1
            generalize zs.getD k 0 = z at hc H1 hz hzne
            have ha0 := ha0 rfl
            have hgood := lcmN_good ha ha0 hz
            have hs : U64 (lcmN a z) := by
              by_cases h : lcmB a z = true
              · exact (hgood h).1
              · unfold lcmN; rw [if_neg hzne]; unfold lcmB at h; rw [if_neg hzne] at h
                unfold mulB at h; unfold mulN
                rw [if_neg (by simpa using h)]; exact ⟨by omega, by omega⟩
            have H2 : Hid (if lcmB a z = true then foldR lcmN lcmB (lcmN a z) (zs.drop (k + 1)) = res else res = (lcmN a z, false)) := by
              by_cases h : lcmB a z = true
              · rw [foldR_yes h] at H1; rw [if_pos h]; exact H1
              · rw [if_neg h]; rw [foldR_no (by simpa using h)] at H1; exact H1.symm
            obtain ⟨x, rfl⟩ := Int.eq_ofNat_of_zero_le ha.1
            obtain ⟨y, rfl⟩ := Int.eq_ofNat_of_zero_le hz.1
            have hax := ha.2; have hzy := hz.2
            have G := rgcd_any x y (by omega) (by omega)
            have hg : 1 ≤ ((Nat.gcd x y : Nat) : Int) := by have := Nat.gcd_pos_of_pos_left y (show 0 < x by omega); omega
            have hN : lcmN x y = mulN ((x : Int) / (Nat.gcd x y : Nat)) y := by unfold lcmN; rw [if_neg hzne, Int.toNat_natCast, Int.toNat_natCast]
            have hB : lcmB x y = mulB ((x : Int) / (Nat.gcd x y : Nat)) y := by unfold lcmB; rw [if_neg hzne, Int.toNat_natCast, Int.toNat_natCast]
            generalize Nat.gcd x y = g at G hg hN hB
            have h1 : 0 ≤ (x : Int) / g := Int.ediv_nonneg (by omega) (by omega)
            have h2 : (x : Int) / g ≤ x := Int.ediv_le_self _ (by omega)
            have M := rmul_any ((x : Int) / g) y ⟨h1, by omega⟩ hz
            rw [← hN, ← hB] at M
            clear hN hB
            have hl := fun h => (hgood h).2
            generalize lcmN x y = s at M hs H2 hl
            generalize lcmB x y = sb at M H2 hl
            have HL := Lib.hid hl
            have M := Lib.hid M
            have G := Lib.hid G
            have h3 : (x : Int) / g ≤ 18446744073709551615 := by omega
            have hg1 : ((g : Int) == 0) = false := by rw [beq_eq_false_iff_ne]; omega
            have hg2 : ¬ (g : Int) = 0 := by omega
            have hg3 : ¬ g = 0 := by omega
            clear H1 hres hd h2 hl hgood
            go_wp2_with (fail)
            go_still_tail 14, (by kernel_rfl)
            still_call ((G.out _).mono fun _ _ h => ⟨h.1, h.2.symm⟩)
            repeat still_step
            refine wpStill_nil ?_
            go_wp2_with (go_at_call 16; (refine (M.out _).mono ?_); rintro e w' ⟨rfl, hw⟩; have d0 := kept_cell hw c0; have d1 := kept_cell hw c1; have d2 := kept_frozen hw c0 f0; have d3 := kept_frozen hw c1 f1)
            go_roundw
            case rel =>
              obtain ⟨e1, e2, e3, e4, e5, e6⟩ := two_set (.int .u64 s) (.bool sb) d0 d1
              exact ⟨k + 1, s, sb, hlt, HL.out, hs, H2, by go_num, e1, e2, by rw [e4]; exact d2, by rw [e4]; exact d3, ⟨v0, by rw [e3 _ _ (by omega)]; exact kept_cell hw r0⟩, ⟨v1, by rw [e3 _ _ (by omega)]; exact kept_cell hw r1⟩, by rw [e4]; exact kept_frozen hw r0 g0, by rw [e4]; exact kept_frozen hw r1 g1,
                by rw [e5]; exact Nat.le_trans hsz hw.size, e6 _ _ (hbel.drew.trans (hw.mono hbel.size)) (by omega)⟩
            case measure => simp [intOf]; omega
          | false =>
            have H1 : res = (a, false) := by have := hres.out; simpa using this
            clear hres hd
            go_wp2
            obtain ⟨e1, e2, _, _, _, e6⟩ := two_set (.int .u64 a) (.bool false) r0 r1
            refine bodyPost_ret (v := .agg #[.int .u64 a, .bool false]) (by simp [results, Try.results22, go_sem, e1, e2]) rfl ⟨by rw [H1], e6 _ _ hbel (Nat.le_refl _)⟩
        · have hke : k = zs.length := by omega
          subst hke
          have H1 : res = (a, ok) := by
            have := hres.out
            rw [List.drop_length, foldR_nil] at this
            cases ok with
            | true => simpa using this.symm
            | false => simpa using this
          clear hres
          go_wp2
          obtain ⟨e1, e2, _, _, _, e6⟩ := two_set (.int .u64 a) (.bool ok) r0 r1
          refine bodyPost_ret (v := .agg #[.int .u64 a, .bool ok]) (by simp [results, Try.results22, go_sem, e1, e2]) rfl ⟨by rw [H1], e6 _ _ hbel (Nat.le_refl _)⟩

end Go.Proofs.Ytlpkilfpjdggeaa
