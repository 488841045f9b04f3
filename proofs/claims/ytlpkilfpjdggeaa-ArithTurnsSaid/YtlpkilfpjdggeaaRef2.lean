/-
  The walks over the document's own answers of rows.
-/
import Derived.Test.YtlpkilfpjdggeaaRef1
import Derived.Deep.RegionHeld3
import Derived.Deep.RegionWith
namespace Go.Proofs.Ytlpkilfpjdggeaa
open Go.RowKit

set_option maxHeartbeats 400000 in
theorem rgcds_any (zs : List Int) (hz : ∀ z ∈ zs, U64 z) (hn : (zs.length : Int) ≤ 9223372036854775807) (cap : Nat) (ao : Option Addr) (w : World) (hr : Reads w w.heap.size ao zs) :
    Calls Try.prog 26 #[.slice ao zs.length cap] w fun e w' => e = .returned (.int .u64 (foldR gcdN (fun _ _ => true) 0 zs).1) ∧ w = w' := by
  have HR := Lib.hid hr; clear hr
  have HZ := Lib.hid hz; clear hz
  have H0 : Hid (foldR gcdN (fun _ _ => true) 0 (zs.drop 0) = foldR gcdN (fun _ _ => true) 0 zs) := by rw [List.drop_zero]; rfl
  generalize foldR gcdN (fun _ _ => true) 0 zs = res at H0 ⊢
  go_enter Try.func26, Try.ntmps26
  go_wp2
  go_loop [3, 4] (fun s i => ∃ (k g : Nat), k ≤ zs.length ∧ (g : Int) ≤ 18446744073709551615 ∧ Hid (foldR gcdN (fun _ _ => true) g (zs.drop k) = res) ∧ s = .int .u64 g ∧ i = .int .i64 k) (fun _ i => zs.length - (intOf i).toNat)
  case atStart => exact ⟨0, 0, Nat.zero_le _, by omega, H0, rfl, rfl⟩
  case round =>
    obtain ⟨k, g, hk, hg, hres, rfl, rfl⟩ := hrel
    by_cases hlt : k < zs.length
    · have hz : U64 (zs.getD k 0) := HZ.out _ (by rw [List.getD_eq_getElem?_getD, List.getElem?_eq_getElem hlt]; exact List.getElem_mem _)
      have hd := drop_cons zs k hlt
      obtain ⟨b, off, rfl, hb, hcells⟩ : ∃ b off, ao = some ⟨b, off, none⟩ ∧ b < w.heap.size ∧ ∀ k, k < zs.length → w.cell? ⟨b, off + k, none⟩ = some (.int .u64 (zs.getD k 0)) := by
        rcases HR.out with h | h
        · rw [h] at hlt; exact absurd hlt (Nat.not_lt_zero _)
        · exact h
      have hc := hcells k hlt
      clear hcells
      have H1 := hres.out
      rw [hd, foldR_yes rfl] at H1
      generalize zs.getD k 0 = z at hc H1 hz
      obtain ⟨y, rfl⟩ := Int.eq_ofNat_of_zero_le hz.1
      have hy := hz.2
      have hG := gcdN_u64 (a := g) (b := y) ⟨by omega, by omega⟩ hz
      have C := rgcd_any g y hg (by omega)
      have e1 : gcdN g y = (Nat.gcd g y : Nat) := by simp [gcdN]
      rw [e1] at H1 hG
      obtain ⟨_, hG2⟩ := hG
      generalize Nat.gcd g y = r at C H1 hG2
      have C := Lib.hid C
      have H1 := Lib.hid H1
      clear hd hz hres e1
      go_wp2_with (go_at_call 34; (with_reducible refine (C.out _).mono ?_); rintro e w' ⟨rfl, rfl⟩)
      go_round
      case rel => exact ⟨k + 1, r, hlt, by omega, H1, rfl, by go_num⟩
      case measure => simp [intOf]; omega
    · have hke : k = zs.length := by omega
      subst hke
      go_wp2
      go_ret
      have := hres.out
      rw [List.drop_length, foldR_nil] at this
      exact ⟨by rw [← this]; rfl, rfl⟩

set_option maxHeartbeats 1000000 in
theorem rsum_any (zs : List Int) (hz : ∀ z ∈ zs, U64 z) (hn : (zs.length : Int) ≤ 9223372036854775807) (cap : Nat) (ao : Option Addr) (w : World) (hr : Reads w w.heap.size ao zs) :
    Calls Try.prog 20 #[.slice ao zs.length cap] w fun e w' => e = .returned (.agg #[.int .u64 (foldR addN addB 0 zs).1, .bool (foldR addN addB 0 zs).2]) ∧ Below w.heap.size w w' := by
  have HR := Lib.hid hr; clear hr
  have HZ := Lib.hid hz; clear hz
  have H0 : Hid (true = true → foldR addN addB 0 (zs.drop 0) = foldR addN addB 0 zs) := by rw [List.drop_zero]; exact fun _ => rfl
  generalize foldR addN addB 0 zs = res at H0 ⊢
  obtain ⟨B, hB⟩ : ∃ B, B = w.heap.size := ⟨_, rfl⟩
  go_enter Try.func20, Try.ntmps20
  go_wp2
  go_loopw [4] (fun i wr => ∃ (k : Nat) (a : Int) (ok : Bool), k ≤ zs.length ∧ U64 a ∧ Hid (if ok = true then foldR addN addB a (zs.drop k) = res else res = (a, false)) ∧ i = .int .i64 k ∧
      wr.cell? ⟨w.heap.size + 1, 0, none⟩ = some (.int .u64 a) ∧ wr.cell? ⟨w.heap.size + 1, 1, none⟩ = some (.bool ok) ∧ wr.frozen? ⟨w.heap.size + 1, 0, none⟩ = false ∧ wr.frozen? ⟨w.heap.size + 1, 1, none⟩ = false ∧
      (∃ v0, wr.cell? ⟨w.heap.size, 0, none⟩ = some v0) ∧ (∃ v1, wr.cell? ⟨w.heap.size, 1, none⟩ = some v1) ∧ wr.frozen? ⟨w.heap.size, 0, none⟩ = false ∧ wr.frozen? ⟨w.heap.size, 1, none⟩ = false ∧
      w.heap.size + 2 ≤ wr.heap.size ∧ Below w.heap.size w wr) (fun i _ => zs.length - (intOf i).toNat)
  case atStart =>
    refine ⟨0, 0, true, Nat.zero_le _, ⟨by omega, by omega⟩, by simpa using H0, rfl, by simp, by simp, by simp, by simp, ⟨.int .u64 0, by simp⟩, ⟨.bool false, by simp⟩, by simp, by simp, by simp, ((Below.refl _ _).alloc (Nat.le_refl _) _).alloc (by simp) _⟩
  case round =>
    obtain ⟨k, a, ok, hk, ha, hres, rfl, c0, c1, f0, f1, ⟨v0, r0⟩, ⟨v1, r1⟩, g0, g1, hsz, hbel⟩ := hrel
    by_cases hlt : k < zs.length
    · have hz : U64 (zs.getD k 0) := HZ.out _ (by rw [List.getD_eq_getElem?_getD, List.getElem?_eq_getElem hlt]; exact List.getElem_mem _)
      have hd := drop_cons zs k hlt
      obtain ⟨b, off, rfl, hb, hcells⟩ : ∃ b off, ao = some ⟨b, off, none⟩ ∧ b < w.heap.size ∧ ∀ k, k < zs.length → wr.cell? ⟨b, off + k, none⟩ = some (.int .u64 (zs.getD k 0)) := by
        rcases HR.out.below hbel with h | h
        · rw [h] at hlt; exact absurd hlt (Nat.not_lt_zero _)
        · exact h
      have hc := hcells k hlt
      clear hcells
      cases ok with
      | true =>
        have H1 : foldR addN addB a (zs.drop k) = res := by have := hres.out; simpa using this
        rw [hd] at H1
        generalize zs.getD k 0 = z at hc H1 hz
        have C := radd_any a z ha hz
        have hs := addN_u64 ha hz
        have H2 : Hid (if addB a z = true then foldR addN addB (addN a z) (zs.drop (k + 1)) = res else res = (addN a z, false)) := by
          by_cases h : addB a z = true
          · rw [foldR_yes h] at H1; rw [if_pos h]; exact H1
          · rw [if_neg h]; rw [foldR_no (by simpa using h)] at H1; exact H1.symm
        generalize addN a z = s at C hs H2
        generalize addB a z = sb at C H2
        have C := Lib.hid C
        clear H1 hres hd
        go_wp2_with (fail)
        go_region_with (go_at_call 12; (refine (C.out _).mono ?_); rintro e w' ⟨rfl, hw⟩; have d0 := kept_cell hw c0; have d1 := kept_cell hw c1; have d2 := kept_frozen hw c0 f0; have d3 := kept_frozen hw c1 f1)
        all_goals
          go_wp2
          go_roundw
          case rel =>
            obtain ⟨e1, e2, e3, e4, e5, e6⟩ := two_set (.int .u64 s) (.bool sb) d0 d1
            exact ⟨k + 1, s, sb, hlt, hs, H2, by go_num, e1, e2, by rw [e4]; exact d2, by rw [e4]; exact d3, ⟨v0, by rw [e3 _ _ (by omega)]; exact kept_cell hw r0⟩, ⟨v1, by rw [e3 _ _ (by omega)]; exact kept_cell hw r1⟩, by rw [e4]; exact kept_frozen hw r0 g0, by rw [e4]; exact kept_frozen hw r1 g1,
              by rw [e5]; exact Nat.le_trans hsz hw.size, e6 _ _ (hbel.drew.trans (hw.mono hbel.size)) (by omega)⟩
          case measure => simp [intOf]; omega
      | false =>
        have H1 : res = (a, false) := by have := hres.out; simpa using this
        clear hres hd
        go_wp2
        obtain ⟨e1, e2, _, _, _, e6⟩ := two_set (.int .u64 a) (.bool false) r0 r1
        refine bodyPost_ret (v := .agg #[.int .u64 a, .bool false]) (by simp [results, Try.results20, go_sem, e1, e2]) rfl ⟨by rw [H1], e6 _ _ hbel (Nat.le_refl _)⟩
    · have hke : k = zs.length := by omega
      subst hke
      have H1 : res = (a, ok) := by
        have := hres.out
        rw [List.drop_length, foldR_nil] at this
        cases ok with
        | true => simpa using this.symm
        | false => simpa using this
      clear hres
      go_wp2
      obtain ⟨e1, e2, _, _, _, e6⟩ := two_set (.int .u64 a) (.bool ok) r0 r1
      refine bodyPost_ret (v := .agg #[.int .u64 a, .bool ok]) (by simp [results, Try.results20, go_sem, e1, e2]) rfl ⟨by rw [H1], e6 _ _ hbel (Nat.le_refl _)⟩

end Go.Proofs.Ytlpkilfpjdggeaa
