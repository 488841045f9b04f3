/-
  The walks over digits.
-/
import Derived.Test.YtbipjilpogbicaaDoorLW4
namespace Go.Proofs.YtbipjilpogbicaaDoor
open Go.RowKit Go.Maps

/-- The digits of a number. -/
def upOf (n : Nat) : ByteArray := if n < 10 then ⟨#[UInt8.ofNat (48 + n)]⟩ else upOf (n / 10) ++ ⟨#[UInt8.ofNat (48 + n % 10)]⟩
theorem upOf_small {n : Nat} (h : n < 10) : upOf n = ⟨#[UInt8.ofNat (48 + n)]⟩ := by rw [upOf, if_pos h]
theorem upOf_more {n : Nat} (h : ¬ n < 10) : upOf n = upOf (n / 10) ++ ⟨#[UInt8.ofNat (48 + n % 10)]⟩ := by rw [upOf, if_neg h]
theorem upOf_size : ∀ (k n : Nat), n < 10 ^ k → (upOf n).size ≤ k ∨ (upOf n).size ≤ 1
  | 0, n, h => by
    right; rw [upOf_small (by simp at h; omega)]; exact Nat.le_refl _
  | k + 1, n, h => by
    by_cases h1 : n < 10
    · right; rw [upOf_small h1]; exact Nat.le_refl _
    · left
      rw [upOf_more h1, ByteArray.size_append]
      have := upOf_size k (n / 10) (by rw [Nat.pow_succ] at h; omega)
      have e : (⟨#[UInt8.ofNat (48 + n % 10)]⟩ : ByteArray).size = 1 := rfl
      rw [e]
      rcases this with q | q
      · omega
      · have hk : 0 < k := by
          rcases Nat.eq_zero_or_pos k with z | z
          · subst z; simp at h; omega
          · exact z
        omega
theorem conv_one (m : Nat) (h : m < 10) (w : World) (b : Nat) (hc : w.cell? ⟨b, 0, none⟩ = some (.int .u8 (48 + (m : Int)))) : Sem.run Tryd.prog (convert 47 9 (.slice (some ⟨b, 0, none⟩) 1 1)) w = .ok (.string ⟨#[UInt8.ofNat (48 + m)]⟩) w := by
  refine run_convert_bytes_back w 47 9 5 ⟨b, 0, none⟩ 1 [UInt8.ofNat (48 + m)] Tryd.underlying47 Tryd.underlying5 Tryd.underlying9 ?_
  intro j hj
  have : j = 0 := by simp at hj; omega
  subst this
  rw [addr_at, Nat.zero_add, hc]
  have e : (UInt8.ofNat (48 + m)).toNat = 48 + m := by
    rw [UInt8.toNat_ofNat']; omega
  simp only [List.getElem_cons_zero, e]
  congr 2
theorem add_str (u v r : ByteArray) (hr : u ++ v = r) (hs : (u.size + v.size : Nat) ≤ 1000000000) (w : World) : Sem.run Tryd.prog (Op.stringOp .add u v) w = .ok (.string r) w := by
  subst hr
  exact run_string_add_sum (P := Tryd.prog) w u v (by omega)
set_option maxRecDepth 100000 in
set_option maxHeartbeats 1000000 in
theorem up_small (n : Nat) (h : n < 10) (w : World) : Calls Tryd.prog 32 #[.int .u64 n] w fun e w' => e = .returned (.string (upOf n)) ∧ Below w.heap.size w w' := by
  obtain ⟨v, hv⟩ : ∃ v : ByteArray, ⟨#[UInt8.ofNat (48 + n)]⟩ = v := ⟨_, rfl⟩
  rw [upOf_small h, hv]
  have h1 : (n : Int) < 10 := by omega
  have w1 : IntKind.u64.wrap (48 + (n : Int)) = 48 + (n : Int) := by rw [IntKind.wrap_u64]; omega
  have w2 : IntKind.u8.wrap (48 + (n : Int)) = 48 + (n : Int) := by rw [IntKind.wrap_u8]; omega
  have hcv := conv_one n h
  rw [hv] at hcv
  clear hv
  go_enter Tryd.func32, Tryd.ntmps32
  go_wp2_with fail
  go_ret
  exact ⟨rfl, (by repeat (first | exact Below.refl _ _ | (with_reducible assumption) | refine bw_alloc ?_ _ | refine bw_drew ?_))⟩
def UpBack (n : Nat) (w : World) (e : Ending) (w' : World) : Prop := e = .returned (.string (upOf n)) ∧ Below w.heap.size w w'
set_option maxRecDepth 100000 in
set_option maxHeartbeats 2000000 in
theorem up_any (n : Nat) : n ≤ 18446744073709551615 → ∀ w : World, Calls Tryd.prog 32 #[.int .u64 n] w (UpBack n w) := by
  induction n using Nat.strongRecOn with
  | _ n ih =>
    intro hn w
    by_cases h : n < 10
    · exact up_small n h w
    · have IH := Lib.hid (ih (n / 10) (by omega) (by omega))
      clear ih
      obtain ⟨k, hk⟩ : ∃ k, n / 10 = k := ⟨_, rfl⟩
      obtain ⟨m, hm⟩ : ∃ m, n % 10 = m := ⟨_, rfl⟩
      obtain ⟨u, hu⟩ : ∃ u, upOf k = u := ⟨_, rfl⟩
      obtain ⟨v, hv⟩ : ∃ v : ByteArray, ⟨#[UInt8.ofNat (48 + m)]⟩ = v := ⟨_, rfl⟩
      obtain ⟨r, hr⟩ : ∃ r, u ++ v = r := ⟨_, rfl⟩
      have hres : upOf n = r := by rw [upOf_more h, hk, hm, hu, hv, hr]
      have hsz : u.size + v.size ≤ 1000000000 := by
        have h1 := upOf_size 20 k (by have e : (10 : Nat) ^ 20 = 100000000000000000000 := by decide
                                      rw [e]; omega)
        rw [hu] at h1
        have h2 : v.size = 1 := by rw [← hv]; rfl
        omega
      have hadd := add_str u v r hr hsz
      have hcv := conv_one m (by omega)
      rw [hv] at hcv
      have HF : Hid (∀ w', Below w.heap.size w w' → UpBack n w (.returned (.string r)) w') := fun w' h => ⟨by rw [hres], h⟩
      have IH2 : Hid (∀ v, Calls Tryd.prog 32 #[.int .u64 (k : Int)] v fun e w' => e = .returned (.string u) ∧ Below v.heap.size v w') := by
        have := IH.out
        rw [hk] at this
        unfold UpBack at this
        rw [hu] at this
        exact this
      have e1 : (n : Int).tdiv 10 = (k : Int) := by rw [Int.tdiv_eq_ediv_of_nonneg (by omega)]; omega
      have e2 : (n : Int).tmod 10 = (m : Int) := by rw [Int.tmod_eq_emod_of_nonneg (by omega)]; omega
      have e3 : (n : Int) / 10 = (k : Int) := by omega
      have e4 : (n : Int) % 10 = (m : Int) := by omega
      have h1 : ¬ (n : Int) < 10 := by omega
      have w0 : IntKind.u64.wrap (k : Int) = (k : Int) := by rw [IntKind.wrap_u64]; omega
      have w3 : IntKind.u64.wrap (m : Int) = (m : Int) := by rw [IntKind.wrap_u64]; omega
      have w1 : IntKind.u64.wrap (48 + (m : Int)) = 48 + (m : Int) := by rw [IntKind.wrap_u64]; omega
      have w2 : IntKind.u8.wrap (48 + (m : Int)) = 48 + (m : Int) := by rw [IntKind.wrap_u8]; omega
      clear hk hm hu hv hr hres hsz IH h
      go_enter Tryd.func32, Tryd.ntmps32
      go_upto_region 3 with fail
      go_region_law (go_simp; (with_reducible refine (IH2.out _).mono ?_); rintro e w5 ⟨rfl, b5⟩; (try (have c5 := (kept_cell (v := .int .u8 (48 + (m : Int))) (b := w.heap.size) (o := 0) b5 (by first | (rw [World.cell?_alloc_new]; rfl) | (exact (World.cell?_alloc_new ..).trans rfl))))); have B5 := Lib.hid (below_up ((by repeat (first | exact Below.refl _ _ | (with_reducible assumption) | refine bw_alloc ?_ _ | refine bw_drew ?_)) : Below w.heap.size w _) b5); clear b5)
      all_goals
        go_wp2_with fail
        go_ret
        exact HF.out _ (below_up B5.out (by repeat (first | exact Below.refl _ _ | (with_reducible assumption) | refine bw_alloc ?_ _ | refine bw_drew ?_)))
end Go.Proofs.YtbipjilpogbicaaDoor
