/-
  The walks over digits of any number, and over rows of them.
-/
import Derived.Test.YtbipjilpogbicaaDoorLW5
namespace Go.Proofs.YtbipjilpogbicaaDoor
open Go.RowKit Go.Maps

def digOf (n : Int) : ByteArray := if n < 0 then ⟨#[45]⟩ ++ upOf n.natAbs else upOf n.natAbs
theorem digOf_size (n : Int) (h : I64 n) : (digOf n).size ≤ 22 := by
  have hn : n.natAbs < 10 ^ 20 := by
    have e : (10 : Nat) ^ 20 = 100000000000000000000 := by decide
    rw [e]; unfold I64 at h; omega
  have := upOf_size 20 n.natAbs hn
  unfold digOf
  split
  · rw [ByteArray.size_append]
    have e : (⟨#[45]⟩ : ByteArray).size = 1 := rfl
    omega
  · omega
set_option maxRecDepth 100000 in
set_option maxHeartbeats 1000000 in
theorem rdigits_any (n : Int) (hn : I64 n) (w : World) : Calls Tryd.prog 24 #[.int .i64 n] w fun e w' => e = .returned (.string (digOf n)) ∧ Below w.heap.size w w' := by
  unfold I64 at hn
  by_cases h : n < 0
  · obtain ⟨m, hm⟩ : ∃ m : Nat, n.natAbs = m := ⟨_, rfl⟩
    obtain ⟨u, hu⟩ : ∃ u, upOf m = u := ⟨_, rfl⟩
    obtain ⟨r, hr⟩ : ∃ r : ByteArray, ⟨#[45]⟩ ++ u = r := ⟨_, rfl⟩
    have hres : digOf n = r := by unfold digOf; rw [if_pos h, hm, hu, hr]
    rw [hres]
    have hsz : (⟨#[45]⟩ : ByteArray).size + u.size ≤ 1000000000 := by
      have h1 := upOf_size 20 m (by have e : (10 : Nat) ^ 20 = 100000000000000000000 := by decide
                                    rw [e]; omega)
      rw [hu] at h1
      have e : (⟨#[45]⟩ : ByteArray).size = 1 := rfl
      omega
    have hadd := add_str ⟨#[45]⟩ u r hr hsz
    have C : Hid (∀ v, Calls Tryd.prog 32 #[.int .u64 (m : Int)] v fun e w' => e = .returned (.string u) ∧ Below v.heap.size v w') := fun v => by
      have := up_any m (by omega) v
      unfold UpBack at this
      rwa [hu] at this
    have w1 : IntKind.u64.wrap n = n + 18446744073709551616 := by rw [IntKind.wrap_u64]; omega
    have w2 : IntKind.u64.wrap (-(n + 18446744073709551616)) = (m : Int) := by rw [IntKind.wrap_u64]; omega
    clear hm hu hr hres hsz
    go_enter Tryd.func24, Tryd.ntmps24
    go_wp2_with (go_at_call 32; (with_reducible refine (C.out _).mono ?_); rintro e w1 ⟨rfl, b1⟩; have B1 := Lib.hid b1; clear b1)
    go_ret
    exact ⟨rfl, B1.out⟩
  · obtain ⟨m, rfl⟩ : ∃ m : Nat, n = m := ⟨n.toNat, by omega⟩
    obtain ⟨u, hu⟩ : ∃ u, upOf m = u := ⟨_, rfl⟩
    have hres : digOf (m : Int) = u := by unfold digOf; rw [if_neg h, Int.natAbs_natCast, hu]
    rw [hres]
    have C : Hid (∀ v, Calls Tryd.prog 32 #[.int .u64 (m : Int)] v fun e w' => e = .returned (.string u) ∧ Below v.heap.size v w') := fun v => by
      have := up_any m (by omega) v
      unfold UpBack at this
      rwa [hu] at this
    have w1 : IntKind.u64.wrap (m : Int) = (m : Int) := by rw [IntKind.wrap_u64]; omega
    clear hu hres
    go_enter Tryd.func24, Tryd.ntmps24
    go_wp2_with (go_at_call 32; (with_reducible refine (C.out _).mono ?_); rintro e w1 ⟨rfl, b1⟩; have B1 := Lib.hid b1; clear b1)
    go_ret
    exact ⟨rfl, B1.out⟩

/-- The first numbers of a row, with a comma between two. -/
def jrun (l : List Int) : Nat → ByteArray
  | 0 => ⟨#[]⟩
  | i + 1 => (if i = 0 then jrun l i else jrun l i ++ ⟨#[44]⟩) ++ digOf (l[i]?.getD 0)
def joinOf (l : List Int) : ByteArray := jrun l l.length
theorem jrun_size (l : List Int) (hl : ∀ x ∈ l, I64 x) : ∀ i, (jrun l i).size ≤ 23 * i
  | 0 => Nat.le_refl _
  | i + 1 => by
    have ih := jrun_size l hl i
    have hd : (digOf (l[i]?.getD 0)).size ≤ 22 := by
      apply digOf_size
      cases e : l[i]? with
      | none => show I64 0; unfold I64; omega
      | some x => exact hl x (List.mem_of_getElem? e)
    rw [jrun, ByteArray.size_append]
    split
    · omega
    · rw [ByteArray.size_append]
      have e : (⟨#[44]⟩ : ByteArray).size = 1 := rfl
      omega
set_option maxRecDepth 100000 in
set_option maxHeartbeats 2000000 in
theorem rjoin_any (a : Option Addr) (n cap : Nat) (l : List Int) (hl : l.length = n) (hn : n ≤ 1000000) (hw : ∀ x ∈ l, I64 x) (w : World) (h : Ints w a l) : Calls Tryd.prog 26 #[.slice a n cap] w fun e w' => e = .returned (.string (joinOf l)) ∧ Below w.heap.size w w' := by
  have H := Lib.hid h
  have HL := Lib.hid hl
  have HW := Lib.hid hw
  clear h hl hw
  go_enter Tryd.func26, Tryd.ntmps26
  go_wp2_with fail
  go_loopw [3, 4] (fun v u wr => ∃ (i : Nat) (t : ByteArray), i ≤ n ∧ u = .int .i64 i ∧ v = .string t ∧ Hid (jrun l i = t) ∧ Hid (Below w.heap.size w wr)) (fun _ u _ => (n - intOf u).toNat)
  case atStart => exact ⟨0, ⟨#[]⟩, by omega, rfl, rfl, rfl, Below.refl _ _⟩
  case round =>
    obtain ⟨i, t, hi, rfl, rfl, HT, HB⟩ := hrel
    by_cases hlt : i < n
    · obtain ⟨x, hx⟩ := nth_of HL.out hlt
      obtain ⟨g, o, rfl, c0⟩ := (H.out.below HB.out).at_ hx
      have hk1 : (i : Int) < (n : Int) := by omega
      have hk0 : (0 : Int) ≤ (i : Int) := by omega
      have hxw := HW.out x (List.mem_of_getElem? hx)
      obtain ⟨d, hd⟩ : ∃ d, digOf x = d := ⟨_, rfl⟩
      have C : Hid (∀ v, Calls Tryd.prog 24 #[.int .i64 x] v fun e w' => e = .returned (.string d) ∧ Below v.heap.size v w') := fun v => by
        have := rdigits_any x hxw v
        rwa [hd] at this
      have hts : t.size ≤ 23 * i := by rw [← HT.out]; exact jrun_size l HW.out i
      have hds : d.size ≤ 22 := by rw [← hd]; exact digOf_size x hxw
      obtain ⟨t1, ht1⟩ : ∃ t1, (if i = 0 then t else t ++ ⟨#[44]⟩) = t1 := ⟨_, rfl⟩
      obtain ⟨t2, ht2⟩ : ∃ t2, t1 ++ d = t2 := ⟨_, rfl⟩
      have HT2 : Hid (jrun l (i + 1) = t2) := by
        show _ = _; rw [jrun, HT.out, hx, ht1]
        show t1 ++ digOf x = t2
        rw [hd, ht2]
      have hc44 : (⟨#[44]⟩ : ByteArray).size = 1 := rfl
      have ht1s : t1.size ≤ 23 * i + 1 := by
        rw [← ht1]; split
        · omega
        · rw [ByteArray.size_append]; omega
      have hadd2 := add_str t1 d t2 ht2 (by omega)
      by_cases h0 : i = 0
      · rw [if_pos h0] at ht1
        subst ht1
        have f1 : ¬ (0 : Int) < (i : Int) := by omega
        have f2 : ¬ 0 < i := by omega
        clear h0 hx hd ht2 hts hds ht1s hxw hc44
        go_wp2_with (go_at_call 24; (with_reducible refine (C.out _).mono ?_); rintro e w5 ⟨rfl, b5⟩; have B5 := Lib.hid (below_up HB.out b5); clear b5)
        go_roundw
        case rel => exact ⟨i + 1, t2, by omega, by go_num, rfl, HT2, B5⟩
        case measure => simp [intOf]; omega
      · rw [if_neg h0] at ht1
        have hadd1 := add_str t ⟨#[44]⟩ t1 ht1 (by omega)
        have f1 : (0 : Int) < (i : Int) := by omega
        have f2 : 0 < i := by omega
        clear h0 hx hd ht2 hts hds ht1s hxw ht1 hc44
        go_wp2_with (go_at_call 24; (with_reducible refine (C.out _).mono ?_); rintro e w5 ⟨rfl, b5⟩; have B5 := Lib.hid (below_up HB.out b5); clear b5)
        go_roundw
        case rel => exact ⟨i + 1, t2, by omega, by go_num, rfl, HT2, B5⟩
        case measure => simp [intOf]; omega
    · obtain rfl : n = i := by omega
      have HF : Hid (joinOf l = t) := by show _ = _; unfold joinOf; rw [HL.out]; exact HT.out
      go_wp2_with fail
      go_ret
      exact ⟨by rw [HF.out]; rfl, HB.out⟩
end Go.Proofs.YtbipjilpogbicaaDoor
