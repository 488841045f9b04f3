/-
  The walk over the statement that what is dropped is never taken, and all else is.
-/
import Derived.Test.YtbmmigaabhnnfaaHLaw1
namespace Go.Proofs.Ytbmmigaabhnnfaa
open Go.RowKit Go.Maps

/-- How many of the first k are left. -/
def leftN (B : Nat → Bool) : Nat → Nat
  | 0 => 0
  | k + 1 => leftN B k + if B k then 0 else 1
theorem leftN_succ (B : Nat → Bool) (k : Nat) : leftN B (k + 1) = leftN B k + if B k = true then 0 else 1 := rfl
theorem leftN_le (B : Nat → Bool) : ∀ k, leftN B k ≤ k
  | 0 => Nat.le_refl _
  | k + 1 => by have := leftN_le B k; unfold leftN; split <;> omega
/-- What is there when those of the first k that B tells are dropped. -/
def dropC (M : Nat → Int) (B : Nat → Bool) (m k : Nat) (key : Int) : Option Int := if (0 ≤ key ∧ key < (m : Int)) ∧ ¬ (key < (k : Int) ∧ B key.toNat = true) then some (M key.toNat) else none
theorem dropC_zero (M : Nat → Int) (B : Nat → Bool) (m : Nat) : dropC M B m 0 = rowC M m := by
  funext key
  unfold dropC rowC
  by_cases h : 0 ≤ key ∧ key < (m : Int)
  · rw [if_pos h, if_pos ⟨h, fun q => by omega⟩]
  · rw [if_neg h, if_neg (fun q => h q.1)]
theorem dropC_at (M : Nat → Int) (B : Nat → Bool) {m k : Nat} (h : k < m) : dropC M B m k (k : Int) = some (M k) := by
  unfold dropC; rw [if_pos ⟨by omega, fun q => by omega⟩]; simp
theorem dropC_yes (M : Nat → Int) (B : Nat → Bool) {m k : Nat} (hb : B k = true) : cdel (dropC M B m k) (k : Int) = dropC M B m (k + 1) := by
  funext key
  unfold cdel dropC
  by_cases h : key = (k : Int)
  · rw [if_pos h, if_neg]
    rintro ⟨_, q⟩
    exact q ⟨by omega, by rw [h]; simpa using hb⟩
  · rw [if_neg h]
    by_cases g : (0 ≤ key ∧ key < (m : Int)) ∧ ¬ (key < (k : Int) ∧ B key.toNat = true)
    · rw [if_pos g, if_pos ⟨g.1, fun q => g.2 ⟨by omega, q.2⟩⟩]
    · rw [if_neg g, if_neg]
      rintro ⟨q1, q2⟩
      exact g ⟨q1, fun q => q2 ⟨by omega, q.2⟩⟩
theorem dropC_no (M : Nat → Int) (B : Nat → Bool) {m k : Nat} (hb : B k = false) : dropC M B m k = dropC M B m (k + 1) := by
  funext key
  unfold dropC
  by_cases h : key = (k : Int)
  · have : B key.toNat = false := by rw [h]; simpa using hb
    simp [this]
  · by_cases g : (0 ≤ key ∧ key < (m : Int)) ∧ ¬ (key < (k : Int) ∧ B key.toNat = true)
    · rw [if_pos g, if_pos ⟨g.1, fun q => g.2 ⟨by omega, q.2⟩⟩]
    · rw [if_neg g, if_neg]
      rintro ⟨q1, q2⟩
      exact g ⟨q1, fun q => q2 ⟨by omega, q.2⟩⟩
/-- All that is there was not dropped, and has its own number. -/
def SubC (M : Nat → Int) (B : Nat → Bool) (m : Nat) (c : Int → Option Int) : Prop := ∀ k x, c k = some x → ∃ j : Nat, j < m ∧ k = (j : Int) ∧ B j = false ∧ x = M j
theorem dropC_sub (M : Nat → Int) (B : Nat → Bool) (m : Nat) : SubC M B m (dropC M B m m) := by
  intro k x h
  unfold dropC at h
  split at h
  · rename_i q
    cases h
    refine ⟨k.toNat, by omega, by omega, ?_, rfl⟩
    cases hb : B k.toNat with
    | false => rfl
    | true => exact absurd ⟨by omega, hb⟩ q.2
  · cases h
theorem SubC.del {M : Nat → Int} {B : Nat → Bool} {m : Nat} {c : Int → Option Int} (h : SubC M B m c) (k : Int) : SubC M B m (cdel c k) := by
  intro j x q
  unfold cdel at q
  split at q
  · cases q
  · exact h j x q

theorem drop_one {W wr : World} {sb : Nat} {mv : Value} {Z : Nat → Int} {B : Nat → Bool} {k j : Nat} (hj : j < k) (hk : k ≤ 40) (hb : B j = true) (h : St W wr sb mv (leftN B j + (k - j)) k (dropC Z B k j)) :
    Calls Try.prog 17 #[.pointer (some ⟨sb, 0, none⟩), .int .i64 j] wr fun r w' => r = .returned (.bool true) ∧ St W w' sb mv (leftN B (j + 1) + (k - (j + 1))) k (dropC Z B k (j + 1)) := by
  have hle := leftN_le B j
  have := st_drop h (by omega) (by unfold maxLen; omega) (k := (j : Int)) (by unfold I64; omega)
  rw [dropC_at Z B hj, dropC_yes Z B hb, Option.isSome_some, if_pos rfl] at this
  have e : leftN B (j + 1) + (k - (j + 1)) = leftN B j + (k - j) - 1 := by rw [leftN_succ, hb, if_pos rfl]; omega
  rw [e]; exact this
theorem drop_two {W wr : World} {sb : Nat} {mv : Value} {Z : Nat → Int} {B : Nat → Bool} {k j : Nat} (hj : j < k) (hk : k ≤ 40) (hb : B j = true) (h : St W wr sb mv (leftN B (j + 1) + (k - (j + 1))) k (dropC Z B k (j + 1))) :
    Calls Try.prog 17 #[.pointer (some ⟨sb, 0, none⟩), .int .i64 j] wr fun r w' => r = .returned (.bool false) ∧ St W w' sb mv (leftN B (j + 1) + (k - (j + 1))) k (dropC Z B k (j + 1)) := by
  have hle := leftN_le B (j + 1)
  have hn : dropC Z B k (j + 1) (j : Int) = none := by
    unfold dropC; rw [if_neg]
    rintro ⟨_, q⟩
    exact q ⟨by omega, by simpa using hb⟩
  have he : cdel (dropC Z B k (j + 1)) (j : Int) = dropC Z B k (j + 1) := by
    funext key
    unfold cdel
    split
    · rename_i q; rw [q, hn]
    · rfl
  have := st_drop h (by omega) (by unfold maxLen; omega) (k := (j : Int)) (by unfold I64; omega)
  rw [hn, he] at this
  exact this
theorem take_sub {W wr : World} {sb : Nat} {mv : Value} {Z : Nat → Int} {B : Nat → Bool} {k q : Nat} (hk : k ≤ 40) (hq : q < 40) (h : ∃ c, SubC Z B k c ∧ St W wr sb mv (q + 1) k c) :
    Calls Try.prog 15 #[.pointer (some ⟨sb, 0, none⟩)] wr fun r w' => ∃ i : Nat, i < k ∧ r = .returned (.tuple #[.int .i64 i, .int .i64 (Z i), .bool true]) ∧ B i = false ∧ ∃ c, SubC Z B k c ∧ St W w' sb mv q k c := by
  obtain ⟨c, hs, h⟩ := h
  exact (st_take h (by omega) (by unfold maxLen; omega)).mono fun r w' ⟨k', x', a, b, d⟩ => by
    obtain ⟨i, h1, rfl, h3, rfl⟩ := hs _ _ b.1
    exact ⟨i, h1, a, h3, _, hs.del _, d⟩

set_option maxRecDepth 100000 in
set_option maxHeartbeats 4000000 in
theorem law_drops (a0 : Option Addr) (len cap m : Nat) (Z : Nat → Int) (which : Int) (hu : 0 ≤ which ∧ which < 18446744073709551616) (W : World) (hlen : (len : Int) ≤ 9223372036854775807) (hm : m = min len 40) (HZ : Hid (∀ k, k < len → I64 (Z k)))
    (HC : Hid (∀ k, k < len → ∃ b off, a0 = some ⟨b, off, none⟩ ∧ b < W.heap.size ∧ W.cell? ⟨b, off + k, none⟩ = some (.int .i64 (Z k)))) :
    Calls Try.prog 6 #[.slice a0 len cap, .int .u64 which] W fun e w' => e = .returned (.bool true) ∧ Below W.heap.size W w' := by
  have A := Lib.hid (awake_any W)
  have C0 := Lib.hid (fun w (h : Below W.heap.size W w) => st_new W w h)
  unfold lessV at C0
  have CP := Lib.hid (fun wr sb mv (k : Nat) (hk : k < 40) (hl : k < len) (h : St W wr sb mv k k (rowC Z k)) => st_put h (by omega) (by unfold maxLen; omega) (k := (k : Int)) (x := Z k) (by unfold I64; omega) (HZ.out k hl) (rowC_out Z k))
  generalize hBd : (fun j : Nat => (bits .and .u64 (which / 2 ^ j) 1 == 1)) = B
  have HB : Hid (∀ j : Nat, (bits .and .u64 (which / 2 ^ j) 1 == 1) = B j) := fun j => by rw [← hBd]
  clear hBd
  have CD1 := Lib.hid (fun wr sb mv (k j : Nat) (hj : j < k) (hk : k ≤ 40) (hb : B j = true) (h : St W wr sb mv (leftN B j + (k - j)) k (dropC Z B k j)) => drop_one hj hk hb h)
  have CD2 := Lib.hid (fun wr sb mv (k j : Nat) (hj : j < k) (hk : k ≤ 40) (hb : B j = true) (h : St W wr sb mv (leftN B (j + 1) + (k - (j + 1))) k (dropC Z B k (j + 1))) => drop_two hj hk hb h)
  have CT := Lib.hid (fun wr sb mv (q k : Nat) (hk : k ≤ 40) (hq : q < 40) (h : ∃ c, SubC Z B k c ∧ St W wr sb mv (q + 1) k c) => take_sub hk hq h)
  have CL := Lib.hid (fun wr sb mv (n N : Nat) c (h : St W wr sb mv n N c) => st_len h)
  have hm40 : m ≤ 40 := by omega
  have hml : m ≤ len := by omega
  have hor : m = len ∨ (m = 40 ∧ 40 < len) := by omega
  clear hm
  go_enter Try.func6, Try.ntmps6
  go_wp2_with (first
    | (go_at_call 9; (refine (A.out).mono ?_); rintro r w1 ⟨rfl, h1⟩; have H1 := Lib.hid h1; clear h1)
    | (go_at_call 10; (refine (C0.out _ H1.out).mono ?_); rintro r w2 ⟨sb, mv, rfl, h2⟩; have H2 := Lib.hid h2; clear h2))
  rw [← rowC_zero Z] at H2
  clear C0 A
  go_loopw [8] (fun u wr => ∃ k : Nat, k ≤ m ∧ u = .int .i64 k ∧ Hid (St W wr sb mv k k (rowC Z k))) (fun u _ => (m - intOf u).toNat)
  case atStart => exact ⟨0, by omega, rfl, H2⟩
  case round =>
    obtain ⟨k, hk, rfl, HS⟩ := hrel
    clear H1 H2
    by_cases hlt : k < m
    · obtain ⟨b, off, rfl, hb, ck⟩ := HC.out k (by omega)
      have ck : wr.cell? ⟨b, off + k, none⟩ = some (.int .i64 (Z k)) := by rw [HS.out.low.cell (p := ⟨b, off + k, none⟩) hb]; exact ck
      have C1 := Lib.hid (CP.out wr sb mv k (by omega) (by omega) HS.out)
      have hk1 : (k : Int) < (len : Int) := by omega
      have hk2 : (k : Int) < 40 := by omega
      rw [rowC_next] at C1
      clear HC CP HZ hb HS hor
      generalize Z k = z at ck C1
      go_wp2_with (go_at_call 19; (refine (C1.out).mono ?_); rintro r w3 ⟨rfl, h3⟩; have H3 := Lib.hid h3; clear h3)
      go_roundw
      case rel => exact ⟨k + 1, by omega, by go_num, H3⟩
      case measure => simp [intOf]; omega
    · obtain rfl : k = m := by omega
      clear CP HZ
      have hk40 := hm40
      have hor2 : (k : Int) = (len : Int) ∨ ((k : Int) = 40 ∧ (40 : Int) < (len : Int)) := by omega
      rcases hor2 with q | ⟨q1, q2⟩
      · have t1 : ¬ (k : Int) < (len : Int) := by omega
        go_wp2
        go_loopw [7, 9] (fun l i wr => ∃ j : Nat, j ≤ k ∧ i = .int .i64 j ∧ l = .int .i64 (leftN B j) ∧ Hid (St W wr sb mv (leftN B j + (k - j)) k (dropC Z B k j))) (fun _ i _ => (k - intOf i).toNat)
        case atStart => exact ⟨0, by omega, rfl, rfl, by rw [dropC_zero]; simpa [leftN] using HS⟩
        case round =>
          obtain ⟨j, hj, rfl, rfl, HD⟩ := hrel
          have hle := leftN_le B j
          by_cases hjl : j < k
          · have u1 : (j : Int) < (len : Int) := by omega
            have u2 : (j : Int) < 40 := by omega
            have hBj := HB.out j
            cases hb : B j with
            | true =>
              rw [hb] at hBj
              have C1 := Lib.hid (CD1.out wr sb mv k j hjl (by omega) hb HD.out)
              have C2 := Lib.hid (fun w h => CD2.out w sb mv k j hjl (by omega) hb h)
              have HL : Hid (leftN B (j + 1) = leftN B j) := by show _ = _; rw [leftN_succ, hb]; rfl
              clear HD hb HB HC CD1 CD2 CT CL hor t1 
              go_wp2_with (first
                | (go_at_call 17; (with_reducible refine (C1.out).mono ?_); rintro r w3 ⟨rfl, h3⟩; have H3 := Lib.hid h3; clear h3)
                | (go_at_call 17; (with_reducible refine (C2.out _ H3.out).mono ?_); rintro r w4 ⟨rfl, h4⟩; have H4 := Lib.hid h4; clear h4))
              go_roundw
              case rel => exact ⟨j + 1, by omega, by go_num, by rw [HL.out], H4⟩
              case measure => simp [intOf]; omega
            | false =>
              rw [hb] at hBj
              have HL : Hid (leftN B (j + 1) = leftN B j + 1) := by show _ = _; rw [leftN_succ, hb]; rfl
              have HE : Hid (dropC Z B k j = dropC Z B k (j + 1)) := dropC_no Z B hb
              clear hb HB HC CD1 CD2 CT CL hor t1 
              go_wp2
              go_roundw
              case rel => exact ⟨j + 1, by omega, by go_num, by rw [HL.out]; go_num, by
                have h := HD.out
                rw [HE.out] at h
                rw [HL.out]
                have e : leftN B j + (k - j) = leftN B j + 1 + (k - (j + 1)) := by omega
                rw [e] at h; exact h⟩
              case measure => simp [intOf]; omega
          · obtain rfl : j = k := by omega
            have HX : Hid (∃ c, SubC Z B j c ∧ St W wr sb mv (leftN B j - 0) j c) := ⟨_, dropC_sub Z B j, by have h := HD.out; rw [Nat.sub_self, Nat.add_zero] at h; exact h⟩
            have C1 := Lib.hid (CL.out wr sb mv (leftN B j) j _ (by have h := HD.out; rw [Nat.sub_self, Nat.add_zero] at h; exact h))
            clear HD CD1 CD2
            generalize leftN B j = left at HX C1 hle
            go_wp2_with (go_at_call 28; (with_reducible refine (C1.out).mono ?_); rintro r w3 ⟨rfl, rfl⟩)
            go_loopw [11] (fun i wr => ∃ q : Nat, q ≤ left ∧ i = .int .i64 q ∧ Hid (∃ c, SubC Z B j c ∧ St W wr sb mv (left - q) j c)) (fun i _ => (left - intOf i).toNat)
            case atStart => exact ⟨0, by omega, rfl, HX⟩
            case round =>
              obtain ⟨q, hq, rfl, HQ⟩ := hrel
              clear HX C1
              by_cases hql : q < left
              · have C2 := Lib.hid (CT.out wr sb mv (left - q - 1) j hk40 (by omega) (by have h := HQ.out; rw [show left - q - 1 + 1 = left - q by omega]; exact h))
                clear HQ CT CL t1 
                go_wp2_with (go_at_call 15; (with_reducible refine (C2.out).mono ?_); rintro r w4 ⟨i, hi, rfl, hb, h4⟩; have H4 := Lib.hid h4; obtain ⟨b, off, hab, hbb, ci⟩ := HC.out i (by omega); subst hab; have hBi := HB.out i; rw [hb] at hBi; have cj : w4.cell? ⟨b, off + i, none⟩ = some (.int .i64 (Z i)) := (by obtain ⟨c, _, hs⟩ := h4; rw [hs.low.cell (p := ⟨b, off + i, none⟩) hbb]; exact ci); have v1 : (i : Int) < (len : Int) := (by omega); have v2 : ¬ (len : Int) ≤ (i : Int) := (by omega); have v3 : (i : Int) < 64 := (by omega); have v4 : (0 : Int) ≤ (i : Int) := (by omega); clear h4 ci hb HC HB C2; generalize Z i = zi at cj)
                go_roundw
                case rel => exact ⟨q + 1, by omega, by go_num, by rw [show left - (q + 1) = left - q - 1 by omega]; exact H4.out⟩
                case measure => simp [intOf]; omega
              · obtain rfl : q = left := by omega
                obtain ⟨c, _, hs⟩ := HQ.out
                rw [Nat.sub_self] at hs
                have C2 := Lib.hid (CL.out wr sb mv 0 j c hs)
                have HW := Lib.hid hs.low
                clear hs HQ CT CL HC HB
                go_wp2_with (go_at_call 28; (with_reducible refine (C2.out).mono ?_); rintro r w3 ⟨rfl, rfl⟩)
                go_ret
                exact ⟨rfl, HW.out⟩
      · have t1 :  (k : Int) < (len : Int) := by omega
        have t2 : ¬ (k : Int) < 40 := by omega
        go_wp2
        go_loopw [7, 9] (fun l i wr => ∃ j : Nat, j ≤ k ∧ i = .int .i64 j ∧ l = .int .i64 (leftN B j) ∧ Hid (St W wr sb mv (leftN B j + (k - j)) k (dropC Z B k j))) (fun _ i _ => (k - intOf i).toNat)
        case atStart => exact ⟨0, by omega, rfl, rfl, by rw [dropC_zero]; simpa [leftN] using HS⟩
        case round =>
          obtain ⟨j, hj, rfl, rfl, HD⟩ := hrel
          have hle := leftN_le B j
          by_cases hjl : j < k
          · have u1 : (j : Int) < (len : Int) := by omega
            have u2 : (j : Int) < 40 := by omega
            have hBj := HB.out j
            cases hb : B j with
            | true =>
              rw [hb] at hBj
              have C1 := Lib.hid (CD1.out wr sb mv k j hjl (by omega) hb HD.out)
              have C2 := Lib.hid (fun w h => CD2.out w sb mv k j hjl (by omega) hb h)
              have HL : Hid (leftN B (j + 1) = leftN B j) := by show _ = _; rw [leftN_succ, hb]; rfl
              clear HD hb HB HC CD1 CD2 CT CL hor t1 t2
              go_wp2_with (first
                | (go_at_call 17; (with_reducible refine (C1.out).mono ?_); rintro r w3 ⟨rfl, h3⟩; have H3 := Lib.hid h3; clear h3)
                | (go_at_call 17; (with_reducible refine (C2.out _ H3.out).mono ?_); rintro r w4 ⟨rfl, h4⟩; have H4 := Lib.hid h4; clear h4))
              go_roundw
              case rel => exact ⟨j + 1, by omega, by go_num, by rw [HL.out], H4⟩
              case measure => simp [intOf]; omega
            | false =>
              rw [hb] at hBj
              have HL : Hid (leftN B (j + 1) = leftN B j + 1) := by show _ = _; rw [leftN_succ, hb]; rfl
              have HE : Hid (dropC Z B k j = dropC Z B k (j + 1)) := dropC_no Z B hb
              clear hb HB HC CD1 CD2 CT CL hor t1 t2
              go_wp2
              go_roundw
              case rel => exact ⟨j + 1, by omega, by go_num, by rw [HL.out]; go_num, by
                have h := HD.out
                rw [HE.out] at h
                rw [HL.out]
                have e : leftN B j + (k - j) = leftN B j + 1 + (k - (j + 1)) := by omega
                rw [e] at h; exact h⟩
              case measure => simp [intOf]; omega
          · obtain rfl : j = k := by omega
            have HX : Hid (∃ c, SubC Z B j c ∧ St W wr sb mv (leftN B j - 0) j c) := ⟨_, dropC_sub Z B j, by have h := HD.out; rw [Nat.sub_self, Nat.add_zero] at h; exact h⟩
            have C1 := Lib.hid (CL.out wr sb mv (leftN B j) j _ (by have h := HD.out; rw [Nat.sub_self, Nat.add_zero] at h; exact h))
            clear HD CD1 CD2
            generalize leftN B j = left at HX C1 hle
            go_wp2_with (go_at_call 28; (with_reducible refine (C1.out).mono ?_); rintro r w3 ⟨rfl, rfl⟩)
            go_loopw [11] (fun i wr => ∃ q : Nat, q ≤ left ∧ i = .int .i64 q ∧ Hid (∃ c, SubC Z B j c ∧ St W wr sb mv (left - q) j c)) (fun i _ => (left - intOf i).toNat)
            case atStart => exact ⟨0, by omega, rfl, HX⟩
            case round =>
              obtain ⟨q, hq, rfl, HQ⟩ := hrel
              clear HX C1
              by_cases hql : q < left
              · have C2 := Lib.hid (CT.out wr sb mv (left - q - 1) j hk40 (by omega) (by have h := HQ.out; rw [show left - q - 1 + 1 = left - q by omega]; exact h))
                clear HQ CT CL t1 t2
                go_wp2_with (go_at_call 15; (with_reducible refine (C2.out).mono ?_); rintro r w4 ⟨i, hi, rfl, hb, h4⟩; have H4 := Lib.hid h4; obtain ⟨b, off, hab, hbb, ci⟩ := HC.out i (by omega); subst hab; have hBi := HB.out i; rw [hb] at hBi; have cj : w4.cell? ⟨b, off + i, none⟩ = some (.int .i64 (Z i)) := (by obtain ⟨c, _, hs⟩ := h4; rw [hs.low.cell (p := ⟨b, off + i, none⟩) hbb]; exact ci); have v1 : (i : Int) < (len : Int) := (by omega); have v2 : ¬ (len : Int) ≤ (i : Int) := (by omega); have v3 : (i : Int) < 64 := (by omega); have v4 : (0 : Int) ≤ (i : Int) := (by omega); clear h4 ci hb HC HB C2; generalize Z i = zi at cj)
                go_roundw
                case rel => exact ⟨q + 1, by omega, by go_num, by rw [show left - (q + 1) = left - q - 1 by omega]; exact H4.out⟩
                case measure => simp [intOf]; omega
              · obtain rfl : q = left := by omega
                obtain ⟨c, _, hs⟩ := HQ.out
                rw [Nat.sub_self] at hs
                have C2 := Lib.hid (CL.out wr sb mv 0 j c hs)
                have HW := Lib.hid hs.low
                clear hs HQ CT CL HC HB
                go_wp2_with (go_at_call 28; (with_reducible refine (C2.out).mono ?_); rintro r w3 ⟨rfl, rfl⟩)
                go_ret
                exact ⟨rfl, HW.out⟩

theorem row_drops (W : World) (a0 : Option Addr) (len cap : Nat) (z : List Int) (hrow : IsRow .i64 W a0 len cap z) (which : Int) (h : (Lit.int .u64 which).wf = true) :
    Calls Try.prog 6 #[.slice a0 len cap, .int .u64 which] W fun e w' => e = .returned (.bool true) ∧ Below W.heap.size W w' := by
  obtain ⟨h1, h2, h3⟩ := row_in hrow
  exact law_drops a0 len cap (min len 40) (fun k => z.getD k 0) which (by simp [Lit.wf, IntKind.min, IntKind.max, IntKind.signed, IntKind.bits] at h; omega) W h1 rfl h2 h3

end Go.Proofs.Ytbmmigaabhnnfaa
