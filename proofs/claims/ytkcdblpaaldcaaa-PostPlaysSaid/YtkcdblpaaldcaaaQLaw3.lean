/-
  The walk over the statement that requests drained in two parts are those that are drained at once.
-/
import Derived.Test.YtkcdblpaaldcaaaQApp
import Derived.Test.YtkcdblpaaldcaaaQLaw2
import Derived.Laws.BitsLemmas
import Derived.Deep.Cut
namespace Go.Proofs.Ytkcdblpaaldcaaa
open Go.RowKit Go.Maps Go.Conc

theorem bits_low (n : Int) (k : Nat) (m : Int) (hm : (BitVec.ofInt 64 m).toNat = 2 ^ k - 1) (hk : k ≤ 62) : bits .and .i64 n m = n % ((2 ^ k : Nat) : Int) := by
  have key : (BitVec.ofInt 64 n &&& BitVec.ofInt 64 m).toNat = (n % ((2 ^ 64 : Nat) : Int)).toNat % 2 ^ k := by
    rw [BitVec.toNat_and, BitVec.toNat_ofInt, hm, Nat.and_two_pow_sub_one_eq_mod]
  show IntKind.i64.wrap ((BitVec.ofInt 64 n &&& BitVec.ofInt 64 m).toNat : Nat) = n % ((2 ^ k : Nat) : Int)
  rw [key, IntKind.wrap_i64]
  have h1 : (2 ^ k : Nat) ≤ 2 ^ 62 := Nat.pow_le_pow_right (by omega) hk
  have h2 : 0 < (2 ^ k : Nat) := Nat.two_pow_pos k
  have h3 : (2 ^ k : Nat) ∣ 2 ^ 64 := Nat.pow_dvd_pow 2 (by omega)
  have h4 : (((n % ((2 ^ 64 : Nat) : Int)).toNat % 2 ^ k : Nat) : Int) = n % ((2 ^ k : Nat) : Int) := by
    have h5 : ((n % ((2 ^ 64 : Nat) : Int)).toNat : Int) = n % ((2 ^ 64 : Nat) : Int) := Int.toNat_of_nonneg (Int.emod_nonneg _ (by decide))
    rw [Int.natCast_emod, h5]
    exact Int.emod_emod_of_dvd n (Int.natCast_dvd_natCast.2 h3)
  have h6 : (n % ((2 ^ 64 : Nat) : Int)).toNat % 2 ^ k < 2 ^ k := Nat.mod_lt _ h2
  rw [← h4]
  generalize (n % ((2 ^ 64 : Nat) : Int)).toNat % 2 ^ k = q at h6
  omega
theorem i64_and31 (n : Int) : bits .and .i64 n 31 = n % 32 := bits_low n 5 _ (by decide) (by omega)

theorem put_in {w : World} {b c n : Nat} {q : List Req} (x y : Int) (h : Box w b c n q false) (hq : q.length < n) :
    Calls Try.prog 19 #[.pointer (some ⟨b, 0, none⟩), .agg #[.int .i64 x, .int .i64 y]] w fun r w' => r = .returned (.bool true) ∧ Looks w b c n (q ++ [(x, y)]) false w' := by
  refine (put_some x y h).mono fun e w' ⟨h1, h2⟩ => ⟨?_, ?_⟩
  · rw [h1, show putB n q false = true from decide_eq_true ⟨rfl, hq⟩]
  · unfold putL at h2
    rw [if_pos ⟨rfl, hq⟩] at h2
    exact h2
theorem AsksB.two {w w' : World} {B b c : Nat} {v : Value} {l : List Req} (h : AsksB w B v l) (hb : b < B ∧ c < B) (t : Turn (Two b c) w w') : AsksB w' B v l :=
  h.kept t (fun k hk z => by have := h.new hk; rcases z with rfl | rfl <;> omega)
theorem AsksB.later {w w' : World} {B B' : Nat} {v : Value} {l : List Req} (h : AsksB w B v l) (hl : w.heap.size ≤ B') (t : Turn (New B') w w') : AsksB w' B v l :=
  h.kept t (fun k hk z => by have := h.asks.lt hk; unfold New at z; omega)
theorem AsksB.below {w w' : World} {B : Nat} {v : Value} {l : List Req} (h : AsksB w B v l) (t : Below w.heap.size w w') : AsksB w' B v l :=
  h.kept (Turn.of_below (S := fun _ => False) t) (fun _ _ z => z)

theorem turn_alloc {w w' : World} {B : Nat} {o : Obj} (t : Turn (New B) (w.alloc o) w') : Turn (New B) w w' := (Turn.of_below ((Below.refl _ _).alloc (Nat.le_refl _) o)).then t

set_option maxRecDepth 100000 in
set_option maxHeartbeats 4000000 in
theorem law_parts (W : World) (a : Option Addr) (len cap : Nat) (l : List Req) (h : IsAsks W a len cap l) (first : Int) (_ : (Lit.int .i64 first).wf = true) : Calls Try.prog 8 #[.slice a len cap, .int .i64 first] W fun e w' => e = .returned (.bool true) ∧ Below W.heap.size W w' := by
  have A := Lib.hid (awake_any W)
  have C20 := Lib.hid (fun w => new_lit 20 20 rfl (by omega) (by omega) w)
  have HI := Lib.hid h
  have hlen := h.hlen
  have hcap := h.hcap
  have hcap2 := h.hcap2
  obtain ⟨F, hF⟩ : ∃ F : Nat, first % 32 = (F : Int) := ⟨(first % 32).toNat, by omega⟩
  have hy : bits .and .i64 first 31 = (F : Int) := by rw [i64_and31]; exact hF
  have hF : (F : Int) < 32 := by omega
  clear h
  go_enter Try.func8, Try.ntmps8
  go_upto_if 15 with (go_at_call 9; (refine (A.out).mono ?_); rintro r w1 ⟨rfl, h1⟩; have H1 := Lib.hid h1; clear h1)
  go_cut [0] (fun u wx => (∃ m : Nat, m ≤ 20 ∧ m ≤ len ∧ u = .slice a m cap) ∧ Hid (Below W.heap.size W wx))
  case first =>
    by_cases hor : 20 < len
    · have h1 : (20 : Int) < (len : Int) := by omega
      have h2 : (20 : Int) ≤ (cap : Int) := by omega
      go_wp2_with (fail)
      go_meet
      exact ⟨⟨20, by omega, by omega, rfl⟩, H1⟩
    · have h1 : ¬ (20 : Int) < (len : Int) := by omega
      go_wp2_with (fail)
      go_meet
      exact ⟨⟨len, by omega, by omega, rfl⟩, H1⟩
  case rest =>
    obtain ⟨⟨m, hm20, hml, rfl⟩, HB⟩ := hcut
    clear H1 A
    go_wp2_with (first
      | (go_at_call 10; (with_reducible refine (C20.out _).mono ?_); rintro e w2 ⟨b, c, rfl, h2⟩; have H2 := Lib.hid (mine_new HB.out h2); clear h2 HB)
      | (go_at_call 10; (with_reducible refine (C20.out _).mono ?_); rintro e w3 ⟨b2, c2, rfl, h3⟩; have H3 := Lib.hid (both_new H2.out h3); clear h3 H2))
    go_loopw [8] (fun u wr => ∃ i : Nat, i ≤ m ∧ u = .int .i64 i ∧ Hid (Both W wr b c 20 (l.take i) false b2 c2 20 (l.take i) false)) (fun u _ => (m - intOf u).toNat)
    case atStart => exact ⟨0, by omega, rfl, by simpa using H3⟩
    case round =>
      obtain ⟨i, hi, rfl, HP⟩ := hrel
      clear H3
      by_cases hlt : i < m
      · obtain ⟨x, y, hx⟩ := nth_of HI.out.length (show i < len by omega)
        obtain ⟨g, o, rfl, c0, c1⟩ := (HI.out.view.below HP.out.one.low).at_ hx
        have hi1 : (i : Int) < (m : Int) := by omega
        have hi0 : (0 : Int) ≤ (i : Int) := by omega
        have hll : (l.take i).length < 20 := by rw [List.length_take]; omega
        have HX := Lib.hid hx
        have HLL := Lib.hid hll
        clear hx hll
        go_upto_region 12 with (go_at_call 19; (with_reducible refine (put_in x y HP.out.one.box HLL.out).mono ?_); rintro e w4 ⟨rfl, h4⟩; have H4 := Lib.hid (HP.out.step h4); clear h4)
        obtain ⟨g', o', e', d0, d1⟩ := (HI.out.view.below H4.out.one.low).at_ HX.out
        cases e'
        clear c0 c1
        go_wp2_with (go_at_call 19; (with_reducible refine (put_in x y H4.out.two.box HLL.out).mono ?_); rintro e w5 ⟨rfl, h5⟩; have H5 := Lib.hid (H4.out.step2 h5); clear h5)
        go_roundw
        case rel => exact ⟨i + 1, by omega, by go_num, by rw [take_next HX.out]; exact H5⟩
        case measure => simp [intOf]; omega
      · obtain rfl : i = m := by omega
        obtain ⟨t3, ht3⟩ : ∃ t3, t3 = i := ⟨_, rfl⟩
        obtain ⟨t1, ht1⟩ : ∃ t1, t1 = min i F := ⟨_, rfl⟩
        obtain ⟨t2, ht2⟩ : ∃ t2, t2 = i - t1 := ⟨_, rfl⟩
        obtain ⟨L, hL⟩ : ∃ L, L = l.take i := ⟨_, rfl⟩
        have HLn : Hid (L.length = i) := by show _ = _; rw [hL, List.length_take, HI.out.length]; omega
        have HT : Hid (t1 = min i F ∧ t1 + t2 = i ∧ t3 = i ∧ i ≤ 20) := ⟨ht1, by omega, ht3, by omega⟩
        have HP : Hid (Both W wr b c 20 L false b2 c2 20 L false) := by rw [hL]; exact HP
        have HBl := Lib.hid HP.out.lt
        clear hL ht1 ht2 ht3
        have CSm := Lib.hid (fun w (l1 l2 : List Req) a1 a2 k1 k2 (h1 : View w a1 l1) (h2 : View w a2 l2) (e : l1 = l2) (hl : l1.length = t3) => same_yes t3 k1 k2 (by have := HT.out; omega) a1 a2 l1 hl w h1 (e ▸ h2))
        have hFm : ((i : Int) < (F : Int)) ∨ ((F : Int) ≤ (i : Int)) := by omega
        go_upto_region 14 with (go_at_call 14; (with_reducible refine (drain_t (t := t1) (by have := HT.out; have := HLn.out; omega) HP.out.one.box).mono ?_); rintro e w2 ⟨a1, k1, rfl, h2⟩; have H2 := Lib.hid (HP.out.step h2.1); have A1 := Lib.hid h2.2; clear h2)
        go_upto_region 15 with (go_at_call 14; (with_reducible refine (drain_t (t := t2) (by have := HT.out; have := HLn.out; rw [List.length_drop]; omega) H2.out.one.box).mono ?_); rintro e w3 ⟨a2, k2, rfl, h3⟩; have H3 := Lib.hid (H2.out.step h3.1); have A2 := Lib.hid h3.2; have A1' := Lib.hid (A1.out.two ⟨HBl.out.1, HBl.out.2.1⟩ h3.1.2); clear h3)
        go_upto_region 16 with (first
          | (at_builtin; refine wp_append rfl _ _ rfl rfl rfl (asks_made w3) (by simp) ((view_of A1'.out).below ((Below.refl _ _).alloc (Nat.le_refl _) _)) (by have := HT.out; have := HLn.out; rw [List.length_take]; omega) (by have := HT.out; simp; omega) (view_none A1'.out) t1 (by simp) ?_; intro a4 k4 w4 o4 g4; have A4 := Lib.hid o4; have T4 := Lib.hid (turn_alloc (turn_grown (asks_made w3) g4)); clear o4 g4)
          | (at_builtin; refine wp_append rfl _ _ rfl rfl rfl A4.out T4.out.size (view_of (A2.out.later (Nat.le_refl _) T4.out)) (by have := HT.out; have := HLn.out; rw [List.length_take, List.length_drop]; omega) (by have := HT.out; have := HLn.out; simp; omega) (view_none A2.out) t3 (by have := HT.out; have := HLn.out; simp; omega) ?_; intro a5 k5 w5 o5 g5; have A5 := Lib.hid o5; have T5 := Lib.hid (T4.out.then (turn_grown A4.out g5)); have H5 := Lib.hid (H3.out.turn H3.out.one.low.size H3.out.lt T5.out); clear o5 g5)
          | (go_at_call 14; (with_reducible refine (drain_t (t := t3) (by have := HT.out; have := HLn.out; omega) H5.out.two.box).mono ?_); rintro e w6 ⟨a6, k6, rfl, h6⟩; have H6 := Lib.hid (H5.out.step2 h6.1); have A6 := Lib.hid h6.2; have A5' := Lib.hid (A5.out.two ⟨H3.out.lt.2.2.1, H3.out.lt.2.2.2⟩ h6.1.2); clear h6)
          | (go_at_call 13; (with_reducible refine (CSm.out w6 _ _ _ _ _ _ (view_of A5'.out) (view_of A6.out) (by have := HT.out; rw [List.nil_append, ← List.take_add]; congr 1; omega) (by have := HT.out; have := HLn.out; simp; omega)).mono ?_); rintro e w7 ⟨rfl, h7⟩; have H7 := Lib.hid (H6.out.below h7); clear h7))
        rcases hFm with hFm | hFm
        · obtain rfl : t1 = i := by have := HT.out; omega
          go_wp2_with (go_at_call 22; (with_reducible refine (mine_room (z := 20) H7.out.one (by have := HT.out; have := HLn.out; simp; omega)).mono ?_); rintro e w8 ⟨rfl, h8⟩; have H8 := Lib.hid h8.low; clear h8)
          go_ret
          exact ⟨rfl, H8.out⟩
        · obtain rfl : t1 = F := by have := HT.out; omega
          go_wp2_with (go_at_call 22; (with_reducible refine (mine_room (z := 20) H7.out.one (by have := HT.out; have := HLn.out; simp; omega)).mono ?_); rintro e w8 ⟨rfl, h8⟩; have H8 := Lib.hid h8.low; clear h8)
          go_ret
          exact ⟨rfl, H8.out⟩
end Go.Proofs.Ytkcdblpaaldcaaa
