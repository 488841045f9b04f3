/-
  The walk over the statement that whatever the order in which keys are put, they are taken the same.
-/
import Derived.Test.YtbmmigaabhnnfaaHSame
import Derived.Test.YtbmmigaabhnnfaaHLaw1
namespace Go.Proofs.Ytbmmigaabhnnfaa
open Go.RowKit Go.Maps

theorem i64_and31 (n : Int) : bits .and .i64 n 31 = n % 32 := bits_low n 5 _ (by decide) (by omega)
theorem mod_two {x m : Nat} (h : x < 2 * m) : x % m = if x < m then x else x - m := by
  split
  · rename_i q; exact Nat.mod_eq_of_lt q
  · rename_i q
    rw [Nat.mod_eq_sub_mod (by omega), Nat.mod_eq_of_lt (by omega)]

/-- The numbers at the places that were turned to. -/
def turnC (Z : Nat → Int) (m t i : Nat) (key : Int) : Option Int := if (0 ≤ key ∧ key < (m : Int)) ∧ (key.toNat + (m - t)) % m < i then some (Z key.toNat) else none
theorem turnC_zero (Z : Nat → Int) (m t : Nat) : turnC Z m t 0 = fun _ => none := by funext k; unfold turnC; rw [if_neg (by omega)]
theorem turn_back {m t i : Nat} (ht : t < m) (hi : i < m) : ((i + t) % m + (m - t)) % m = i := by
  rw [mod_two (show i + t < 2 * m by omega)]
  split
  · rw [mod_two (by omega)]; split <;> omega
  · rw [mod_two (by omega)]; split <;> omega
theorem turn_forth {m t k : Nat} (ht : t < m) (hk : k < m) : ((k + (m - t)) % m + t) % m = k := by
  by_cases h0 : t = 0
  · subst h0
    rw [Nat.sub_zero, Nat.add_mod_right, Nat.add_zero, Nat.mod_mod, Nat.mod_eq_of_lt hk]
  · rw [mod_two (show k + (m - t) < 2 * m by omega)]
    split
    · rw [mod_two (by omega)]; split <;> omega
    · rw [mod_two (by omega)]; split <;> omega
theorem turnC_none (Z : Nat → Int) {m t i : Nat} (ht : t < m) (hi : i < m) : turnC Z m t i (((i + t) % m : Nat) : Int) = none := by
  unfold turnC; rw [if_neg]
  rintro ⟨_, q⟩
  rw [Int.toNat_natCast, turn_back ht hi] at q
  omega
theorem turnC_next (Z : Nat → Int) {m t i : Nat} (ht : t < m) (hi : i < m) : cput (turnC Z m t i) (((i + t) % m : Nat) : Int) (Z ((i + t) % m)) = turnC Z m t (i + 1) := by
  funext k
  unfold cput turnC
  have hl : (i + t) % m < m := Nat.mod_lt _ (by omega)
  by_cases h : k = (((i + t) % m : Nat) : Int)
  · subst h
    rw [if_pos rfl, Int.toNat_natCast, turn_back ht hi, if_pos (by omega)]
  · rw [if_neg h]
    by_cases g : (0 ≤ k ∧ k < (m : Int)) ∧ (k.toNat + (m - t)) % m < i
    · rw [if_pos g, if_pos ⟨g.1, by omega⟩]
    · rw [if_neg g, if_neg]
      rintro ⟨q1, q2⟩
      refine h ?_
      have e : (k.toNat + (m - t)) % m = i := by
        have : ¬ (k.toNat + (m - t)) % m < i := fun q => g ⟨q1, q⟩
        omega
      have := turn_forth ht (show k.toNat < m by omega)
      rw [e] at this
      omega
theorem turnC_end (Z : Nat → Int) {m t : Nat} (hm : 0 < m) : turnC Z m t m = rowC Z m := by
  funext k
  unfold turnC rowC
  have := Nat.mod_lt (k.toNat + (m - t)) hm
  by_cases g : 0 ≤ k ∧ k < (m : Int)
  · rw [if_pos g, if_pos ⟨g, this⟩]
  · rw [if_neg g, if_neg (fun q => g q.1)]

/-- Two heaps of a call's own, that share no block. -/
structure Pair (W w : World) (sa : Nat) (ma : Value) (na : Nat) (ca : Int → Option Int) (sb : Nat) (mb : Value) (nb : Nat) (cb : Int → Option Int) : Prop where
  ha : ma ≠ .map none
  hb : mb ≠ .map none
  low : Below W.heap.size W w
  ex : ∃ A B, Hp w sa ma A na na ca ∧ Hp w sb mb B nb nb cb ∧ (∀ k, A k → W.heap.size ≤ k) ∧ (∀ k, B k → W.heap.size ≤ k) ∧ ∀ k, A k → ¬ B k
theorem Pair.below {W w w' : World} {sa na sb nb : Nat} {ma mb : Value} {ca cb : Int → Option Int} (h : Pair W w sa ma na ca sb mb nb cb) (hb : Below w.heap.size w w') : Pair W w' sa ma na ca sb mb nb cb := by
  obtain ⟨A, B, h1, h2, h3, h4, h5⟩ := h.ex
  exact ⟨h.ha, h.hb, h.low.trans (hb.mono h.low.size), A, B, h1.below hb, h2.below hb, h3, h4, h5⟩
theorem Pair.swap {W w : World} {sa na sb nb : Nat} {ma mb : Value} {ca cb : Int → Option Int} (h : Pair W w sa ma na ca sb mb nb cb) : Pair W w sb mb nb cb sa ma na ca := by
  obtain ⟨A, B, h1, h2, h3, h4, h5⟩ := h.ex
  exact ⟨h.hb, h.ha, h.low, B, A, h2, h1, h4, h3, fun k hb ha => h5 k ha hb⟩
theorem pair_new {W w : World} {sa na : Nat} {ma : Value} {ca : Int → Option Int} (h : St W w sa ma na na ca) : Calls Try.prog 10 #[lessV] w fun r w' => ∃ sb mb, r = .returned (.pointer (some ⟨sb, 0, none⟩)) ∧ Pair W w' sa ma na ca sb mb 0 (fun _ => none) := by
  obtain ⟨h1, h2, A, h3, h4⟩ := h
  refine (new_any w).mono fun r w' ⟨sb, mb, B, a, b, c, d, e⟩ => ⟨sb, mb, a, h1, c, h2.trans (d.mono h2.size), A, B, h3.below d, b, h4, fun k hk => Nat.le_trans h2.size (e k hk), fun k ha hb => ?_⟩
  have := h3.lt ha
  have := e k hb
  omega
theorem pair_put {W w : World} {sa na sb nb : Nat} {ma mb : Value} {ca cb : Int → Option Int} (h : Pair W w sa ma na ca sb mb nb cb) (hn : (na : Int) + 1 ≤ 1000000) (hN : na + 1 < maxLen) {k x : Int} (hk : I64 k) (hx : I64 x) (hc : ca k = none) :
    Calls Try.prog 19 #[.pointer (some ⟨sa, 0, none⟩), .int .i64 k, .int .i64 x] w fun r w' => r = .returned (.bool true) ∧ Pair W w' sa ma (na + 1) (cput ca k x) sb mb nb cb := by
  obtain ⟨A, B, h1, h2, h3, h4, h5⟩ := h.ex
  refine (put_any hn hN h.ha h1 hk hx hc).mono fun r w' ⟨a, A', d1, d2, d3⟩ => ⟨a, h.ha, h.hb, h.low.trans (d2.below h.low.size h3), A', B, d1, h2.kept d2 (fun k hb ha => h5 k ha hb), fun k hk => ?_, h4, fun k ha hb => ?_⟩
  · rcases d3 k hk with q | q
    · exact h3 k q
    · exact Nat.le_trans h.low.size q
  · rcases d3 k ha with q | q
    · exact h5 k q hb
    · have := h2.lt hb; omega
theorem pair_put_b {W w : World} {sa na sb nb : Nat} {ma mb : Value} {ca cb : Int → Option Int} (h : Pair W w sa ma na ca sb mb nb cb) (hn : (nb : Int) + 1 ≤ 1000000) (hN : nb + 1 < maxLen) {k x : Int} (hk : I64 k) (hx : I64 x) (hc : cb k = none) :
    Calls Try.prog 19 #[.pointer (some ⟨sb, 0, none⟩), .int .i64 k, .int .i64 x] w fun r w' => r = .returned (.bool true) ∧ Pair W w' sa ma na ca sb mb (nb + 1) (cput cb k x) :=
  (pair_put h.swap hn hN hk hx hc).mono fun _ _ ⟨a, b⟩ => ⟨a, b.swap⟩
/-- The keys of one, while the other stays. -/
def Told (W : World) (n : Nat) (c : Int → Option Int) (L : List Int) (a : Option Addr) (w : World) : Prop := L.length = n ∧ Reads w w.heap.size a L ∧ ∃ c', DrainsTo c' c L ∧ ∀ k, c' k = none
theorem Told.below {W w w' : World} {n : Nat} {c : Int → Option Int} {L : List Int} {a : Option Addr} (h : Told W n c L a w) (hb : Below w.heap.size w w') : Told W n c L a w' := ⟨h.1, h.2.1.later (Nat.le_refl _) hb, h.2.2⟩
theorem told_same {W w : World} {n : Nat} {c : Int → Option Int} {L L' : List Int} {a a' : Option Addr} (h : Told W n c L a w) (h' : Told W n c L' a' w) : L = L' := by
  obtain ⟨c1, d1, e1⟩ := h.2.2
  obtain ⟨c2, d2, e2⟩ := h'.2.2
  exact drains_unique e1 e2 d1 d2
theorem pair_keys {W w : World} {sa na sb nb : Nat} {ma mb : Value} {ca cb : Int → Option Int} (h : Pair W w sa ma na ca sb mb nb cb) (hn : (na : Int) ≤ 100000) :
    Calls Try.prog 26 #[.pointer (some ⟨sa, 0, none⟩)] w fun r w' => ∃ a cap L, r = .returned (.slice a na cap) ∧ Told W na ca L a w' ∧ Below w.heap.size w w' ∧ Pair W w' sa ma na ca sb mb nb cb := by
  obtain ⟨A, B, h1, h2, h3, h4, h5⟩ := h.ex
  exact (keys_any hn h1).mono fun r w' ⟨a, cap, L, c', e1, e2, e3, e4, e5, e6⟩ => ⟨a, cap, L, e1, ⟨e2, e3, c', e4, e5⟩, e6, h.below e6⟩
theorem pair_len {W w : World} {sa na sb nb : Nat} {ma mb : Value} {ca cb : Int → Option Int} (h : Pair W w sa ma na ca sb mb nb cb) :
    Calls Try.prog 28 #[.pointer (some ⟨sa, 0, none⟩)] w fun r w' => r = .returned (.int .i64 (na : Int)) ∧ w = w' := by
  obtain ⟨A, B, h1, _⟩ := h.ex
  exact len_any h1
theorem same_told {W w : World} {n : Nat} {c : Int → Option Int} {L L' : List Int} {a a' : Option Addr} {cap cap' : Nat} (hn : (n : Int) ≤ 100000) (h : Told W n c L a w) (h' : Told W n c L' a' w) :
    Calls Try.prog 25 #[.slice a n cap, .slice a' n cap'] w fun e w' => e = .returned (.bool true) ∧ Below w.heap.size w w' := by
  have e := told_same h h'
  subst e
  have h1 := h.1
  subst h1
  exact same_any L (by omega) a a' cap cap' w h.2.1 h'.2.1

set_option maxRecDepth 100000 in
set_option maxHeartbeats 4000000 in
theorem law_same (a0 : Option Addr) (len cap : Nat) (Z : Nat → Int) (turn : Int) (W : World) (hlen : (len : Int) ≤ 9223372036854775807) (hcap : len ≤ cap) (hcap2 : (cap : Int) ≤ 9223372036854775807) (HZ : Hid (∀ k, k < len → I64 (Z k)))
    (HC : Hid (∀ k, k < len → ∃ b off, a0 = some ⟨b, off, none⟩ ∧ b < W.heap.size ∧ W.cell? ⟨b, off + k, none⟩ = some (.int .i64 (Z k)))) :
    Calls Try.prog 8 #[.slice a0 len cap, .int .i64 turn] W fun e w' => e = .returned (.bool true) ∧ Below W.heap.size W w' := by
  have A := Lib.hid (awake_any W)
  have C0 := Lib.hid (fun w (h : Below W.heap.size W w) => st_new W w h)
  have CP := Lib.hid (fun w sa ma (h : St W w sa ma 0 0 (fun _ => none)) => pair_new h)
  unfold lessV at C0 CP
  obtain ⟨T, hT⟩ : ∃ T : Nat, turn % 32 = (T : Int) := ⟨(turn % 32).toNat, by omega⟩
  have hy : bits .and .i64 turn 31 = (T : Int) := by rw [i64_and31]; exact hT
  have hT : (T : Int) < 32 := by omega
  go_enter Try.func8, Try.ntmps8
  go_upto_region 6 with (first
    | (go_at_call 9; (refine (A.out).mono ?_); rintro r w1 ⟨rfl, h1⟩; have H1 := Lib.hid h1; clear h1)
    | (go_at_call 10; (with_reducible refine (C0.out _ H1.out).mono ?_); rintro r w2 ⟨sa, ma, rfl, h2⟩; have H2 := Lib.hid h2; clear h2 H1)
    | (go_at_call 10; (with_reducible refine (CP.out _ _ _ H2.out).mono ?_); rintro r w3 ⟨sb, mb, rfl, h3⟩; have H3 := Lib.hid h3; clear h3 H2))
  clear A C0 CP
  by_cases hor : 30 < len
  · have hc2 : 30 ≤ cap := by omega
    have ho2 : (30 : Int) < (len : Int) := by omega
    have hc3 : (30 : Int) ≤ (cap : Int) := by omega
    clear hor hc2
    have CN := Lib.hid (fun wr (i : Nat) (hi : i < 30) (h : Pair W wr sa ma i (rowC Z i) sb mb i (turnC Z 30 (T % 30) i)) => pair_put h (by omega) (by unfold maxLen; omega) (k := (i : Int)) (x := Z i) (by unfold I64; omega) (HZ.out i (by omega)) (rowC_out Z i))
    have CM := Lib.hid (fun wr (i : Nat) (hi : i < 30) (h : Pair W wr sa ma (i + 1) (rowC Z (i + 1)) sb mb i (turnC Z 30 (T % 30) i)) => pair_put_b h (by omega) (by unfold maxLen; omega) (k := (((i + T % 30) % 30 : Nat) : Int)) (x := Z ((i + T % 30) % 30)) (by have := Nat.mod_lt (i + T % 30) (show 0 < 30 by omega); unfold I64; omega) (HZ.out _ (by have := Nat.mod_lt (i + T % 30) (show 0 < 30 by omega); omega)) (turnC_none Z (Nat.mod_lt _ (by omega)) hi))
    have CK := Lib.hid (fun wr (h : Pair W wr sa ma 30 (rowC Z 30) sb mb 30 (rowC Z 30)) => pair_keys h (by omega))
    have CK2 := Lib.hid (fun wr (h : Pair W wr sa ma 30 (rowC Z 30) sb mb 30 (rowC Z 30)) => pair_keys h.swap (by omega))
    have CSm := Lib.hid (fun w L L' a a' cap cap' (h : Told W 30 (rowC Z 30) L a w) (h' : Told W 30 (rowC Z 30) L' a' w) => same_told (cap := cap) (cap' := cap') (show ((30 : Nat) : Int) ≤ 100000 by omega) h h')
    have CLn := Lib.hid (fun wr (h : Pair W wr sa ma 30 (rowC Z 30) sb mb 30 (rowC Z 30)) => pair_len h)
    go_wp2
    go_loopw [8] (fun u wr => ∃ i : Nat, i ≤ 30 ∧ u = .int .i64 i ∧ Hid (Pair W wr sa ma i (rowC Z i) sb mb i (turnC Z 30 (T % 30) i))) (fun u _ => (30 - intOf u).toNat)
    case atStart => exact ⟨0, by omega, rfl, by rw [turnC_zero, rowC_zero]; exact H3.out⟩
    case round =>
      obtain ⟨i, hi, rfl, HP⟩ := hrel
      clear H3
      by_cases hlt : i < 30
      · have hTm : (T : Int) % (30 : Int) = ((T % 30 : Nat) : Int) := by omega
        have hTm2 : (T : Int).tmod (30 : Int) = ((T % 30 : Nat) : Int) := by rw [Int.tmod_eq_emod_of_nonneg (by omega)]; exact hTm
        have htl := Nat.mod_lt T (show 0 < 30 by omega)
        obtain ⟨b, off, hab, hbb, ci⟩ := HC.out i (by omega)
        subst hab
        have ci : wr.cell? ⟨b, off + i, none⟩ = some (.int .i64 (Z i)) := by rw [HP.out.low.cell (p := ⟨b, off + i, none⟩) hbb]; exact ci
        have C1 := Lib.hid (CN.out wr i hlt HP.out)
        rw [rowC_next] at C1
        have C2 := Lib.hid (fun wr h => CM.out wr i hlt h)
        have hN := turnC_next Z htl hlt
        rw [hN] at C2
        clear hN
        have hkk : Hid (∀ w3, Below W.heap.size W w3 → w3.cell? ⟨b, off + (i + T % 30) % 30, none⟩ = some (.int .i64 (Z ((i + T % 30) % 30)))) := fun w3 hw3 => by
          obtain ⟨b', off', hab, hbb', ck⟩ := HC.out ((i + T % 30) % 30) (by have := Nat.mod_lt (i + T % 30) (show 0 < 30 by omega); omega)
          cases hab
          rw [hw3.cell (p := ⟨b, off + (i + T % 30) % 30, none⟩) hbb]; exact ck
        have hki : ((i : Int) + ((T % 30 : Nat) : Int)) % (30 : Int) = (((i + T % 30) % 30 : Nat) : Int) := by simp
        have hki2 : ((i : Int) + ((T % 30 : Nat) : Int)).tmod (30 : Int) = (((i + T % 30) % 30 : Nat) : Int) := by rw [Int.tmod_eq_emod_of_nonneg (by omega)]; exact hki
        have hkl := Nat.mod_lt (i + T % 30) (show 0 < 30 by omega)
        have hi1 : (i : Int) < (30 : Int) := by omega
        have hmz : ¬ (30 : Int) = 0 := by omega
        have hmz2 : ((30 : Int) == (0 : Int)) = false := by first | rfl | (rw [beq_eq_false_iff_ne]; omega)
        clear CN CM CK CK2 CSm CLn HP HC HZ
        generalize T % 30 = t at *
        generalize (i + t) % 30 = k at *
        have hk1 : (k : Int) < (30 : Int) := by omega
        have hk0 : (0 : Int) ≤ (k : Int) := by omega
        generalize Z i = zi at ci C1
        generalize Z k = zk at hkk C2
        go_wp2_with (first
          | (go_at_call 19; (with_reducible refine (C1.out).mono ?_); rintro r w4 ⟨rfl, h4⟩; have H4 := Lib.hid h4; have ck := hkk.out _ h4.low; clear h4)
          | (go_at_call 19; (with_reducible refine (C2.out _ H4.out).mono ?_); rintro r w5 ⟨rfl, h5⟩; have H5 := Lib.hid h5; clear h5))
        go_roundw
        case rel => exact ⟨i + 1, by omega, by go_num, H5⟩
        case measure => simp [intOf]; omega
      · obtain rfl : 30 = i := by omega
        have HQ : Hid (Pair W wr sa ma 30 (rowC Z 30) sb mb 30 (rowC Z 30)) := by
          have h := HP.out
          by_cases h0 : 0 < 30
          · rw [turnC_end Z h0] at h; exact h
          · obtain hz : 30 = 0 := by omega
            rw [hz] at h ⊢
            rw [turnC_zero] at h
            rw [rowC_zero] at h ⊢; exact h
        clear HP CN CM HC HZ hT
        go_wp2_with (first
          | (go_at_call 26; (with_reducible refine (CK.out _ HQ.out).mono ?_); rintro r w4 ⟨a, cap1, L, rfl, h4, hb4, hp4⟩; have HT4 := Lib.hid h4; have HP4 := Lib.hid hp4; clear h4 hb4 hp4)
          | (go_at_call 26; (with_reducible refine (CK2.out _ HP4.out).mono ?_); rintro r w5 ⟨a', cap2, L', rfl, h5, hb5, hp5⟩; have HT5 := Lib.hid h5; have HT6 := Lib.hid (HT4.out.below hb5); have HP5 := Lib.hid hp5.swap; clear h5 hb5 hp5)
          | (go_at_call 25; (with_reducible refine (CSm.out _ _ _ _ _ _ _ HT6.out HT5.out).mono ?_); rintro r w6 ⟨rfl, h6⟩; have HP6 := Lib.hid (HP5.out.below h6); clear h6)
          | (go_at_call 28; (with_reducible refine (CLn.out _ HP6.out).mono ?_); rintro r w7 ⟨rfl, rfl⟩))
        go_ret
        exact ⟨rfl, HP6.out.low⟩
  · have hc2 : True := trivial
    have ho2 : ¬ (30 : Int) < (len : Int) := by omega
    have hor : len ≤ 30 := by omega
    have hor3 := hor
    clear hor hc2
    have CN := Lib.hid (fun wr (i : Nat) (hi : i < len) (h : Pair W wr sa ma i (rowC Z i) sb mb i (turnC Z len (T % len) i)) => pair_put h (by omega) (by unfold maxLen; omega) (k := (i : Int)) (x := Z i) (by unfold I64; omega) (HZ.out i (by omega)) (rowC_out Z i))
    have CM := Lib.hid (fun wr (i : Nat) (hi : i < len) (h : Pair W wr sa ma (i + 1) (rowC Z (i + 1)) sb mb i (turnC Z len (T % len) i)) => pair_put_b h (by omega) (by unfold maxLen; omega) (k := (((i + T % len) % len : Nat) : Int)) (x := Z ((i + T % len) % len)) (by have := Nat.mod_lt (i + T % len) (show 0 < len by omega); unfold I64; omega) (HZ.out _ (by have := Nat.mod_lt (i + T % len) (show 0 < len by omega); omega)) (turnC_none Z (Nat.mod_lt _ (by omega)) hi))
    have CK := Lib.hid (fun wr (h : Pair W wr sa ma len (rowC Z len) sb mb len (rowC Z len)) => pair_keys h (by omega))
    have CK2 := Lib.hid (fun wr (h : Pair W wr sa ma len (rowC Z len) sb mb len (rowC Z len)) => pair_keys h.swap (by omega))
    have CSm := Lib.hid (fun w L L' a a' cap cap' (h : Told W len (rowC Z len) L a w) (h' : Told W len (rowC Z len) L' a' w) => same_told (cap := cap) (cap' := cap') (show ((len : Nat) : Int) ≤ 100000 by omega) h h')
    have CLn := Lib.hid (fun wr (h : Pair W wr sa ma len (rowC Z len) sb mb len (rowC Z len)) => pair_len h)
    go_wp2
    go_loopw [8] (fun u wr => ∃ i : Nat, i ≤ len ∧ u = .int .i64 i ∧ Hid (Pair W wr sa ma i (rowC Z i) sb mb i (turnC Z len (T % len) i))) (fun u _ => (len - intOf u).toNat)
    case atStart => exact ⟨0, by omega, rfl, by rw [turnC_zero, rowC_zero]; exact H3.out⟩
    case round =>
      obtain ⟨i, hi, rfl, HP⟩ := hrel
      clear H3
      by_cases hlt : i < len
      · have hTm : (T : Int) % (len : Int) = ((T % len : Nat) : Int) := by omega
        have hTm2 : (T : Int).tmod (len : Int) = ((T % len : Nat) : Int) := by rw [Int.tmod_eq_emod_of_nonneg (by omega)]; exact hTm
        have htl := Nat.mod_lt T (show 0 < len by omega)
        obtain ⟨b, off, hab, hbb, ci⟩ := HC.out i (by omega)
        subst hab
        have ci : wr.cell? ⟨b, off + i, none⟩ = some (.int .i64 (Z i)) := by rw [HP.out.low.cell (p := ⟨b, off + i, none⟩) hbb]; exact ci
        have C1 := Lib.hid (CN.out wr i hlt HP.out)
        rw [rowC_next] at C1
        have C2 := Lib.hid (fun wr h => CM.out wr i hlt h)
        have hN := turnC_next Z htl hlt
        rw [hN] at C2
        clear hN
        have hkk : Hid (∀ w3, Below W.heap.size W w3 → w3.cell? ⟨b, off + (i + T % len) % len, none⟩ = some (.int .i64 (Z ((i + T % len) % len)))) := fun w3 hw3 => by
          obtain ⟨b', off', hab, hbb', ck⟩ := HC.out ((i + T % len) % len) (by have := Nat.mod_lt (i + T % len) (show 0 < len by omega); omega)
          cases hab
          rw [hw3.cell (p := ⟨b, off + (i + T % len) % len, none⟩) hbb]; exact ck
        have hki : ((i : Int) + ((T % len : Nat) : Int)) % (len : Int) = (((i + T % len) % len : Nat) : Int) := by simp
        have hki2 : ((i : Int) + ((T % len : Nat) : Int)).tmod (len : Int) = (((i + T % len) % len : Nat) : Int) := by rw [Int.tmod_eq_emod_of_nonneg (by omega)]; exact hki
        have hkl := Nat.mod_lt (i + T % len) (show 0 < len by omega)
        have hi1 : (i : Int) < (len : Int) := by omega
        have hmz : ¬ (len : Int) = 0 := by omega
        have hmz2 : ((len : Int) == (0 : Int)) = false := by first | rfl | (rw [beq_eq_false_iff_ne]; omega)
        clear CN CM CK CK2 CSm CLn HP HC HZ
        generalize T % len = t at *
        generalize (i + t) % len = k at *
        have hk1 : (k : Int) < (len : Int) := by omega
        have hk0 : (0 : Int) ≤ (k : Int) := by omega
        generalize Z i = zi at ci C1
        generalize Z k = zk at hkk C2
        go_wp2_with (first
          | (go_at_call 19; (with_reducible refine (C1.out).mono ?_); rintro r w4 ⟨rfl, h4⟩; have H4 := Lib.hid h4; have ck := hkk.out _ h4.low; clear h4)
          | (go_at_call 19; (with_reducible refine (C2.out _ H4.out).mono ?_); rintro r w5 ⟨rfl, h5⟩; have H5 := Lib.hid h5; clear h5))
        go_roundw
        case rel => exact ⟨i + 1, by omega, by go_num, H5⟩
        case measure => simp [intOf]; omega
      · obtain rfl : len = i := by omega
        have HQ : Hid (Pair W wr sa ma len (rowC Z len) sb mb len (rowC Z len)) := by
          have h := HP.out
          by_cases h0 : 0 < len
          · rw [turnC_end Z h0] at h; exact h
          · obtain hz : len = 0 := by omega
            rw [hz] at h ⊢
            rw [turnC_zero] at h
            rw [rowC_zero] at h ⊢; exact h
        clear HP CN CM HC HZ hT
        go_wp2_with (first
          | (go_at_call 26; (with_reducible refine (CK.out _ HQ.out).mono ?_); rintro r w4 ⟨a, cap1, L, rfl, h4, hb4, hp4⟩; have HT4 := Lib.hid h4; have HP4 := Lib.hid hp4; clear h4 hb4 hp4)
          | (go_at_call 26; (with_reducible refine (CK2.out _ HP4.out).mono ?_); rintro r w5 ⟨a', cap2, L', rfl, h5, hb5, hp5⟩; have HT5 := Lib.hid h5; have HT6 := Lib.hid (HT4.out.below hb5); have HP5 := Lib.hid hp5.swap; clear h5 hb5 hp5)
          | (go_at_call 25; (with_reducible refine (CSm.out _ _ _ _ _ _ _ HT6.out HT5.out).mono ?_); rintro r w6 ⟨rfl, h6⟩; have HP6 := Lib.hid (HP5.out.below h6); clear h6)
          | (go_at_call 28; (with_reducible refine (CLn.out _ HP6.out).mono ?_); rintro r w7 ⟨rfl, rfl⟩))
        go_ret
        exact ⟨rfl, HP6.out.low⟩

theorem row_same (W : World) (a0 : Option Addr) (len cap : Nat) (z : List Int) (hrow : IsRow .i64 W a0 len cap z) (turn : Int) (_h : (Lit.int .i64 turn).wf = true) :
    Calls Try.prog 8 #[.slice a0 len cap, .int .i64 turn] W fun e w' => e = .returned (.bool true) ∧ Below W.heap.size W w' := by
  obtain ⟨h1, h2, h3⟩ := row_in hrow
  obtain ⟨_, _, _, h4, h5, _⟩ := isrow_reads hrow
  exact law_same a0 len cap (fun k => z.getD k 0) turn W h1 h4 h5 h2 h3

end Go.Proofs.Ytbmmigaabhnnfaa
