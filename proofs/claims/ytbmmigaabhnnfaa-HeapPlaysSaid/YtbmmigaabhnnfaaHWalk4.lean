/-
  The walks over a key that goes ahead of others, and over one that lets others go ahead.
-/
import Derived.Test.YtbmmigaabhnnfaaHWalk3
namespace Go.Proofs.Ytbmmigaabhnnfaa
open Go.RowKit Go.Maps

/-- On the way up: the one that goes ahead is at k. -/
structure UpSt (w : World) (sb g cap : Nat) (mv : Value) (n N : Nat) (e : Nat → Int × Int) (i : Nat) (wr : World) (k : Nat) (e' : Nat → Int × Int) (f' : Int → Option Int) : Prop where
  lt : k < n
  hm : Hm wr sb g cap mv n N e' f'
  same : Same n e e'
  turn : Turn (Two2 g mv) w wr
  up : UpInv n e i → UpInv n e' k
  stay : (i = 0 ∨ lt2 (e i) (e (par i)) = false) → e' = e ∧ k = i

/-- What is left behind: the same keys, in order if they were but for the one. -/
structure UpDone (w : World) (sb g cap : Nat) (mv : Value) (n N : Nat) (e : Nat → Int × Int) (i : Nat) (w' : World) (e' : Nat → Int × Int) (f' : Int → Option Int) : Prop where
  hm : Hm w' sb g cap mv n N e' f'
  same : Same n e e'
  turn : Turn (Two2 g mv) w w'
  up : UpInv n e i → Ord n e'
  stay : (i = 0 ∨ lt2 (e i) (e (par i)) = false) → e' = e
def UpPost (w : World) (sb g cap : Nat) (mv : Value) (n N : Nat) (e : Nat → Int × Int) (i : Nat) (r : Ending) (w' : World) : Prop :=
  r = .returned (.tuple #[]) ∧ ∃ e' f', UpDone w sb g cap mv n N e i w' e' f'

theorem up_done {w : World} {sb g cap : Nat} {mv : Value} {n N : Nat} {e : Nat → Int × Int} {i : Nat} {wr w1 : World} {k : Nat} {e' : Nat → Int × Int} {f' : Int → Option Int} (h : UpSt w sb g cap mv n N e i wr k e' f') (hb : Below wr.heap.size wr w1)
    (hs : k = 0 ∨ lt2 (e' k) (e' (par k)) = false) : UpDone w sb g cap mv n N e i w1 e' f' :=
  ⟨h.hm.below hb, h.same, h.turn.then (Turn.of_below hb), fun q => up_stop (h.up q) hs, fun q => (h.stay q).1⟩

theorem up_next {w : World} {sb g cap : Nat} {mv : Value} {n N : Nat} {e : Nat → Int × Int} {i : Nat} {wr w1 w2 : World} {k : Nat} {e' : Nat → Int × Int} {f' f2 : Int → Option Int} (h : UpSt w sb g cap mv n N e i wr k e' f') (hk : 0 < k) (hs : lt2 (e' k) (e' (par k)) = true)
    (hb : Below wr.heap.size wr w1) (h2 : Hm w2 sb g cap mv n N (sw e' k (par k)) f2) (ht : Turn (Two2 g mv) w1 w2) : UpSt w sb g cap mv n N e i w2 (par k) (sw e' k (par k)) f2 := by
  have hp := par_lt hk
  have hl := h.lt
  refine ⟨by omega, h2, h.same.trans (sw_same hl (by omega)), (h.turn.then (Turn.of_below hb)).then ht, fun q => up_step (h.up q) hk hl hs, fun q => ?_⟩
  obtain ⟨q1, q2⟩ := h.stay q
  subst q1 q2
  rcases q with q | q
  · omega
  · rw [hs] at q; cases q

theorem par_int {k : Nat} (hk : 0 < k) : ((k : Int) - 1).tdiv 2 = (par k : Int) ∧ ((k : Int) - 1) / 2 = (par k : Int) := by
  have h1 : ((k : Int) - 1) / 2 = (par k : Int) := by unfold par; omega
  exact ⟨by rw [Int.tdiv_eq_ediv_of_nonneg (by omega)]; exact h1, h1⟩

set_option maxRecDepth 1000000 in
set_option maxHeartbeats 4000000 in
theorem up_any (sb g n cap N : Nat) (mv : Value) (e : Nat → Int × Int) (f : Int → Option Int) (i : Nat) (hi : i < n) (hn : (n : Int) ≤ 9223372036854775807) (hN : N < maxLen) (w : World) (h : Hm w sb g cap mv n N e f) :
    Calls Try.prog 30 #[.pointer (some ⟨sb, 0, none⟩), .int .i64 i] w (UpPost w sb g cap mv n N e i) := by
  have HS : Hid (UpSt w sb g cap mv n N e i w i e f) := ⟨hi, h, Same.refl _ _, Turn.refl _ _, id, fun _ => ⟨rfl, rfl⟩⟩
  have CA := Lib.hid (fun wr k j e' f' (hk : k < n) (hj : j < n) (h : Hm wr sb g cap mv n N e' f') => ahead_any sb g n cap e' mv k j hk hj wr h.str h.row hn)
  have CS := Lib.hid (fun wr k j e' f' (hk : k < n) (hj : j < n) (h : Hm wr sb g cap mv n N e' f') => swap_any sb g n cap N mv e' f' k j hk hj hn hN wr h)
  have hin : (i : Int) < (n : Int) := by omega
  clear h hi
  go_enter_defers Try.func30, Try.ntmps30
  go_wp2
  go_loopw [1] (fun s wr => ∃ (k : Nat) (e' : Nat → Int × Int) (f' : Int → Option Int), s = .int .i64 k ∧ Hid (UpSt w sb g cap mv n N e i wr k e' f')) (fun s _ => (intOf s).toNat)
  case atStart => exact ⟨i, e, f, rfl, HS⟩
  case round =>
    obtain ⟨k, e', f', rfl, HR⟩ := hrel
    have hkn := HR.out.lt
    clear HS
    by_cases hk : 0 < k
    · have hk1 : (0 : Int) < (k : Int) := by omega
      have hkn1 : (k : Int) < (n : Int) := by omega
      obtain ⟨q1, q2⟩ := par_int hk
      have hpk := par_lt hk
      have C1 := Lib.hid (CA.out wr k (par k) e' f' hkn (by omega) HR.out.hm)
      have C2 := Lib.hid (fun w1 (hb : Below wr.heap.size wr w1) => CS.out w1 k (par k) e' f' hkn (by omega) (HR.out.hm.below hb))
      have HN := Lib.hid (fun w1 w2 f2 hs hb h2 ht => up_next (w1 := w1) (w2 := w2) (f2 := f2) HR.out hk hs hb h2 ht)
      have HD := Lib.hid (fun w1 hb hs => up_done (w1 := w1) HR.out hb hs)
      have HPK := Lib.hid hpk
      clear hpk
      clear CA CS HR
      generalize par k = p at q1 q2 C1 C2 HN HD HPK
      cases hl : lt2 (e' k) (e' p) with
      | true =>
        have HL := Lib.hid hl
        rw [hl] at C1
        clear hl
        go_wp2_with (first | (go_at_call 37; (with_reducible refine (C1.out).mono ?_); rintro r w1 ⟨rfl, hb1⟩; have HB1 := Lib.hid hb1; clear hb1) | (go_at_call 38; (with_reducible refine (C2.out _ HB1.out).mono ?_); rintro r w2 ⟨rfl, hm2, ht2⟩; have HU := Lib.hid (HN.out w1 w2 _ HL.out HB1.out hm2 ht2); clear hm2 ht2))
        go_roundw
        case rel => exact ⟨p, _, _, rfl, HU⟩
        case measure => have := HPK.out; simp [intOf]; omega
      | false =>
        have HL := Lib.hid hl
        rw [hl] at C1
        clear hl
        go_wp2_with (go_at_call 37; (with_reducible refine (C1.out).mono ?_); rintro r w1 ⟨rfl, hb1⟩; have HB1 := Lib.hid hb1; clear hb1)
        refine leaves_cons (f := 36) (args := #[]) (by simp) (by simp [go_sem]) ?_
        refine (up1_idle _).mono ?_
        rintro r u' w'' ⟨rfl, rfl, rfl⟩
        simp [Leaves, settle, results, Try.results30, go_sem]
        exact ⟨rfl, e', f', HD.out _ HB1.out (.inr HL.out)⟩
    · obtain rfl : k = 0 := by omega
      go_wp2
      refine leaves_cons (f := 36) (args := #[]) (by simp) (by simp [go_sem]) ?_
      refine (up1_idle _).mono ?_
      rintro r u' w'' ⟨rfl, rfl, rfl⟩
      simp [Leaves, settle, results, Try.results30, go_sem]
      exact ⟨rfl, e', f', up_done HR.out (Below.refl _ _) (.inl rfl)⟩

/-- Among those behind the one at k, up to x: m stands ahead. -/
structure Inner (n : Nat) (e : Nat → Int × Int) (k m x : Nat) : Prop where
  kn : k < n
  lo : 2 * k + 1 ≤ x
  hi : x ≤ 2 * k + 3
  mn : m < n
  me : m = k ∨ (0 < m ∧ par m = k ∧ lt2 (e m) (e k) = true)
  all : ∀ j, 0 < j → j < n → par j = k → j < x → lt2 (e j) (e m) = false

theorem inner_start {n : Nat} (e : Nat → Int × Int) {k : Nat} (hk : k < n) : Inner n e k k (2 * k + 1) :=
  ⟨hk, Nat.le_refl _, by omega, hk, .inl rfl, fun j h0 _ hp hx => by rw [par_kid h0] at hp; omega⟩
theorem inner_yes {n : Nat} {e : Nat → Int × Int} {k m x : Nat} (h : Inner n e k m x) (hx : x ≤ 2 * k + 2) (hxn : x < n) (hl : lt2 (e x) (e m) = true) : Inner n e k x (x + 1) := by
  have h0 := h.lo
  have hp : par x = k := by unfold par; omega
  have h1 := lt2_iff.1 hl
  refine ⟨h.kn, by omega, by omega, hxn, .inr ⟨by omega, hp, ?_⟩, fun j j0 hj hpj hjx => ?_⟩
  · rcases h.me with rfl | ⟨_, _, h2⟩
    · exact hl
    · have := lt2_iff.1 h2
      rw [lt2_iff]; omega
  · by_cases hj2 : j = x
    · subst hj2; rw [lt2_no]; omega
    · have := lt2_no.1 (h.all j j0 hj hpj (by omega))
      rw [lt2_no]; omega
theorem inner_no {n : Nat} {e : Nat → Int × Int} {k m x : Nat} (h : Inner n e k m x) (hx : x ≤ 2 * k + 2) (hl : lt2 (e x) (e m) = false) : Inner n e k m (x + 1) := by
  have h0 := h.lo
  refine ⟨h.kn, by omega, by omega, h.mn, h.me, fun j j0 hj hpj hjx => ?_⟩
  by_cases hj2 : j = x
  · subst hj2; exact hl
  · exact h.all j j0 hj hpj (by omega)
theorem inner_end {n : Nat} {e : Nat → Int × Int} {k m x : Nat} (h : Inner n e k m x) (hx : x = 2 * k + 3 ∨ n ≤ x) : ∀ j, 0 < j → j < n → par j = k → lt2 (e j) (e m) = false :=
  fun j j0 hj hpj => h.all j j0 hj hpj (by rw [par_kid j0] at hpj; omega)

/-- On the way down: the one that lets others go ahead is at k. -/
structure DownSt (w : World) (sb g cap : Nat) (mv : Value) (n N : Nat) (e : Nat → Int × Int) (i : Nat) (wr : World) (k : Nat) (e' : Nat → Int × Int) (f' : Int → Option Int) : Prop where
  lt : k < n
  hm : Hm wr sb g cap mv n N e' f'
  same : Same n e e'
  turn : Turn (Two2 g mv) w wr
  down : DownInv n e i → DownInv n e' k
structure DownDone (w : World) (sb g cap : Nat) (mv : Value) (n N : Nat) (e : Nat → Int × Int) (i : Nat) (w' : World) (e' : Nat → Int × Int) (f' : Int → Option Int) : Prop where
  hm : Hm w' sb g cap mv n N e' f'
  same : Same n e e'
  turn : Turn (Two2 g mv) w w'
  down : DownInv n e i → Ord n e'
def DownPost (w : World) (sb g cap : Nat) (mv : Value) (n N : Nat) (e : Nat → Int × Int) (i : Nat) (r : Ending) (w' : World) : Prop :=
  r = .returned (.tuple #[]) ∧ ∃ e' f', DownDone w sb g cap mv n N e i w' e' f'

theorem down_done {w : World} {sb g cap : Nat} {mv : Value} {n N : Nat} {e : Nat → Int × Int} {i : Nat} {wr w1 : World} {k x : Nat} {e' : Nat → Int × Int} {f' : Int → Option Int} (h : DownSt w sb g cap mv n N e i wr k e' f') (hb : Below wr.heap.size wr w1)
    (hs : Inner n e' k k x) (hx : x = 2 * k + 3 ∨ n ≤ x) : DownDone w sb g cap mv n N e i w1 e' f' :=
  ⟨h.hm.below hb, h.same, h.turn.then (Turn.of_below hb), fun q => down_stop (h.down q) (inner_end hs hx)⟩
theorem down_next {w : World} {sb g cap : Nat} {mv : Value} {n N : Nat} {e : Nat → Int × Int} {i : Nat} {wr w1 w2 : World} {k m x : Nat} {e' : Nat → Int × Int} {f' f2 : Int → Option Int} (h : DownSt w sb g cap mv n N e i wr k e' f') (hs : Inner n e' k m x) (hx : x = 2 * k + 3 ∨ n ≤ x) (hne : ¬ m = k)
    (hb : Below wr.heap.size wr w1) (h2 : Hm w2 sb g cap mv n N (sw e' k m) f2) (ht : Turn (Two2 g mv) w1 w2) : DownSt w sb g cap mv n N e i w2 m (sw e' k m) f2 := by
  rcases hs.me with q | ⟨m0, mp, ml⟩
  · exact absurd q hne
  · exact ⟨hs.mn, h2, h.same.trans (sw_same hs.kn hs.mn), (h.turn.then (Turn.of_below hb)).then ht, fun q => down_step (h.down q) m0 hs.mn mp ml (inner_end hs hx)⟩

set_option maxRecDepth 1000000 in
set_option maxHeartbeats 4000000 in
theorem down_any (sb g n cap N : Nat) (mv : Value) (e : Nat → Int × Int) (f : Int → Option Int) (i : Nat) (hi : i < n) (hn : (n : Int) ≤ 1000000) (hN : N < maxLen) (w : World) (h : Hm w sb g cap mv n N e f) :
    Calls Try.prog 39 #[.pointer (some ⟨sb, 0, none⟩), .int .i64 i] w (DownPost w sb g cap mv n N e i) := by
  have HS : Hid (DownSt w sb g cap mv n N e i w i e f) := ⟨hi, h, Same.refl _ _, Turn.refl _ _, id⟩
  have CA := Lib.hid (fun wr k j e' f' (hk : k < n) (hj : j < n) (h : Hm wr sb g cap mv n N e' f') => ahead_any sb g n cap e' mv k j hk hj wr h.str h.row (by omega))
  have CS := Lib.hid (fun wr k j e' f' (hk : k < n) (hj : j < n) (h : Hm wr sb g cap mv n N e' f') => swap_any sb g n cap N mv e' f' k j hk hj (by omega) hN wr h)
  have hin : (i : Int) < (n : Int) := by omega
  clear h hi
  go_enter_defers Try.func39, Try.ntmps39
  go_wp2
  go_loopw [1] (fun s wr => ∃ (k : Nat) (e' : Nat → Int × Int) (f' : Int → Option Int), s = .int .i64 k ∧ Hid (DownSt w sb g cap mv n N e i wr k e' f')) (fun s _ => (n - intOf s).toNat)
  case atStart => exact ⟨i, e, f, rfl, HS⟩
  case round =>
    obtain ⟨k, e', f', rfl, HR⟩ := hrel
    have hkn := HR.out.lt
    have hk0 : (0 : Int) ≤ (k : Int) := by omega
    have hkn1 : (k : Int) < (n : Int) := by omega
    have HI := Lib.hid (inner_start e' hkn)
    clear HS
    go_wp2
    go_loopw [4, 5] (fun s u wi => ∃ m x : Nat, s = .int .i64 m ∧ u = .int .i64 x ∧ Hid (Inner n e' k m x) ∧ Hid (Below wr.heap.size wr wi)) (fun _ u _ => (2 * k + 3 - intOf u).toNat)
    case atStart => exact ⟨k, 2 * k + 1, rfl, by go_num, HI, Below.refl _ _⟩
    case round =>
      obtain ⟨m, x, rfl, rfl, HI, HB⟩ := hrel
      have hx0 := HI.out.lo
      have hx1 := HI.out.hi
      have hmn := HI.out.mn
      obtain ⟨c0, c1, c2⟩ := (HR.out.hm.below HB.out).str.cells
      by_cases hc : x ≤ 2 * k + 2
      · by_cases hcn : x < n
        · have C1 := Lib.hid (CA.out wr x m e' f' hcn hmn (HR.out.hm.below HB.out))
          have HY := Lib.hid (inner_yes HI.out hc hcn)
          have HNo := Lib.hid (inner_no HI.out hc)
          clear CA CS HI
          cases hl : lt2 (e' x) (e' m) with
          | true =>
            have HY := Lib.hid (HY.out hl)
            rw [hl] at C1
            clear hl HNo
            go_wp2_with (go_at_call 37; (with_reducible refine (C1.out).mono ?_); rintro r w1 ⟨rfl, hb1⟩; have HB1 := Lib.hid (HB.out.trans (hb1.mono HB.out.size)); clear hb1)
            go_roundw
            case rel => exact ⟨x, x + 1, rfl, by go_num, HY, HB1⟩
            case measure => simp [intOf]; omega
          | false =>
            have HNo := Lib.hid (HNo.out hl)
            rw [hl] at C1
            clear hl HY
            go_wp2_with (go_at_call 37; (with_reducible refine (C1.out).mono ?_); rintro r w1 ⟨rfl, hb1⟩; have HB1 := Lib.hid (HB.out.trans (hb1.mono HB.out.size)); clear hb1)
            go_roundw
            case rel => exact ⟨m, x + 1, rfl, by go_num, HNo, HB1⟩
            case measure => simp [intOf]; omega
        · have hend : x = 2 * k + 3 ∨ n ≤ x := .inr (by omega)
          by_cases hmk : m = k
          · subst hmk
            have HD := Lib.hid (down_done HR.out HB.out HI.out hend)
            clear CA CS HR HI hend
            go_wp2
            refine leaves_cons (f := 40) (args := #[]) (by simp) (by simp [go_sem]) ?_
            refine (down1_idle _).mono ?_
            rintro r u' w'' ⟨rfl, rfl, rfl⟩
            simp [Leaves, settle, results, Try.results39, go_sem]
            exact ⟨rfl, e', f', HD.out⟩
          · have hmk1 : ((m : Int) == (k : Int)) = false := by rw [beq_eq_false_iff_ne]; omega
            have C2 := Lib.hid (CS.out wr k m e' f' hkn hmn (HR.out.hm.below HB.out))
            have HN := Lib.hid (fun w2 f2 h2 ht => down_next (w2 := w2) (f2 := f2) HR.out HI.out hend hmk HB.out h2 ht)
            have hkm : Hid (k < m) := by
              rcases HI.out.me with q | ⟨m0, mp, _⟩
              · exact absurd q hmk
              · show k < m; rw [← mp]; exact par_lt m0
            clear CA CS HR HI hend hmk
            go_wp2_with (go_at_call 38; (with_reducible refine (C2.out).mono ?_); rintro r w2 ⟨rfl, hm2, ht2⟩; have HU := Lib.hid (HN.out w2 _ hm2 ht2); clear hm2 ht2)
            go_roundw
            case rel => exact ⟨m, _, _, rfl, HU⟩
            case measure => have := hkm.out; simp [intOf]; omega
      · have hend : x = 2 * k + 3 ∨ n ≤ x := .inl (by omega)
        by_cases hmk : m = k
        · subst hmk
          have HD := Lib.hid (down_done HR.out HB.out HI.out hend)
          clear CA CS HR HI hend
          go_wp2
          refine leaves_cons (f := 40) (args := #[]) (by simp) (by simp [go_sem]) ?_
          refine (down1_idle _).mono ?_
          rintro r u' w'' ⟨rfl, rfl, rfl⟩
          simp [Leaves, settle, results, Try.results39, go_sem]
          exact ⟨rfl, e', f', HD.out⟩
        · have hmk1 : ((m : Int) == (k : Int)) = false := by rw [beq_eq_false_iff_ne]; omega
          have C2 := Lib.hid (CS.out wr k m e' f' hkn hmn (HR.out.hm.below HB.out))
          have HN := Lib.hid (fun w2 f2 h2 ht => down_next (w2 := w2) (f2 := f2) HR.out HI.out hend hmk HB.out h2 ht)
          have hkm : Hid (k < m) := by
            rcases HI.out.me with q | ⟨m0, mp, _⟩
            · exact absurd q hmk
            · show k < m; rw [← mp]; exact par_lt m0
          clear CA CS HR HI hend hmk
          go_wp2_with (go_at_call 38; (with_reducible refine (C2.out).mono ?_); rintro r w2 ⟨rfl, hm2, ht2⟩; have HU := Lib.hid (HN.out w2 _ hm2 ht2); clear hm2 ht2)
          go_roundw
          case rel => exact ⟨m, _, _, rfl, HU⟩
          case measure => have := hkm.out; simp [intOf]; omega

end Go.Proofs.Ytbmmigaabhnnfaa
