/-
  The walk over the statement that what is moved is neither lost nor doubled.
-/
import Derived.Test.YtkcdblpaaldcaaaQLaw4
namespace Go.Proofs.Ytkcdblpaaldcaaa
open Go.RowKit Go.Maps Go.Conc

theorem kept_pair {W W0 w : World} {x y : Int} (hW : W0 = W.alloc (.cells #[.int .i64 x, .int .i64 y] 44)) (h : Below W0.heap.size W0 w) : w.cell? ⟨W.heap.size, 0, none⟩ = some (.int .i64 x) ∧ w.cell? ⟨W.heap.size, 1, none⟩ = some (.int .i64 y) := by
  subst hW
  refine ⟨?_, ?_⟩
  · rw [h.cell (p := ⟨W.heap.size, 0, none⟩) (by simp), World.cell?_alloc_new]; rfl
  · rw [h.cell (p := ⟨W.heap.size, 1, none⟩) (by simp), World.cell?_alloc_new]; rfl
theorem IsAsks.later {W W0 : World} {a : Option Addr} {len cap : Nat} {l : List Req} (h : IsAsks W a len cap l) (hb : Below W.heap.size W W0) : IsAsks W0 a len cap l := ⟨h.hlen, h.hcap, h.hcap2, h.length, h.view.below hb⟩
theorem put_yes {w : World} {b c K i : Nat} {l : List Req} {x y : Int} (h : Box w b c K (l.take (min i K)) false) (hx : l[i]? = some (x, y)) (hi : i < K) :
    Calls Try.prog 19 #[.pointer (some ⟨b, 0, none⟩), .agg #[.int .i64 x, .int .i64 y]] w fun r w' => r = .returned (.bool true) ∧ Looks w b c K (l.take (min (i + 1) K)) false w' := by
  refine (put_in x y h (by rw [List.length_take]; omega)).mono fun e w' ⟨h1, h2⟩ => ⟨h1, ?_⟩
  rw [take_min hx hi] at h2
  exact h2
theorem put_no {w : World} {b c K i : Nat} {l : List Req} {x y : Int} (h : Box w b c K (l.take (min i K)) false) (hl : i ≤ l.length) (hi : ¬ i < K) :
    Calls Try.prog 19 #[.pointer (some ⟨b, 0, none⟩), .agg #[.int .i64 x, .int .i64 y]] w fun r w' => r = .returned (.bool false) ∧ Looks w b c K (l.take (min (i + 1) K)) false w' := by
  have hl : ¬ (l.take (min i K)).length < K := by rw [List.length_take]; omega
  refine (put_some x y h).mono fun e w' ⟨h1, h2⟩ => ⟨?_, ?_⟩
  · rw [h1, show putB K (l.take (min i K)) false = false from decide_eq_false (fun z => hl z.2)]
  · unfold putL at h2
    rw [if_neg (fun z => hl z.2), show min i K = min (i + 1) K by omega] at h2
    exact h2

/-- Two boxes, and a row beside them. -/
structure Trio (W w : World) (b c n : Nat) (q : List Req) (b2 c2 n2 : Nat) (q2 : List Req) (B : Nat) (v : Value) (t : List Req) : Prop where
  both : Both W w b c n q false b2 c2 n2 q2 false
  row : AsksB w B v t
  lt : b < B ∧ c < B ∧ b2 < B ∧ c2 < B
  le : W.heap.size ≤ B ∧ B ≤ w.heap.size
theorem Trio.step {W w w' : World} {b c n b2 c2 n2 B : Nat} {q q' q2 t : List Req} {v : Value} (h : Trio W w b c n q b2 c2 n2 q2 B v t) (l : Looks w b c n q' false w') : Trio W w' b c n q' b2 c2 n2 q2 B v t :=
  ⟨h.both.step l, h.row.two ⟨h.lt.1, h.lt.2.1⟩ l.2, h.lt, h.le.1, Nat.le_trans h.le.2 l.2.size⟩
theorem Trio.step2 {W w w' : World} {b c n b2 c2 n2 B : Nat} {q q2 q2' t : List Req} {v : Value} (h : Trio W w b c n q b2 c2 n2 q2 B v t) (l : Looks w b2 c2 n2 q2' false w') : Trio W w' b c n q b2 c2 n2 q2' B v t :=
  ⟨h.both.step2 l, h.row.two ⟨h.lt.2.2.1, h.lt.2.2.2⟩ l.2, h.lt, h.le.1, Nat.le_trans h.le.2 l.2.size⟩
theorem Trio.moved {W w w' : World} {b c n b2 c2 n2 B : Nat} {q q' q2 q2' t : List Req} {v : Value} (h : Trio W w b c n q b2 c2 n2 q2 B v t) (m : Moved w b c n q' false b2 c2 n2 q2' false w') : Trio W w' b c n q' b2 c2 n2 q2' B v t :=
  ⟨h.both.moved m, h.row.kept m.turn (fun k hk z => by have := h.row.new hk; have := h.lt; rcases z with (rfl | rfl) | (rfl | rfl) <;> omega), h.lt, h.le.1, Nat.le_trans h.le.2 m.turn.size⟩
theorem Trio.alloc {W w : World} {b c n b2 c2 n2 B : Nat} {q q2 t : List Req} {v : Value} (h : Trio W w b c n q b2 c2 n2 q2 B v t) (o : Obj) : Trio W (w.alloc o) b c n q b2 c2 n2 q2 B v t :=
  have hb : Below w.heap.size w (w.alloc o) := (Below.refl _ _).alloc (Nat.le_refl _) o
  ⟨h.both.alloc o, h.row.below hb, h.lt, h.le.1, Nat.le_trans h.le.2 hb.size⟩
theorem Trio.grown {W w w' : World} {b c n b2 c2 n2 B : Nat} {q q2 t t' : List Req} {v v' : Value} (h : Trio W w b c n q b2 c2 n2 q2 B v t) (hr : AsksB w' B v' t') (hg : w.grownBy w' v.ownBlock) : Trio W w' b c n q b2 c2 n2 q2 B v' t' :=
  have ht := turn_grown h.row hg
  ⟨h.both.turn h.le.1 h.lt ht, hr, h.lt, h.le.1, Nat.le_trans h.le.2 ht.size⟩
theorem Trio.low {W w : World} {b c n b2 c2 n2 B : Nat} {q q2 t : List Req} {v : Value} (h : Trio W w b c n q b2 c2 n2 q2 B v t) : Below W.heap.size W w := h.both.one.low
theorem trio_new {W w : World} {b c n b2 c2 n2 : Nat} {q q2 : List Req} (h : Both W w b c n q false b2 c2 n2 q2 false) : Trio W w b c n q b2 c2 n2 q2 w.heap.size (.slice none 0 0) [] :=
  ⟨h, by simpa [AsksB, flat] using World.ownsRow_nil _ _ _ _, h.lt, h.one.low.size, Nat.le_refl _⟩

theorem Trio.below {W w w' : World} {b c n b2 c2 n2 B : Nat} {q q2 t : List Req} {v : Value} (h : Trio W w b c n q b2 c2 n2 q2 B v t) (hb : Below w.heap.size w w') : Trio W w' b c n q b2 c2 n2 q2 B v t :=
  ⟨h.both.below hb, h.row.below hb, h.lt, h.le.1, Nat.le_trans h.le.2 hb.size⟩
theorem view_zero {w : World} {l : List Req} (h : View w none l) : l = [] := by
  rcases h with h | ⟨g, o, e, _⟩
  · exact h
  · cases e

theorem view_empty {w : World} {a : Option Addr} {l : List Req} (h : l = []) : View w a l := .inl h
theorem view_from {w : World} {a : Option Addr} {l : List Req} (h : View w a l) (t : Nat) : View w (Option.map (fun x => x.add (t * 2)) a) (l.drop t) := by
  rcases h with rfl | ⟨g, o, rfl, hc⟩
  · left; simp
  · rw [show Option.map (fun x : Addr => x.add (t * 2)) (some ⟨g, o, none⟩) = some ⟨g, o + t * 2, none⟩ by rw [Option.map_some, addr_at]]
    exact View.drop (.inr ⟨g, o, rfl, hc⟩) t

set_option maxRecDepth 100000 in
set_option maxHeartbeats 8000000 in
theorem law_moves (W : World) (a : Option Addr) (len cap : Nat) (l : List Req) (h : IsAsks W a len cap l) (a2 : Option Addr) (len2 cap2 : Nat) (l2 : List Req) (h2 : IsAsks W a2 len2 cap2 l2) (q0 q1 : Int) (wq : -9223372036854775808 ≤ q0 ∧ q0 ≤ 9223372036854775807) :
    Calls Try.prog 5 #[.slice a len cap, .slice a2 len2 cap2, .agg #[.int .i64 q0, .int .i64 q1]] W fun e w' => e = .returned (.bool true) ∧ Below W.heap.size W w' := by
  obtain ⟨W0, hW0⟩ : ∃ W0, W0 = W.alloc (.cells #[.int .i64 q0, .int .i64 q1] 44) := ⟨_, rfl⟩
  have HB : Hid (Below W.heap.size W W0) := by subst hW0; exact (Below.refl _ _).alloc (Nat.le_refl _) _
  have CE := Lib.hid (fun w (h : Below W0.heap.size W0 w) => kept_pair hW0 h)
  have A := Lib.hid (awake_any W0)
  have C20 := Lib.hid (fun w => new_lit 20 20 rfl (by omega) (by omega) w)
  have HI := Lib.hid (h.later HB.out)
  have HJ := Lib.hid (h2.later HB.out)
  have hlen := h.hlen
  have hcap := h.hcap
  have hcap2 := h.hcap2
  have klen := h2.hlen
  have kcap := h2.hcap
  have kcap2 := h2.hcap2
  obtain ⟨t, k0, e1, e2, e3, e4, e5⟩ := led q1 30 (by omega) (by omega)
  obtain ⟨K, hK⟩ : ∃ K : Nat, 1 + (k0 : Int) = (K : Int) := ⟨k0 + 1, by omega⟩
  have e6 : (t + 30).tmod 30 = (k0 : Int) := by rw [Int.tmod_eq_emod_of_nonneg (by omega)]; exact e4
  clear h h2
  go_enter Try.func5, Try.ntmps5
  go_upto_region 1 with (fail)
  rw [← hW0]
  clear hW0
  go_upto_if 20 with (go_at_call 9; (refine (A.out).mono ?_); rintro r w1 ⟨rfl, h1⟩; have H1 := Lib.hid h1; clear h1)
  go_cut [0] (fun u wx => (∃ m : Nat, m ≤ 20 ∧ m ≤ len ∧ u = .slice a m cap) ∧ Hid (Below W0.heap.size W0 wx))
  case first =>
    by_cases hor : 20 < len
    · have h1 : (20 : Int) < (len : Int) := by omega
      have h2 : (20 : Int) ≤ (cap : Int) := by omega
      go_wp2_with (fail)
      go_meet
      exact ⟨⟨20, by omega, by omega, rfl⟩, H1⟩
    · have h1 : ¬ (20 : Int) < (len : Int) := by omega
      go_wp2_with (fail)
      go_meet
      exact ⟨⟨len, by omega, by omega, rfl⟩, H1⟩
  case rest =>
    obtain ⟨⟨m, hm20, hml, rfl⟩, HB1⟩ := hcut
    clear H1 A
    go_upto_if 25 with (fail)
    go_cut [1] (fun u wx => (∃ m : Nat, m ≤ 20 ∧ m ≤ len2 ∧ u = .slice a2 m cap2) ∧ Hid (Below W0.heap.size W0 wx))
    case first =>
      by_cases hor : 20 < len2
      · have h1 : (20 : Int) < (len2 : Int) := by omega
        have h2 : (20 : Int) ≤ (cap2 : Int) := by omega
        go_wp2_with (fail)
        go_meet
        exact ⟨⟨20, by omega, by omega, rfl⟩, HB1⟩
      · have h1 : ¬ (20 : Int) < (len2 : Int) := by omega
        go_wp2_with (fail)
        go_meet
        exact ⟨⟨len2, by omega, by omega, rfl⟩, HB1⟩
    case rest =>
      obtain ⟨⟨m2, hm220, hm2l, rfl⟩, HB2⟩ := hcut
      clear HB1
      obtain ⟨n0, n1⟩ := CE.out _ HB2.out
      go_wp2_with (first
        | (go_at_call 10; (with_reducible refine (C20.out _).mono ?_); rintro e w2 ⟨b, c, rfl, h2⟩; have H2 := Lib.hid (mine_new HB2.out h2); clear h2 HB2)
        | (go_at_call 10; (with_reducible refine (new_some K (by omega) (by omega) _).mono ?_); rintro e w3 ⟨b2, c2, rfl, h3⟩; have H3 := Lib.hid (trio_new (both_new H2.out h3)); clear h3 H2))
      have hK30 : (K : Int) ≤ 30 := by omega
      clear e1 e2 e3 e4 e5 e6 hK
      go_loopw [11, 12] (fun u v wr => ∃ (i j : Nat) (a' : Option Addr) (cp' : Nat), i ≤ m2 ∧ j ≤ i ∧ Hid (j = min i K) ∧ u = .slice a' j cp' ∧ v = .int .i64 i ∧ Hid (Trio W0 wr b c 20 [] b2 c2 K (l2.take (min i K)) w3.heap.size (.slice a' j cp') (l2.take (min i K)))) (fun _ v _ => (m2 - intOf v).toNat)
      case atStart => exact ⟨0, 0, none, 0, by omega, by omega, by show 0 = _; omega, rfl, rfl, by simpa using H3⟩
      case round =>
        obtain ⟨i, j, a', cp', hi, hj, HJI, rfl, rfl, HP⟩ := hrel
        clear H3 n0 n1
        by_cases hlt : i < m2
        · obtain ⟨x, y, hx⟩ := nth_of HJ.out.length (show i < len2 by omega)
          have HX := Lib.hid hx
          obtain ⟨g, o, rfl, c0, c1⟩ := (HJ.out.view.below HP.out.low).at_ hx
          have hi1 : (i : Int) < (m2 : Int) := by omega
          have hi0 : (0 : Int) ≤ (i : Int) := by omega
          by_cases hk : i < K
          · have CP := Lib.hid (put_yes HP.out.both.two.box hx hk)
            have HJK : Hid ((l2.take (min i K)).length = j) := by have := HJI.out; show _ = _; rw [List.length_take, HJ.out.length]; omega
            have HTN := Lib.hid (take_min (K := K) hx hk)
            have HJ1 : Hid (j + 1 = min (i + 1) K) := by have := HJI.out; show j + 1 = _; omega
            clear hx hk
            go_upto_region 16 with (go_at_call 19; (with_reducible refine (CP.out).mono ?_); rintro e w4 ⟨rfl, h4⟩; have H4 := Lib.hid (HP.out.step2 h4); clear h4)
            obtain ⟨g', o', e', d0, d1⟩ := (HJ.out.view.below H4.out.low).at_ HX.out
            cases e'
            clear c0 c1
            go_wp2_with (at_builtin; refine wp_append rfl _ _ rfl rfl rfl (H4.out.alloc _).row (H4.out.alloc _).le.2 (one_view w4 (x, y)) rfl (by have := HJK.out; omega) (fun z => by cases z) (j + 1) (by have := HJK.out; omega) ?_; intro a5 k5 w5 o5 g5; have H5 := Lib.hid ((H4.out.alloc _).grown o5 g5); clear o5 g5)
            go_roundw
            case rel => exact ⟨i + 1, j + 1, a5, k5, by omega, by omega, HJ1, rfl, by go_num, by have := H5.out; rw [HTN.out] at this; exact this⟩
            case measure => simp [intOf]; omega
          · have CP := Lib.hid (put_no (x := x) (y := y) HP.out.both.two.box (by rw [HJ.out.length]; omega) hk)
            have HMN : Hid (min (i + 1) K = min i K) := by show _ = _; omega
            clear hx hk
            go_wp2_with (go_at_call 19; (with_reducible refine (CP.out).mono ?_); rintro e w4 ⟨rfl, h4⟩; rw [HMN.out] at h4; have H4 := Lib.hid (HP.out.step2 h4); clear h4)
            go_roundw
            case rel => exact ⟨i + 1, j, a', cp', by omega, by omega, by have := HJI.out; have := HMN.out; show _ = _; omega, rfl, by go_num, by rw [HMN.out]; exact H4⟩
            case measure => simp [intOf]; omega
        · obtain rfl : i = m2 := by omega
          obtain ⟨T, hT⟩ : ∃ T, T = l2.take (min i K) := ⟨_, rfl⟩
          have HTn : Hid (T.length = j) := by have := HJI.out; show _ = _; rw [hT, List.length_take, HJ.out.length]; omega
          have HP : Hid (Trio W0 wr b c 20 [] b2 c2 K T w3.heap.size (.slice a' j cp') T) := by rw [hT]; exact HP
          have hjK : (j : Int) ≤ (K : Int) := by have := HJI.out; omega
          have hj20 : (j : Int) ≤ 20 := by omega
          clear hT
          go_wp2_with (fail)
          generalize w3.heap.size = B at HP
          go_loopw [13] (fun u wr => ∃ i : Nat, i ≤ m ∧ u = .int .i64 i ∧ Hid (Trio W0 wr b c 20 (l.take i) b2 c2 K T B (.slice a' j cp') T)) (fun u _ => (m - intOf u).toNat)
          case atStart => exact ⟨0, by omega, rfl, by simpa using HP⟩
          case round =>
            obtain ⟨i2, hi2, rfl, HQ⟩ := hrel
            clear HP
            by_cases hlt2 : i2 < m
            · obtain ⟨x, y, hx⟩ := nth_of HI.out.length (show i2 < len by omega)
              have HX := Lib.hid hx
              obtain ⟨g, o, rfl, c0, c1⟩ := (HI.out.view.below HQ.out.low).at_ hx
              have hi1 : (i2 : Int) < (m : Int) := by omega
              have hi0 : (0 : Int) ≤ (i2 : Int) := by omega
              have CP := Lib.hid (put_in x y HQ.out.both.one.box (by rw [List.length_take]; omega))
              clear hx
              go_wp2_with (go_at_call 19; (with_reducible refine (CP.out).mono ?_); rintro e w4 ⟨rfl, h4⟩; have H4 := Lib.hid (HQ.out.step h4); clear h4)
              go_roundw
              case rel => exact ⟨i2 + 1, by omega, by go_num, by rw [take_next HX.out]; exact H4⟩
              case measure => simp [intOf]; omega
            · obtain rfl : i2 = m := by omega
              obtain ⟨L, hL⟩ : ∃ L, L = l.take i2 := ⟨_, rfl⟩
              have HLn : Hid (L.length = i2) := by show _ = _; rw [hL, List.length_take, HI.out.length]; omega
              have HV : Hid (View W0 a L) := by rw [hL]; exact HI.out.view.take _
              have HQ : Hid (Trio W0 wr b c 20 L b2 c2 K T B (.slice a' j cp') T) := by rw [hL]; exact HQ
              obtain ⟨t, ht⟩ : ∃ t, moveN L T K false q0 = t := ⟨_, rfl⟩
              have ht2 : t = min i2 (min q0 ((K : Int) - j)).toNat := by rw [← ht]; simp only [moveN, HLn.out, HTn.out]; rfl
              have CM := Lib.hid (ht ▸ move_some q0 HQ.out.both.one.box HQ.out.both.two.box HQ.out.both.apart)
              have HT2 := Lib.hid ht2
              obtain ⟨n0, n1⟩ := CE.out _ HQ.out.low
              clear hL ht ht2
              go_upto_region 22 with (go_at_call 16; (with_reducible refine (CM.out).mono ?_); rintro e w4 ⟨rfl, h4⟩; have H4 := Lib.hid (HQ.out.moved h4); clear h4)
              obtain ⟨r, hr⟩ : ∃ r : Int, (K : Int) - (j : Int) = r := ⟨_, rfl⟩
              have HTR : Hid (t = min i2 (min q0 r).toNat ∧ 0 ≤ r ∧ r ≤ 30 ∧ (j : Int) + r = K) := by have := HT2.out; show _ ∧ _ ∧ _ ∧ _; rw [hr] at this; exact ⟨this, by omega, by omega, by omega⟩
              clear hjK hj20 HT2 n0 n1
              obtain ⟨n0, n1⟩ := CE.out _ H4.out.low
              go_cut [114] (fun u wx => u = .bool false ∧ wx = w4)
              case first =>
                have t1 : (t : Int) ≤ (i2 : Int) := by have := HTR.out; omega
                have t2 : (t : Int) ≤ r := by have := HTR.out; omega
                have r1 : r ≤ 30 := HTR.out.2.2.1
                have r0 : 0 ≤ r := HTR.out.2.1
                rcases Int.lt_or_le q0 0 with hA | hA
                · have t3 : (t : Int) ≤ 0 := by have := HTR.out; omega
                  have t4 : q0 < (i2 : Int) := by omega
                  have t5 : q0 ≤ r := by omega
                  have HZ : Hid (t = 0) := by show t = 0; omega
                  go_wp2_with (fail)
                  all_goals
                    have hz0 := HZ.out
                    clear HZ
                    subst hz0
                    go_meet
                    exact ⟨by first | rfl | (simp; done) | (simp; omega), rfl⟩
                · have t3 : (t : Int) ≤ q0 := by have := HTR.out; omega
                  rcases Int.lt_or_le q0 (i2 : Int) with hB | hB
                  · rcases Int.lt_or_le r q0 with hC | hC
                    · have t4 : r ≤ (t : Int) := by have := HTR.out; omega
                      go_wp2_with (fail)
                      all_goals (go_meet; exact ⟨by first | rfl | (simp; done) | (simp; omega), rfl⟩)
                    · have t4 : q0 ≤ (t : Int) := by have := HTR.out; omega
                      go_wp2_with (fail)
                      all_goals (go_meet; exact ⟨by first | rfl | (simp; done) | (simp; omega), rfl⟩)
                  · rcases Int.lt_or_le r (i2 : Int) with hC | hC
                    · have t4 : r ≤ (t : Int) := by have := HTR.out; omega
                      go_wp2_with (fail)
                      all_goals (go_meet; exact ⟨by first | rfl | (simp; done) | (simp; omega), rfl⟩)
                    · have t4 : (i2 : Int) ≤ (t : Int) := by have := HTR.out; omega
                      go_wp2_with (fail)
                      all_goals (go_meet; exact ⟨by first | rfl | (simp; done) | (simp; omega), rfl⟩)
              case rest =>
                obtain ⟨rfl, rfl⟩ := hcut
                obtain ⟨N, hN⟩ : ∃ N, N = j + t := ⟨_, rfl⟩
                obtain ⟨R, hR⟩ : ∃ R, R = i2 - t := ⟨_, rfl⟩
                have HN : Hid (N = j + t ∧ t ≤ i2 ∧ i2 ≤ 20 ∧ j ≤ 20 ∧ t + R = i2) := by have := HTR.out; show _ ∧ _ ∧ _ ∧ _ ∧ _; omega
                have ht1 : (t : Int) ≤ (i2 : Int) := by have := HN.out; omega
                have ht2 : (t : Int) ≤ (cap : Int) := by have := HN.out; omega
                have hNn : Hid ((T ++ L.take t).length = N) := by have := HN.out; have := HTn.out; have := HLn.out; show _ = _; rw [List.length_append, List.length_take]; omega
                have CSm := Lib.hid (fun n (hn : n ≤ 100) w (l1 l2 : List Req) a1 a2 k1 k2 (h1 : View w a1 l1) (h2 : View w a2 l2) (e : l1 = l2) (hl : l1.length = n) => same_yes n k1 k2 (by omega) a1 a2 l1 hl w h1 (e ▸ h2))
                clear hN hR
                go_upto_region 25 with (at_builtin; refine wp_append rfl _ _ rfl rfl rfl H4.out.row H4.out.le.2 ((HV.out.below H4.out.low).take t) (by have := HN.out; have := HLn.out; rw [List.length_take]; omega) (by have := HN.out; have := HTn.out; omega) (fun z => by subst z; have := HN.out; have := HLn.out; have := view_zero HV.out; rw [this] at HLn; have := HLn.out; simp at this; omega) N (by have := HN.out; have := HTn.out; omega) ?_; intro a5 k5 w5 o5 g5; have H5 := Lib.hid (H4.out.grown o5 g5); clear o5 g5)
                go_upto_region 26 with (first
                  | (go_at_call 14; (with_reducible refine (drain_t (t := N) (by have := HN.out; have := hNn.out; omega) H5.out.both.two.box).mono ?_); rintro e w6 ⟨a6, k6, rfl, h6⟩; have H6 := Lib.hid (H5.out.step2 h6.1); have A6 := Lib.hid h6.2; clear h6)
                  | (go_at_call 13; (with_reducible refine (CSm.out N (by have := HN.out; omega) _ _ _ _ _ _ _ (view_of A6.out) (view_of H6.out.row) (List.take_of_length_le (Nat.le_of_eq hNn.out)) (by rw [List.length_take, hNn.out]; exact Nat.min_self _)).mono ?_); rintro e w7 ⟨rfl, h7⟩; have H7 := Lib.hid (H6.out.below h7); clear h7))
                have HRl : Hid ((L.drop t).length = i2 - t) := by have := HN.out; have := HLn.out; show _ = _; rw [List.length_drop]; omega
                have CDr := Lib.hid (fun w (h : Mine W0 w b c 20 (L.drop t) false) => mine_drain (M := 99) (t := i2 - t) (by have := HN.out; have := HRl.out; omega) HRl.out h)
                have HM := Lib.hid H7.out.both.one
                have hn1 : t ≤ i2 := by have := HN.out; omega
                have hn2 : t ≤ cap := by have := HN.out; omega
                by_cases hcj : cap = t
                · have hn3 : i2 - t = 0 := by have := HN.out; omega
                  have HD0 : Hid (L.drop t = []) := List.length_eq_zero_iff.1 (HRl.out.trans hn3)
                  have HD1 : Hid ((L.drop t).length = 0) := HRl.out.trans hn3
                  go_region_with (first
                    | (go_at_call 14; (with_reducible refine (CDr.out _ (by repeat (first | exact HM.out | refine Mine.drew ?_))).mono ?_); rintro e w8 ⟨a8, k8, rfl, h8⟩; have H8 := Lib.hid h8; clear h8)
                    | (go_at_call 13; (with_reducible refine (CSm.out 0 (by omega) _ _ _ _ _ _ _ (view_of H8.out.2) (view_empty HD0.out) rfl HD1.out).mono ?_); rintro e w9 ⟨rfl, h9⟩; have H9 := Lib.hid (H8.out.1.below h9).low; clear h9))
                  all_goals
                    go_wp2_with (fail)
                    go_ret
                    exact ⟨rfl, HB.out.trans (H9.out.mono HB.out.size)⟩
                · go_region_with (first
                    | (go_at_call 14; (with_reducible refine (CDr.out _ (by repeat (first | exact HM.out | refine Mine.drew ?_))).mono ?_); rintro e w8 ⟨a8, k8, rfl, h8⟩; have H8 := Lib.hid h8; clear h8)
                    | (go_at_call 13; (with_reducible refine (CSm.out (i2 - t) (by have := HN.out; omega) _ _ _ _ _ _ _ (view_of H8.out.2) (view_from (HV.out.below H8.out.1.low) t) rfl HRl.out).mono ?_); rintro e w9 ⟨rfl, h9⟩; have H9 := Lib.hid (H8.out.1.below h9).low; clear h9))
                  all_goals
                    go_wp2_with (fail)
                    go_ret
                    exact ⟨rfl, HB.out.trans (H9.out.mono HB.out.size)⟩

theorem i64_wf {x : Int} (h : (Lit.int .i64 x).wf = true) : -9223372036854775808 ≤ x ∧ x ≤ 9223372036854775807 := by
  simp [Lit.wf, IntKind.min, IntKind.max, IntKind.signed, IntKind.bits] at h
  omega
theorem row_moves (W : World) (a : Option Addr) (len cap : Nat) (l : List Req) (h : IsAsks W a len cap l) (a2 : Option Addr) (len2 cap2 : Nat) (l2 : List Req) (h2 : IsAsks W a2 len2 cap2 l2) (z : List Int) (lz : z.length = 2) (wz : ∀ x ∈ z, (Lit.int .i64 x).wf = true) :
    Calls Try.prog 5 #[.slice a len cap, .slice a2 len2 cap2, .agg (z.map (Value.int .i64)).toArray] W fun e w' => e = .returned (.bool true) ∧ Below W.heap.size W w' := by
  match z, lz with
  | [q0, q1], _ => exact law_moves W a len cap l h a2 len2 cap2 l2 h2 q0 q1 (i64_wf (wz q0 (by simp)))
end Go.Proofs.Ytkcdblpaaldcaaa
