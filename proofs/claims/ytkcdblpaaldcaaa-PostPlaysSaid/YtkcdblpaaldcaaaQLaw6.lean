/-
  The walk over the statement that two boxes go on, step by step, as the document's own do.
-/
import Derived.Test.YtkcdblpaaldcaaaQPlay2
import Derived.Deep.RegionHeld3
import Derived.Deep.CutBlock
import Derived.Deep.CutRange
import Derived.Deep.DeepCutAuto
namespace Go.Proofs.Ytkcdblpaaldcaaa
open Go.RowKit Go.Maps Go.Conc

theorem i64_and7 (n : Int) : bits .and .i64 n 7 = n % 8 := bits_low n 3 _ (by decide) (by omega)
theorem kinds {z : Int} (_h : 0 ≤ z ∧ z < 8) : ((z == 3) = true) ∨ ((z == 3) = false ∧ (z == 4) = true) ∨ ((z == 3) = false ∧ (z == 4) = false ∧ (z == 5) = true) ∨ ((z == 3) = false ∧ (z == 4) = false ∧ (z == 5) = false ∧ (z == 6) = true) ∨ ((z == 3) = false ∧ (z == 4) = false ∧ (z == 5) = false ∧ (z == 6) = false ∧ (z == 7) = true) ∨ ((z == 3) = false ∧ (z == 4) = false ∧ (z == 5) = false ∧ (z == 6) = false ∧ (z == 7) = false) := by
  simp only [beq_eq_false_iff_ne, beq_iff_eq]
  omega

/-- A row of steps. -/
abbrev Op5 := Int × Int × Int × Int × Bool
structure IsOps (W : World) (a0 : Option Addr) (len : Nat) (O : Nat → Op5) : Prop where
  hlen : (len : Int) ≤ 9223372036854775807
  cells : ∀ k, k < len → ∃ b off, a0 = some ⟨b, off, none⟩ ∧ b < W.heap.size ∧ W.cell? ⟨b, off + k * 5, none⟩ = some (.int .i64 (O k).1) ∧ W.cell? ⟨b, off + k * 5 + 1, none⟩ = some (.int .i64 (O k).2.1) ∧ W.cell? ⟨b, off + k * 5 + 2, none⟩ = some (.int .i64 (O k).2.2.1) ∧ W.cell? ⟨b, off + k * 5 + 3, none⟩ = some (.int .i64 (O k).2.2.2.1) ∧ W.cell? ⟨b, off + k * 5 + 4, none⟩ = some (.bool (O k).2.2.2.2)

theorem play_new {W w : World} {b c b2 c2 n1 n2 : Nat} (h : Both W w b c n1 [] false b2 c2 n2 [] false) :
    PlayV W ((w.alloc (.cells #[.int .i64 n1, .slice none 0 0, .bool false] 29)).alloc (.cells #[.int .i64 n2, .slice none 0 0, .bool false] 29)) b c b2 c2 w.heap.size (w.heap.size + 1) n1 n2 [] [] false [] [] false (.slice none 0 0) (.slice none 0 0) := by
  have hb : Below w.heap.size w ((w.alloc (.cells #[.int .i64 n1, .slice none 0 0, .bool false] 29)).alloc (.cells #[.int .i64 n2, .slice none 0 0, .bool false] 29)) := ((Below.refl _ _).alloc (Nat.le_refl _) _).alloc (by simp) _
  have hz := h.one.low.size
  refine ⟨h.below hb, ⟨⟨?_, by simpa [AsksB, flat] using World.ownsRow_nil _ _ _ _, Nat.zero_le _, h.one.box.few⟩, ⟨?_, by simpa [AsksB, flat] using World.ownsRow_nil _ _ _ _, Nat.zero_le _, h.two.box.few⟩, by omega, fun k hk => by cases hk⟩, hz, by omega⟩
  · exact (Below.heap_alloc _ _ _ (by simp)).trans (heap_alloc_new w _)
  · have := heap_alloc_new (w.alloc (.cells #[.int .i64 n1, .slice none 0 0, .bool false] 29)) (.cells #[.int .i64 n2, .slice none 0 0, .bool false] 29)
    rwa [World.size_alloc] at this

theorem PlayV.drew {W w : World} {b c b2 c2 rb sb n1 n2 : Nat} {q q2 p p2 : List Req} {sh ph : Bool} {v v2 : Value} (h : PlayV W w b c b2 c2 rb sb n1 n2 q q2 sh p p2 ph v v2) : PlayV W w.drew b c b2 c2 rb sb n1 n2 q q2 sh p p2 ph v v2 := h.below (Below.refl _ _).drew
theorem pv_drain {W w : World} {b c b2 c2 rb sb n1 n2 t : Nat} {q q2 p p2 : List Req} {sh ph : Bool} {v v2 : Value} {M : Int} (he : min q.length M.toNat = t) (h : PlayV W w b c b2 c2 rb sb n1 n2 q q2 sh p p2 ph v v2) :
    Calls Try.prog 14 #[.pointer (some ⟨b, 0, none⟩), .int .i64 M] w fun r w' => ∃ a cp, r = .returned (.slice a t cp) ∧ (PlayV W w' b c b2 c2 rb sb n1 n2 (q.drop t) q2 sh p p2 ph v v2 ∧ AsksB w' w.heap.size (.slice a t cp) (q.take t)) :=
  (drain_t he h.both.one.box).mono fun _ _ ⟨a, cp, h1, h2, h3⟩ => ⟨a, cp, h1, ⟨h.both.step h2, refs_four h.both h.refs (h2.2.mono fun _ _ z => .inl z), h.low⟩, h3⟩

theorem pv_drain_all {W w : World} {b c b2 c2 rb sb n1 n2 : Nat} {q q2 p p2 : List Req} {sh ph : Bool} {v v2 : Value} {M : Int} (he : min q.length M.toNat = q.length) (h : PlayV W w b c b2 c2 rb sb n1 n2 q q2 sh p p2 ph v v2) :
    Calls Try.prog 14 #[.pointer (some ⟨b, 0, none⟩), .int .i64 M] w fun r w' => ∃ a cp, r = .returned (.slice a q.length cp) ∧ (PlayV W w' b c b2 c2 rb sb n1 n2 (q.drop q.length) q2 sh p p2 ph v v2 ∧ AsksB w' w.heap.size (.slice a q.length cp) q) := by
  have := pv_drain he h
  rw [List.take_length] at this
  exact this

set_option maxRecDepth 100000 in
set_option maxHeartbeats 80000000 in
theorem law_plays (W : World) (n m : Int) (a0 : Option Addr) (len cap M : Nat) (O : Nat → Op5) (hlen : (len : Int) ≤ 9223372036854775807) (hm : M = min len 60)
    (HC : Hid (∀ k, k < len → ∃ b off, a0 = some ⟨b, off, none⟩ ∧ b < W.heap.size ∧ W.cell? ⟨b, off + k * 5, none⟩ = some (.int .i64 (O k).1) ∧ W.cell? ⟨b, off + k * 5 + 1, none⟩ = some (.int .i64 (O k).2.1) ∧ W.cell? ⟨b, off + k * 5 + 2, none⟩ = some (.int .i64 (O k).2.2.1) ∧ W.cell? ⟨b, off + k * 5 + 3, none⟩ = some (.int .i64 (O k).2.2.2.1) ∧ W.cell? ⟨b, off + k * 5 + 4, none⟩ = some (.bool (O k).2.2.2.2))) :
    Calls Try.prog 3 #[.int .i64 n, .int .i64 m, .slice a0 len cap] W fun e w' => e = .returned (.bool true) ∧ Below W.heap.size W w' := by
  have A := Lib.hid (awake_any W)
  have hm60 : M ≤ 60 := by omega
  have hml : M ≤ len := by omega
  have hor : M = len ∨ (M = 60 ∧ 60 < len) := by omega
  obtain ⟨t, k0, e1, e2, e3, e4, e5⟩ := led n 8 (by omega) (by omega)
  obtain ⟨K1, hK1⟩ : ∃ K : Nat, 1 + (k0 : Int) = (K : Int) := ⟨k0 + 1, by omega⟩
  have e6 : (t + 8).tmod 8 = (k0 : Int) := by rw [Int.tmod_eq_emod_of_nonneg (by omega)]; exact e4
  obtain ⟨s, l0, d1, d2, d3, d4, d5⟩ := led m 8 (by omega) (by omega)
  obtain ⟨K2, hK2⟩ : ∃ K : Nat, 1 + (l0 : Int) = (K : Int) := ⟨l0 + 1, by omega⟩
  have d6 : (s + 8).tmod 8 = (l0 : Int) := by rw [Int.tmod_eq_emod_of_nonneg (by omega)]; exact d4
  clear hm
  go_enter Try.func3, Try.ntmps3
  go_wp2_with (first
    | (go_at_call 9; (refine (A.out).mono ?_); rintro r w1 ⟨rfl, h1⟩; have H1 := Lib.hid h1; clear h1)
    | (go_at_call 10; (with_reducible refine (new_some K1 (by omega) (by omega) _).mono ?_); rintro e w2 ⟨b, c, rfl, h2⟩; have H2 := Lib.hid (mine_new H1.out h2); clear h2 H1)
    | (go_at_call 10; (with_reducible refine (new_some K2 (by omega) (by omega) _).mono ?_); rintro e w3 ⟨b2, c2, rfl, h3⟩; have H3 := Lib.hid (play_new (both_new H2.out h3)); clear h3 H2))
  have HK : Hid (K1 ≤ 8 ∧ K2 ≤ 8) := ⟨by omega, by omega⟩
  clear e1 e2 e3 e4 e5 e6 d1 d2 d3 d4 d5 d6 hK1 hK2 A
  generalize w3.heap.size = rb at H3 ⊢
  generalize rb + 1 = sb at H3 ⊢
  go_loopw [14] (fun u wr => ∃ (i : Nat) (q q2 : List Req) (sh : Bool) (v v2 : Value), i ≤ M ∧ u = .int .i64 i ∧ Hid (PlayV W wr b c b2 c2 rb sb K1 K2 q q2 sh q q2 sh v v2)) (fun u _ => (M - intOf u).toNat)
  case atStart => exact ⟨0, [], [], false, _, _, by omega, rfl, H3⟩
  case round =>
    obtain ⟨i, q, q2, sh, v, v2, hi, rfl, HP⟩ := hrel
    clear H3
    by_cases hlt : i < M
    · obtain ⟨g, off, rfl, hb, o0, o1, o2, o3, o4⟩ := HC.out i (by omega)
      have o0 : wr.cell? ⟨g, off + i * 5, none⟩ = some (.int .i64 (O i).1) := by rw [HP.out.both.one.low.cell (p := ⟨g, off + i * 5, none⟩) hb]; exact o0
      have o1 : wr.cell? ⟨g, off + i * 5 + 1, none⟩ = some (.int .i64 (O i).2.1) := by rw [HP.out.both.one.low.cell (p := ⟨g, off + i * 5 + 1, none⟩) hb]; exact o1
      have o2 : wr.cell? ⟨g, off + i * 5 + 2, none⟩ = some (.int .i64 (O i).2.2.1) := by rw [HP.out.both.one.low.cell (p := ⟨g, off + i * 5 + 2, none⟩) hb]; exact o2
      have o3 : wr.cell? ⟨g, off + i * 5 + 3, none⟩ = some (.int .i64 (O i).2.2.2.1) := by rw [HP.out.both.one.low.cell (p := ⟨g, off + i * 5 + 3, none⟩) hb]; exact o3
      have o4 : wr.cell? ⟨g, off + i * 5 + 4, none⟩ = some (.bool (O i).2.2.2.2) := by rw [HP.out.both.one.low.cell (p := ⟨g, off + i * 5 + 4, none⟩) hb]; exact o4
      have hbw : g < wr.heap.size := Nat.lt_of_lt_of_le hb HP.out.both.one.low.size
      generalize (O i).1 = kd at o0
      generalize (O i).2.1 = nn at o1
      generalize (O i).2.2.1 = tk at o2
      generalize (O i).2.2.2.1 = dm at o3
      generalize (O i).2.2.2.2 = nr at o4
      obtain ⟨z, hz⟩ : ∃ z, z = kd % 8 := ⟨_, rfl⟩
      have hy : bits .and .i64 kd 7 = z := by rw [i64_and7, hz]
      have hz8 : Hid (0 ≤ z ∧ z < 8) := ⟨by omega, by omega⟩
      have HS0 : Hid (PlayO W (wr.alloc (.cells #[.int .i64 kd, .int .i64 nn, .int .i64 tk, .int .i64 dm, .bool nr] 33)) b c b2 c2 rb sb K1 K2 q q2 sh q q2 sh v v2 wr.heap.size (opC kd nn tk dm nr)) := HP.out.st _
      have hk1 : (i : Int) < (len : Int) := by omega
      have hk2 : (i : Int) < 60 := by omega
      have hk0 : (0 : Int) ≤ (i : Int) := by omega
      clear HC hb hor hz HP
      go_upto_block 2 with (fail)
      refine gen_world (fun wq => PlayO W wq b c b2 c2 rb sb K1 K2 q q2 sh q q2 sh v v2 wr.heap.size (opC kd nn tk dm nr)) HS0.out ?_
      clear HS0 o0 o1 o2 o3 o4 hbw
      intro wq hq
      have H3 := Lib.hid hq
      obtain ⟨p0, p1, p2, p3, p4⟩ := hq.o
      clear hq
      go_cut [16] (fun okv wx => okv = .bool true ∧ ∃ (q1 q21 : List Req) (sh1 : Bool), Hid (PlayE W wx b c b2 c2 rb sb K1 K2 q1 q21 sh1 wr.heap.size (opC kd nn tk dm nr)))
      case first =>
        rcases kinds hz8.out with t3 | ⟨t3, t4⟩ | ⟨t3, t4, t5⟩ | ⟨t3, t4, t5, t6⟩ | ⟨t3, t4, t5, t6, t7⟩ | ⟨t3, t4, t5, t6, t7⟩
        · as_aux_lemma =>
          obtain ⟨x, y, bb, q', ca, cb⟩ := take_step W b c b2 c2 rb sb K1 K2 wr.heap.size (opC kd nn tk dm nr) q q2 sh
          have CA := Lib.hid ca
          have CB := Lib.hid cb
          clear ca cb
          have XB : Hid (∀ w w2 v' v2', PlayO W w b c b2 c2 rb sb K1 K2 q' q2 sh q q2 sh v' v2' wr.heap.size (opC kd nn tk dm nr) → Turn (ROwn2 rb v' sb v2') (w.alloc (.cells #[.int .i64 x, .int .i64 y] 31)) w2 → w2.heap[w.heap.size]? = some (.cells #[.int .i64 x, .int .i64 y] 31 (0, 0))) := fun w w2 v' v2' h t => t.obj (heap_alloc_new w _) (fun z => Nat.lt_irrefl _ (h.lt z))
          go_upto_region 20 with (first
            | (go_at_call 11; (with_reducible refine (CA.out _ _ _ H3.out).mono ?_); rintro r w4 ⟨rfl, h4⟩; have H4 := Lib.hid h4; clear h4)
            | (go_at_call 12; (with_reducible refine (CB.out _ _ _ (H4.out.alloc _)).mono ?_); rintro r w5 ⟨rfl, ⟨v5, h5⟩, t5⟩; have H5 := Lib.hid h5; have HX5 := Lib.hid (XB.out _ _ _ _ H4.out t5); clear h5 t5))
          refine gen_world (fun wq => PlayE W wq b c b2 c2 rb sb K1 K2 q' q2 sh wr.heap.size (opC kd nn tk dm nr) ∧ wq.heap[w4.heap.size]? = some (.cells #[.int .i64 x, .int .i64 y] 31 (0, 0)) ∧ wq.heap[w5.heap.size]? = some (.cells #[.int .i64 x, .int .i64 y] 31 (0, 0))) ⟨(H5.out.alloc _).e, (Below.heap_alloc _ _ _ (lt_of_block HX5.out)).trans HX5.out, heap_alloc_new _ _⟩ ?_
          rintro wq ⟨hq, ho1, ho2⟩
          have HQ := Lib.hid hq
          have r0 : wq.cell? ⟨w4.heap.size, 0, none⟩ = some (.int .i64 x) := by rw [blk_cell ho1]; rfl
          have r1 : wq.cell? ⟨w4.heap.size, 1, none⟩ = some (.int .i64 y) := by rw [blk_cell ho1]; rfl
          have s0 : wq.cell? ⟨w5.heap.size, 0, none⟩ = some (.int .i64 x) := by rw [blk_cell ho2]; rfl
          have s1 : wq.cell? ⟨w5.heap.size, 1, none⟩ = some (.int .i64 y) := by rw [blk_cell ho2]; rfl
          clear hq ho1 ho2
          go_wp2_with (fail)
          go_meet
          exact ⟨by simp, q', q2, sh, HQ⟩
        · as_aux_lemma =>
          obtain ⟨t, l, q', ht, ca, cb⟩ := drain_step W b c b2 c2 rb sb K1 K2 wr.heap.size (opC kd nn tk dm nr) q q2 sh nn (by have := HK.out; omega)
          have CA := Lib.hid ca
          have CB := Lib.hid cb
          have CSm := Lib.hid (fun w k1 k2 a1 a2 (h1 : View w a1 l) (h2 : View w a2 l) (hl : l.length = t) => same_yes t k1 k2 (by omega) a1 a2 l hl w h1 h2)
          clear ca cb
          go_upto_region 22 with (fail)
          go_region_with (first
            | (go_at_call 14; (with_reducible refine (CA.out _ v v2 (by repeat (first | exact H3.out | refine PlayO.drew ?_))).mono ?_); rintro r w4 ⟨a4, k4, rfl, h4⟩; have H4 := Lib.hid h4; obtain ⟨u0, u1, u2, u3, u4⟩ := h4.1.o; clear h4)
            | (go_at_call 15; (with_reducible refine (CB.out _ v v2 (by repeat (first | exact H4.out.1 | refine PlayO.drew ?_))).mono ?_); rintro r w5 ⟨a5, k5, rfl, h5⟩; have H5 := Lib.hid h5; have A4 := Lib.hid (H4.out.2.1.kept h5.2.2 (fun k hk z => by have := H4.out.2.1.new hk; have := H4.out.2.2.2 k z; omega)); clear h5)
            | (go_at_call 13; (with_reducible refine (CSm.out _ _ _ _ _ (view_of A4.out) (view_of H5.out.2.1) H4.out.2.2.1).mono ?_); rintro r w6 ⟨rfl, h6⟩; have H6 := Lib.hid (H5.out.1.below h6); clear h6))
          all_goals
            go_wp2_with (fail)
            go_meet
            exact ⟨by simp, q', q2, sh, H6⟩
        · as_aux_lemma =>
          obtain ⟨t, q', q2', ca, cb⟩ := move_step W b c b2 c2 rb sb K1 K2 wr.heap.size (opC kd nn tk dm nr) q q2 sh nn
          have CA := Lib.hid ca
          have CB := Lib.hid cb
          clear ca cb
          go_upto_region 24 with (fail)
          go_region_with (first
            | (go_at_call 16; (with_reducible refine (CA.out _ v v2 (by repeat (first | exact H3.out | refine PlayO.drew ?_))).mono ?_); rintro r w4 ⟨rfl, h4⟩; have H4 := Lib.hid h4; obtain ⟨u0, u1, u2, u3, u4⟩ := h4.o; clear h4)
            | (go_at_call 17; (with_reducible refine (CB.out _ v v2 (by repeat (first | exact H4.out | refine PlayO.drew ?_))).mono ?_); rintro r w5 ⟨rfl, h5⟩; have H5 := Lib.hid h5; obtain ⟨_, _, h5⟩ := h5; obtain ⟨y0, y1, y2, y3, y4⟩ := h5.o; clear h5))
          all_goals
            go_wp2_with (fail)
            go_meet
            exact ⟨by simp, q', q2', sh, H5⟩
        · as_aux_lemma =>
          obtain ⟨t, q', q2', ca, cb⟩ := back_step W b c b2 c2 rb sb K1 K2 wr.heap.size (opC kd nn tk dm nr) q q2 sh nn
          have CA := Lib.hid ca
          have CB := Lib.hid cb
          clear ca cb
          go_upto_region 26 with (fail)
          go_region_with (first
            | (go_at_call 16; (with_reducible refine (CA.out _ v v2 (by repeat (first | exact H3.out | refine PlayO.drew ?_))).mono ?_); rintro r w4 ⟨rfl, h4⟩; have H4 := Lib.hid h4; obtain ⟨u0, u1, u2, u3, u4⟩ := h4.o; clear h4)
            | (go_at_call 17; (with_reducible refine (CB.out _ v v2 (by repeat (first | exact H4.out | refine PlayO.drew ?_))).mono ?_); rintro r w5 ⟨rfl, h5⟩; have H5 := Lib.hid h5; obtain ⟨_, _, h5⟩ := h5; obtain ⟨y0, y1, y2, y3, y4⟩ := h5.o; clear h5)
            | (go_at_call 16; (with_reducible refine (pe_self nn H5.out).mono ?_); rintro r w6 ⟨rfl, h6⟩; have H6 := Lib.hid h6; clear h6))
          all_goals
            go_wp2_with (fail)
            go_meet
            exact ⟨by simp, q', q2', sh, H6⟩
        · as_aux_lemma =>
          cases nr with
          | false =>
            go_wp2_with (fail)
            go_meet
            exact ⟨by simp, q, q2, sh, H3.out.e⟩
          | true =>
            have CA := Lib.hid (fun w (h : PlayO W w b c b2 c2 rb sb K1 K2 q q2 sh q q2 sh v v2 wr.heap.size (opC kd nn tk dm true)) => po_shut h)
            cases sh with
            | false =>
              go_upto_region 29 with (fail)
              obtain ⟨c0, c1, c2'⟩ := H3.out.refs.r.cells
              go_region_with (go_at_call 18; (with_reducible refine (CA.out _ (by repeat (first | exact H3.out | refine PlayO.drew ?_))).mono ?_); rintro r w4 ⟨rfl, h4⟩; have H4 := Lib.hid h4; obtain ⟨u0, u1, u2⟩ := h4.refs.r.cells; have cf := h4.refs.r.free 2; clear h4)
              all_goals
                go_wp2_with (fail)
                go_meet
                exact ⟨by simp, q, q2, true, po_set H4.out⟩
            | true =>
              go_upto_region 29 with (fail)
              obtain ⟨c0, c1, c2'⟩ := H3.out.refs.r.cells
              go_region_with (go_at_call 18; (with_reducible refine (CA.out _ (by repeat (first | exact H3.out | refine PlayO.drew ?_))).mono ?_); rintro r w4 ⟨rfl, h4⟩; have H4 := Lib.hid h4; obtain ⟨u0, u1, u2⟩ := h4.refs.r.cells; have cf := h4.refs.r.free 2; clear h4)
              all_goals
                go_wp2_with (fail)
                go_meet
                exact ⟨by simp, q, q2, true, po_set H4.out⟩
        · as_aux_lemma =>
          obtain ⟨bb, q', ca, cb⟩ := put_step W b c b2 c2 rb sb K1 K2 wr.heap.size (opC kd nn tk dm nr) q q2 sh tk dm
          have CA := Lib.hid ca
          have CB := Lib.hid cb
          clear ca cb
          go_upto_region 16 with (fail)
          go_region_with (first
            | (go_at_call 19; (with_reducible refine (CA.out _ v v2 (by repeat (first | exact H3.out | refine PlayO.drew ?_))).mono ?_); rintro r w4 ⟨rfl, h4⟩; have H4 := Lib.hid h4; obtain ⟨u0, u1, u2, u3, u4⟩ := h4.o; clear h4)
            | (go_at_call 20; (with_reducible refine (CB.out _ v v2 (by repeat (first | exact H4.out | refine PlayO.drew ?_))).mono ?_); rintro r w5 ⟨rfl, h5⟩; have H5 := Lib.hid h5; clear h5))
          all_goals
            go_wp2_with (fail)
            go_meet
            exact ⟨by simp, q', q2, sh, H5⟩
      case rest =>
        as_aux_lemma =>
        obtain ⟨rfl, q1, q21, sh1, HS⟩ := hcut
        obtain ⟨v1, v21, h1⟩ := HS.out
        obtain ⟨a1, cp1, rfl, _⟩ := h1.refs.r.row.asks.slice
        obtain ⟨a2, cp2, rfl, _⟩ := h1.refs.s.row.asks.slice
        obtain ⟨x0, x1, x2⟩ := h1.refs.r.cells
        obtain ⟨y0, y1, y2⟩ := h1.refs.s.cells
        clear H3 p0 p1 p2 p3 p4 hy hz8 HS x0 y0 y2
        obtain ⟨z1, hz1⟩ : ∃ z1 : Int, (if sh1 = true then 0 else (K1 : Int) - q1.length) = z1 := ⟨_, rfl⟩
        obtain ⟨z2, hz2⟩ : ∃ z2 : Int, (K2 : Int) - q21.length = z2 := ⟨_, rfl⟩
        have CL1 : Hid (∀ w', PlayO W w' b c b2 c2 rb sb K1 K2 q1 q21 sh1 q1 q21 sh1 (.slice a1 q1.length cp1) (.slice a2 q21.length cp2) wr.heap.size (opC kd nn tk dm nr) → Calls Try.prog 21 #[.pointer (some ⟨b, 0, none⟩)] w' fun r w'' => r = .returned (.int .i64 q1.length) ∧ PlayO W w'' b c b2 c2 rb sb K1 K2 q1 q21 sh1 q1 q21 sh1 (.slice a1 q1.length cp1) (.slice a2 q21.length cp2) wr.heap.size (opC kd nn tk dm nr)) := fun w' h => po_len1 h
        have CL2 : Hid (∀ w', PlayO W w' b c b2 c2 rb sb K1 K2 q1 q21 sh1 q1 q21 sh1 (.slice a1 q1.length cp1) (.slice a2 q21.length cp2) wr.heap.size (opC kd nn tk dm nr) → Calls Try.prog 21 #[.pointer (some ⟨b2, 0, none⟩)] w' fun r w'' => r = .returned (.int .i64 q21.length) ∧ PlayO W w'' b c b2 c2 rb sb K1 K2 q1 q21 sh1 q1 q21 sh1 (.slice a1 q1.length cp1) (.slice a2 q21.length cp2) wr.heap.size (opC kd nn tk dm nr)) := fun w' h => po_len2 h
        have CR1 : Hid (∀ w', PlayO W w' b c b2 c2 rb sb K1 K2 q1 q21 sh1 q1 q21 sh1 (.slice a1 q1.length cp1) (.slice a2 q21.length cp2) wr.heap.size (opC kd nn tk dm nr) → Calls Try.prog 22 #[.pointer (some ⟨b, 0, none⟩)] w' fun r w'' => r = .returned (.int .i64 z1) ∧ PlayO W w'' b c b2 c2 rb sb K1 K2 q1 q21 sh1 q1 q21 sh1 (.slice a1 q1.length cp1) (.slice a2 q21.length cp2) wr.heap.size (opC kd nn tk dm nr)) := fun w' h => po_room1 h hz1
        have CR2 : Hid (∀ w', PlayO W w' b c b2 c2 rb sb K1 K2 q1 q21 sh1 q1 q21 sh1 (.slice a1 q1.length cp1) (.slice a2 q21.length cp2) wr.heap.size (opC kd nn tk dm nr) → Calls Try.prog 22 #[.pointer (some ⟨b2, 0, none⟩)] w' fun r w'' => r = .returned (.int .i64 z2) ∧ PlayO W w'' b c b2 c2 rb sb K1 K2 q1 q21 sh1 q1 q21 sh1 (.slice a1 q1.length cp1) (.slice a2 q21.length cp2) wr.heap.size (opC kd nn tk dm nr)) := fun w' h => po_room2 h hz2
        have CS1 : Hid (∀ w', PlayO W w' b c b2 c2 rb sb K1 K2 q1 q21 sh1 q1 q21 sh1 (.slice a1 q1.length cp1) (.slice a2 q21.length cp2) wr.heap.size (opC kd nn tk dm nr) → Calls Try.prog 23 #[.pointer (some ⟨rb, 0, none⟩)] w' fun r w'' => r = .returned (.int .i64 z1) ∧ PlayO W w'' b c b2 c2 rb sb K1 K2 q1 q21 sh1 q1 q21 sh1 (.slice a1 q1.length cp1) (.slice a2 q21.length cp2) wr.heap.size (opC kd nn tk dm nr)) := fun w' h => po_rroom1 h hz1
        have CS2 : Hid (∀ w', PlayO W w' b c b2 c2 rb sb K1 K2 q1 q21 sh1 q1 q21 sh1 (.slice a1 q1.length cp1) (.slice a2 q21.length cp2) wr.heap.size (opC kd nn tk dm nr) → Calls Try.prog 23 #[.pointer (some ⟨sb, 0, none⟩)] w' fun r w'' => r = .returned (.int .i64 z2) ∧ PlayO W w'' b c b2 c2 rb sb K1 K2 q1 q21 sh1 q1 q21 sh1 (.slice a1 q1.length cp1) (.slice a2 q21.length cp2) wr.heap.size (opC kd nn tk dm nr)) := fun w' h => po_rroom2 h hz2
        have CO : Hid (∀ w', PlayO W w' b c b2 c2 rb sb K1 K2 q1 q21 sh1 q1 q21 sh1 (.slice a1 q1.length cp1) (.slice a2 q21.length cp2) wr.heap.size (opC kd nn tk dm nr) → Calls Try.prog 24 #[.pointer (some ⟨b, 0, none⟩)] w' fun r w'' => r = .returned (.bool (!sh1)) ∧ PlayO W w'' b c b2 c2 rb sb K1 K2 q1 q21 sh1 q1 q21 sh1 (.slice a1 q1.length cp1) (.slice a2 q21.length cp2) wr.heap.size (opC kd nn tk dm nr)) := fun w' h => po_open h
        have MK : Hid (∀ w', PlayO W w' b c b2 c2 rb sb K1 K2 q1 q21 sh1 q1 q21 sh1 (.slice a1 q1.length cp1) (.slice a2 q21.length cp2) wr.heap.size (opC kd nn tk dm nr) → PlayO W w' b c b2 c2 rb sb K1 K2 q1 q21 sh1 q1 q21 sh1 (.slice a1 q1.length cp1) (.slice a2 q21.length cp2) wr.heap.size (opC kd nn tk dm nr) ∧ w'.cell? ⟨rb, 1, none⟩ = some (.slice a1 q1.length cp1) ∧ w'.cell? ⟨rb, 2, none⟩ = some (.bool sh1) ∧ w'.cell? ⟨sb, 1, none⟩ = some (.slice a2 q21.length cp2)) := fun w' h => ⟨h, h.refs.r.cells.2.1, h.refs.r.cells.2.2, h.refs.s.cells.2.1⟩
        have hns : ((!sh1) == sh1) = false := by cases sh1 <;> rfl
        clear hz1 hz2
        go_upto_region 31 with (fail)
        go_region_held3 (fun w' => PlayO W w' b c b2 c2 rb sb K1 K2 q1 q21 sh1 q1 q21 sh1 (.slice a1 q1.length cp1) (.slice a2 q21.length cp2) wr.heap.size (opC kd nn tk dm nr) ∧ w'.cell? ⟨rb, 1, none⟩ = some (.slice a1 q1.length cp1) ∧ w'.cell? ⟨rb, 2, none⟩ = some (.bool sh1) ∧ w'.cell? ⟨sb, 1, none⟩ = some (.slice a2 q21.length cp2)) (exact MK.out _ (by repeat (first | (with_reducible assumption) | refine PlayO.drew ?_))) (first
          | (go_at_call 21; (with_reducible refine (CL1.out _ (by repeat (first | (with_reducible assumption) | refine PlayO.drew ?_))).mono ?_); rintro e wx ⟨rfl, bx⟩)
          | (go_at_call 21; (with_reducible refine (CL2.out _ (by repeat (first | (with_reducible assumption) | refine PlayO.drew ?_))).mono ?_); rintro e wx ⟨rfl, bx⟩)
          | (go_at_call 22; (with_reducible refine (CR1.out _ (by repeat (first | (with_reducible assumption) | refine PlayO.drew ?_))).mono ?_); rintro e wx ⟨rfl, bx⟩)
          | (go_at_call 22; (with_reducible refine (CR2.out _ (by repeat (first | (with_reducible assumption) | refine PlayO.drew ?_))).mono ?_); rintro e wx ⟨rfl, bx⟩)
          | (go_at_call 23; (with_reducible refine (CS1.out _ (by repeat (first | (with_reducible assumption) | refine PlayO.drew ?_))).mono ?_); rintro e wx ⟨rfl, bx⟩)
          | (go_at_call 23; (with_reducible refine (CS2.out _ (by repeat (first | (with_reducible assumption) | refine PlayO.drew ?_))).mono ?_); rintro e wx ⟨rfl, bx⟩)
          | (go_at_call 24; (with_reducible refine (CO.out _ (by repeat (first | (with_reducible assumption) | refine PlayO.drew ?_))).mono ?_); rintro e wx ⟨rfl, bx⟩)
          | fail)
        all_goals
          go_wp2_with (fail)
          exact ⟨⟨i + 1, q1, q21, sh1, _, _, by omega, by simp, PlayO.pv (by with_reducible assumption)⟩, by simp [intOf]; omega⟩
    · as_aux_lemma =>
      obtain rfl : i = M := by omega
      obtain ⟨a1, cp1, rfl, _⟩ := HP.out.refs.r.row.asks.slice
      obtain ⟨x0, x1, x2⟩ := HP.out.refs.r.cells
      have hq8 : Hid (q.length ≤ 8) := by have := HP.out.both.one.box.room; have := HK.out; show _ ≤ _; omega
      have CD := Lib.hid (fun w (h : PlayV W w b c b2 c2 rb sb K1 K2 q q2 sh q q2 sh (.slice a1 q.length cp1) v2) => pv_drain_all (M := 99) (by have := hq8.out; omega) h)
      have CSm := Lib.hid (fun w k1 k2 a1 a2 (h1 : View w a1 q) (h2 : View w a2 q) => same_yes q.length k1 k2 (by have := hq8.out; omega) a1 a2 q rfl w h1 h2)
      have hor2 : (i : Int) = (len : Int) ∨ ((i : Int) = 60 ∧ (60 : Int) < (len : Int)) := by omega
      clear HC hor hml hi hlt x0 x2
      rcases hor2 with z | ⟨z1, z2⟩
      · have t1 : ¬ (i : Int) < (len : Int) := by omega
        clear z
        go_upto_region 33 with (fail)
        go_region_with (first
          | (go_at_call 14; (with_reducible refine (CD.out _ (by repeat (first | exact HP.out | refine PlayV.drew ?_))).mono ?_); rintro r w4 ⟨a4, k4, rfl, h4⟩; have H4 := Lib.hid h4; obtain ⟨u0, u1, u2⟩ := h4.1.refs.r.cells; clear h4)
          | (go_at_call 13; (with_reducible refine (CSm.out _ _ _ _ _ (view_of H4.out.2) (view_of H4.out.1.refs.r.row)).mono ?_); rintro r w5 ⟨rfl, h5⟩; have H5 := Lib.hid (H4.out.1.below h5); clear h5))
        all_goals
          go_wp2_with (fail)
          go_ret
          exact ⟨rfl, H5.out.both.one.low⟩
      · have t1 : (i : Int) < (len : Int) := by omega
        have t2 : ¬ (i : Int) < 60 := by omega
        clear z1 z2
        go_upto_region 33 with (fail)
        go_region_with (first
          | (go_at_call 14; (with_reducible refine (CD.out _ (by repeat (first | exact HP.out | refine PlayV.drew ?_))).mono ?_); rintro r w4 ⟨a4, k4, rfl, h4⟩; have H4 := Lib.hid h4; obtain ⟨u0, u1, u2⟩ := h4.1.refs.r.cells; clear h4)
          | (go_at_call 13; (with_reducible refine (CSm.out _ _ _ _ _ (view_of H4.out.2) (view_of H4.out.1.refs.r.row)).mono ?_); rintro r w5 ⟨rfl, h5⟩; have H5 := Lib.hid (H4.out.1.below h5); clear h5))
        all_goals
          go_wp2_with (fail)
          go_ret
          exact ⟨rfl, H5.out.both.one.low⟩
end Go.Proofs.Ytkcdblpaaldcaaa
