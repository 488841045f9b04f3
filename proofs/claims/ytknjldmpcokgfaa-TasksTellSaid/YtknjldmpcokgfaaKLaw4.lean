/-
  The walk over the statement that tasks are told.
-/
import Derived.Test.YtknjldmpcokgfaaKOrd
import Derived.Test.YtknjldmpcokgfaaKW32
import Derived.Test.YtknjldmpcokgfaaKW29
import Derived.Test.YtknjldmpcokgfaaKW17
import Derived.Test.YtknjldmpcokgfaaKW12
namespace Go.Proofs.Ytknjldmpcokgfaa
open Go.RowKit Go.Maps Go.Shelf

/-- What came in, in boxes. -/
structure PreAt (W : World) (S R : Int) (a : Option Addr) (n cap : Nat) (X Y : TV) (q0 q1 : Int) (V : World) : Prop where
  low : Below W.heap.size W V
  s0 : V.cell? ⟨W.heap.size, 0, none⟩ = some (.int .i64 S)
  s1 : V.cell? ⟨W.heap.size, 1, none⟩ = some (.int .i64 R)
  s2 : V.cell? ⟨W.heap.size, 2, none⟩ = some (.slice a n cap)
  t0 : V.cell? ⟨W.heap.size + 1, 0, none⟩ = some (.int .i64 X.id)
  t1 : V.cell? ⟨W.heap.size + 1, 1, none⟩ = some (.int .i64 X.c)
  t2 : V.cell? ⟨W.heap.size + 1, 2, none⟩ = some (.int .i64 X.d)
  t3 : V.cell? ⟨W.heap.size + 1, 3, none⟩ = some (.int .i64 X.t)
  t4 : V.cell? ⟨W.heap.size + 1, 4, none⟩ = some (.int .i64 X.p)
  t5 : V.cell? ⟨W.heap.size + 1, 5, none⟩ = some (.slice X.a1 X.ch.length X.c1)
  t6 : V.cell? ⟨W.heap.size + 1, 6, none⟩ = some (.slice X.a2 X.us.length X.c2)
  t7 : V.cell? ⟨W.heap.size + 1, 7, none⟩ = some (.int .i64 Y.id)
  t8 : V.cell? ⟨W.heap.size + 1, 8, none⟩ = some (.int .i64 Y.c)
  t9 : V.cell? ⟨W.heap.size + 1, 9, none⟩ = some (.int .i64 Y.d)
  t10 : V.cell? ⟨W.heap.size + 1, 10, none⟩ = some (.int .i64 Y.t)
  t11 : V.cell? ⟨W.heap.size + 1, 11, none⟩ = some (.int .i64 Y.p)
  t12 : V.cell? ⟨W.heap.size + 1, 12, none⟩ = some (.slice Y.a1 Y.ch.length Y.c1)
  t13 : V.cell? ⟨W.heap.size + 1, 13, none⟩ = some (.slice Y.a2 Y.us.length Y.c2)
  u0 : V.cell? ⟨W.heap.size + 2, 0, none⟩ = some (.int .i64 q0)
  u1 : V.cell? ⟨W.heap.size + 2, 1, none⟩ = some (.int .i64 q1)
theorem PreAt.below {W V V' : World} {S R q0 q1 : Int} {a : Option Addr} {n cap : Nat} {X Y : TV} (h : PreAt W S R a n cap X Y q0 q1 V) (hb : Below V.heap.size V V') : PreAt W S R a n cap X Y q0 q1 V' :=
  ⟨below_up h.low hb, kept_cell hb h.s0, kept_cell hb h.s1, kept_cell hb h.s2, kept_cell hb h.t0, kept_cell hb h.t1, kept_cell hb h.t2, kept_cell hb h.t3, kept_cell hb h.t4, kept_cell hb h.t5, kept_cell hb h.t6, kept_cell hb h.t7, kept_cell hb h.t8, kept_cell hb h.t9, kept_cell hb h.t10, kept_cell hb h.t11, kept_cell hb h.t12, kept_cell hb h.t13, kept_cell hb h.u0, kept_cell hb h.u1⟩
theorem preAt_new {W : World} {S R q0 q1 : Int} {a : Option Addr} {n cap : Nat} {X Y : TV} : PreAt W S R a n cap X Y q0 q1 (((W.alloc (.cells #[.int .i64 S, .int .i64 R, .slice a n cap] 39)).alloc (.cells #[.int .i64 X.id, .int .i64 X.c, .int .i64 X.d, .int .i64 X.t, .int .i64 X.p, .slice X.a1 X.ch.length X.c1, .slice X.a2 X.us.length X.c2, .int .i64 Y.id, .int .i64 Y.c, .int .i64 Y.d, .int .i64 Y.t, .int .i64 Y.p, .slice Y.a1 Y.ch.length Y.c1, .slice Y.a2 Y.us.length Y.c2] 40)).alloc (.cells #[.int .i64 q0, .int .i64 q1] 41)) := by
  have hs : ∀ k v, (#[.int .i64 S, .int .i64 R, .slice a n cap] : Array Value)[k]? = some v → (((W.alloc (.cells #[.int .i64 S, .int .i64 R, .slice a n cap] 39)).alloc (.cells #[.int .i64 X.id, .int .i64 X.c, .int .i64 X.d, .int .i64 X.t, .int .i64 X.p, .slice X.a1 X.ch.length X.c1, .slice X.a2 X.us.length X.c2, .int .i64 Y.id, .int .i64 Y.c, .int .i64 Y.d, .int .i64 Y.t, .int .i64 Y.p, .slice Y.a1 Y.ch.length Y.c1, .slice Y.a2 Y.us.length Y.c2] 40)).alloc (.cells #[.int .i64 q0, .int .i64 q1] 41)).cell? ⟨W.heap.size, k, none⟩ = some v := fun k v hk =>
    kept_cell (Below.alloc (Below.refl _ _) (Nat.le_refl _) _) (kept_cell (Below.alloc (Below.refl _ _) (Nat.le_refl _) _) ((World.cell?_alloc_new ..).trans hk))
  have ht : ∀ k v, (#[.int .i64 X.id, .int .i64 X.c, .int .i64 X.d, .int .i64 X.t, .int .i64 X.p, .slice X.a1 X.ch.length X.c1, .slice X.a2 X.us.length X.c2, .int .i64 Y.id, .int .i64 Y.c, .int .i64 Y.d, .int .i64 Y.t, .int .i64 Y.p, .slice Y.a1 Y.ch.length Y.c1, .slice Y.a2 Y.us.length Y.c2] : Array Value)[k]? = some v → (((W.alloc (.cells #[.int .i64 S, .int .i64 R, .slice a n cap] 39)).alloc (.cells #[.int .i64 X.id, .int .i64 X.c, .int .i64 X.d, .int .i64 X.t, .int .i64 X.p, .slice X.a1 X.ch.length X.c1, .slice X.a2 X.us.length X.c2, .int .i64 Y.id, .int .i64 Y.c, .int .i64 Y.d, .int .i64 Y.t, .int .i64 Y.p, .slice Y.a1 Y.ch.length Y.c1, .slice Y.a2 Y.us.length Y.c2] 40)).alloc (.cells #[.int .i64 q0, .int .i64 q1] 41)).cell? ⟨W.heap.size + 1, k, none⟩ = some v := fun k v hk => by
    have h := (World.cell?_alloc_new (w := W.alloc (.cells #[.int .i64 S, .int .i64 R, .slice a n cap] 39)) #[.int .i64 X.id, .int .i64 X.c, .int .i64 X.d, .int .i64 X.t, .int .i64 X.p, .slice X.a1 X.ch.length X.c1, .slice X.a2 X.us.length X.c2, .int .i64 Y.id, .int .i64 Y.c, .int .i64 Y.d, .int .i64 Y.t, .int .i64 Y.p, .slice Y.a1 Y.ch.length Y.c1, .slice Y.a2 Y.us.length Y.c2] 40 k).trans hk
    rw [World.size_alloc] at h
    exact kept_cell (Below.alloc (Below.refl _ _) (Nat.le_refl _) _) h
  have hu : ∀ k v, (#[.int .i64 q0, .int .i64 q1] : Array Value)[k]? = some v → (((W.alloc (.cells #[.int .i64 S, .int .i64 R, .slice a n cap] 39)).alloc (.cells #[.int .i64 X.id, .int .i64 X.c, .int .i64 X.d, .int .i64 X.t, .int .i64 X.p, .slice X.a1 X.ch.length X.c1, .slice X.a2 X.us.length X.c2, .int .i64 Y.id, .int .i64 Y.c, .int .i64 Y.d, .int .i64 Y.t, .int .i64 Y.p, .slice Y.a1 Y.ch.length Y.c1, .slice Y.a2 Y.us.length Y.c2] 40)).alloc (.cells #[.int .i64 q0, .int .i64 q1] 41)).cell? ⟨W.heap.size + 2, k, none⟩ = some v := fun k v hk => by
    have h := (World.cell?_alloc_new (w := (W.alloc (.cells #[.int .i64 S, .int .i64 R, .slice a n cap] 39)).alloc (.cells #[.int .i64 X.id, .int .i64 X.c, .int .i64 X.d, .int .i64 X.t, .int .i64 X.p, .slice X.a1 X.ch.length X.c1, .slice X.a2 X.us.length X.c2, .int .i64 Y.id, .int .i64 Y.c, .int .i64 Y.d, .int .i64 Y.t, .int .i64 Y.p, .slice Y.a1 Y.ch.length Y.c1, .slice Y.a2 Y.us.length Y.c2] 40)) #[.int .i64 q0, .int .i64 q1] 41 k).trans hk
    rw [World.size_alloc, World.size_alloc] at h
    exact h
  exact ⟨(by repeat (first | exact Below.refl _ _ | (with_reducible assumption) | refine bw_alloc ?_ _ | refine bw_drew ?_)), hs 0 _ rfl, hs 1 _ rfl, hs 2 _ rfl, ht 0 _ rfl, ht 1 _ rfl, ht 2 _ rfl, ht 3 _ rfl, ht 4 _ rfl, ht 5 _ rfl, ht 6 _ rfl, ht 7 _ rfl, ht 8 _ rfl, ht 9 _ rfl, ht 10 _ rfl, ht 11 _ rfl, ht 12 _ rfl, ht 13 _ rfl, hu 0 _ rfl, hu 1 _ rfl⟩

/-- What is asked about. -/
structure TellAt (W0 : World) (s r : Int) (a : Option Addr) (n c : Nat) (T : List TV) (g8 g9 g10 gq : Nat) (x y : TV) (q1 : Int) (V : World) : Prop where
  low : Below W0.heap.size W0 V
  s0 : V.cell? ⟨g8, 0, none⟩ = some (.int .i64 s)
  s1 : V.cell? ⟨g8, 1, none⟩ = some (.int .i64 r)
  s2 : V.cell? ⟨g8, 2, none⟩ = some (.slice a n c)
  ta : AtB V g9 x
  tb : AtB V g10 y
  q : V.cell? ⟨gq, 1, none⟩ = some (.int .i64 q1)
  tasks : Tasks V a n c T
  ints : IsAll V T
  oa : x.ok V
  ob : y.ok V
theorem TellAt.below {W0 V V' : World} {s r q1 : Int} {a : Option Addr} {n c : Nat} {T : List TV} {g8 g9 g10 gq : Nat} {x y : TV} (h : TellAt W0 s r a n c T g8 g9 g10 gq x y q1 V) (hb : Below V.heap.size V V') : TellAt W0 s r a n c T g8 g9 g10 gq x y q1 V' :=
  ⟨below_up h.low hb, kept_cell hb h.s0, kept_cell hb h.s1, kept_cell hb h.s2, h.ta.below hb, h.tb.below hb, kept_cell hb h.q, h.tasks.below hb, h.ints.below hb, h.oa.below hb, h.ob.below hb⟩

theorem told_same {L : List TV} {id : Int} {y y' : TV} {b b' : Bool} (h : Told L id y b) (h' : Told L id y' b') : b' = b ∧ y.tk = y'.tk := by
  rcases h with ⟨rfl, q⟩ | ⟨rfl, q, e⟩ <;> rcases h' with ⟨rfl, q'⟩ | ⟨rfl, q', e'⟩
  · rw [q] at q'; exact ⟨rfl, Option.some.inj q'⟩
  · rw [q] at q'; cases q'
  · rw [q] at q'; cases q'
  · exact ⟨rfl, e.trans e'.symm⟩
theorem isMax_ex : ∀ (l : List Int), 0 < l.length → ∃ m, IsMax l m
  | [], h => by simp at h
  | [x], _ => ⟨x, by simp, fun z hz => by simp at hz; omega⟩
  | x :: y :: r, _ => by
    obtain ⟨m, h1, h2⟩ := isMax_ex (y :: r) (by simp)
    by_cases h : m < x
    · exact ⟨x, by simp, fun z hz => by
        rcases List.mem_cons.1 hz with rfl | q
        · omega
        · have := h2 z q; omega⟩
    · exact ⟨m, List.mem_cons_of_mem _ h1, fun z hz => by
        rcases List.mem_cons.1 hz with rfl | q
        · omega
        · exact h2 z q⟩
theorem told_good {s r : Int} {L : List TV} (h : Made s r L) {id : Int} {y : TV} (ht : Told L id y true) : fillB (chunksOf y) y.c = true ∧ 0 ≤ y.c ∧ y.c ≤ 1073741824 := by
  rcases ht with ⟨_, q⟩ | ⟨z, _⟩
  · have hm := List.mem_of_find?_eq_some q
    obtain ⟨x, hx, e⟩ := List.mem_map.1 hm
    obtain ⟨k, hk⟩ := List.mem_iff_getElem?.1 hx
    have g := h.good k x hk
    have e1 : x.c = y.c := congrArg Tk.c e
    have e2 : x.ch = y.ch := congrArg Tk.ch e
    have g1 := g.c1; have g2 := g.cd; have g3 := g.dt; have g4 := g.t24; have g5 := g.ch
    rw [e1] at g1 g2
    rw [e1, e2] at g5
    refine ⟨?_, by omega, by omega⟩
    unfold chunksOf
    rcases g5 with g5 | g5
    · rw [if_pos g5]; exact fill_sum _ _ (fun z hz => by simp at hz; omega) (by simp)
    · split
      · rename_i e9; rw [e9] at g5; unfold fillB at g5; simp at g5; omega
      · exact g5
  · cases z

set_option maxRecDepth 100000 in
set_option maxHeartbeats 3000000 in
theorem law_tell (W : World) (S R : Int) (a : Option Addr) (n cap : Nat) (L : List NV) (hn : Nums W a n cap L) (X Y : TV) (hX : X.ok W) (hY : Y.ok W) (q0 q1 : Int) :
    Calls Try.prog 4 #[.agg #[.int .i64 S, .int .i64 R, .slice a n cap], .agg #[.int .i64 X.id, .int .i64 X.c, .int .i64 X.d, .int .i64 X.t, .int .i64 X.p, .slice X.a1 X.ch.length X.c1, .slice X.a2 X.us.length X.c2, .int .i64 Y.id, .int .i64 Y.c, .int .i64 Y.d, .int .i64 Y.t, .int .i64 Y.p, .slice Y.a1 Y.ch.length Y.c1, .slice Y.a2 Y.us.length Y.c2], .agg #[.int .i64 q0, .int .i64 q1]] W fun e w' => e = .returned (.bool true) ∧ Below W.heap.size W w' := by
  have HN := Lib.hid hn
  have HX := Lib.hid hX
  have HY := Lib.hid hY
  have hz1 := zeroTask
  have hz2 := zeroSys
  clear hn hX hY
  go_enter Try.func4, Try.ntmps4
  go_upto_region 1 with fail
  refine gen_world (PreAt W S R a n cap X Y q0 q1) preAt_new ?_
  intro W1 hw1
  have H1 := Lib.hid hw1
  clear hw1
  go_upto_region 2 with (go_at_call 7; (with_reducible refine (awake_any _).mono ?_); rintro e w1 ⟨rfl, b1⟩; have H2 := Lib.hid (H1.out.below b1); clear b1)
  have e0 := H2.out.s0
  have e1 := H2.out.s1
  have e2 := H2.out.s2
  have C := Lib.hid (made5_any S R (HN.out.below H2.out.low))
  go_upto_region 3 with (go_at_call 15; (with_reducible refine (C.out).mono ?_); rintro e w5 ⟨s, r, a5, N, c5, T, rfl, ho5, hok5, hi5, hm5, b5⟩; have HT5 := Lib.hid (ho5.tasks hok5); have HI5 : Hid (IsAll w5 T) := hi5; have HM := Lib.hid hm5; have H5 := Lib.hid (H2.out.below b5); clear ho5 hok5 hi5 hm5 b5)
  have hN1 : 0 < N := by have := HM.out.pos; have := HT5.out.len; omega
  have hN6 : N ≤ 6 := by have := HM.out.six; have := HT5.out.len; omega
  have hS : (w5.alloc (.cells #[.int .i64 s, .int .i64 r, .slice a5 N c5] 28)).heap[w5.heap.size]? = some (.cells #[.int .i64 s, .int .i64 r, .slice a5 N c5] 28 (0, 0)) := heap_alloc_new w5 _
  refine gen_world (fun v => Below w5.heap.size w5 v ∧ v.heap[w5.heap.size]? = some (.cells #[.int .i64 s, .int .i64 r, .slice a5 N c5] 28 (0, 0))) ⟨(by repeat (first | exact Below.refl _ _ | (with_reducible assumption) | refine bw_alloc ?_ _ | refine bw_drew ?_)), hS⟩ ?_
  intro W6 ⟨hl6, hs6⟩
  have HL6 := Lib.hid hl6
  have HS6 := Lib.hid hs6
  have H6 := Lib.hid (H5.out.below hl6)
  clear hl6 hs6 hS C e0 e1 e2 H1 H2
  obtain ⟨_, _, _, _, t0, t1, t2, t3, t4, t5, t6, _⟩ := H6.out
  obtain ⟨x, hx⟩ : ∃ x, cut X = x := ⟨_, rfl⟩
  obtain ⟨y, hy⟩ : ∃ y, cut Y = y := ⟨_, rfl⟩
  have CX := Lib.hid (less_under X W6 W6 (Below.refl _ _) (HX.out.below H6.out.low) hx)
  go_upto_region 4 with (go_at_call 8; (with_reducible refine (CX.out).mono ?_); rintro e w7 ⟨rfl, b7⟩; have HL7 := Lib.hid b7; have HS7 := Lib.hid (kept_obj b7 HS6.out); clear b7)
  refine gen_world (fun v => Below W6.heap.size W6 v ∧ AtB v w7.heap.size x) ⟨below_up HL7.out (by repeat (first | exact Below.refl _ _ | (with_reducible assumption) | refine bw_alloc ?_ _ | refine bw_drew ?_)), atB_new w7 x _⟩ ?_
  intro W8 ⟨hl8, ha8⟩
  have HL8 := Lib.hid hl8
  have HA8 := Lib.hid ha8
  have H8 := Lib.hid (H6.out.below hl8)
  clear t0 t1 t2 t3 t4 t5 t6 CX hl8 ha8 H6 HS7 HL7
  generalize w7.heap.size = g9 at *
  obtain ⟨_, _, _, _, _, _, _, _, _, _, _, t7, t8, t9, t10, t11, t12, t13, _⟩ := H8.out
  have CY := Lib.hid (less_under Y W8 W8 (Below.refl _ _) (HY.out.below H8.out.low) hy)
  go_upto_region 5 with (go_at_call 8; (with_reducible refine (CY.out).mono ?_); rintro e w9 ⟨rfl, b9⟩; have HL9 := Lib.hid b9; have HA9 := Lib.hid (HA8.out.below b9); clear b9)
  have hlow : Below w5.heap.size w5 (w9.alloc (.cells #[.int .i64 y.id, .int .i64 y.c, .int .i64 y.d, .int .i64 y.t, .int .i64 y.p, .slice y.a1 y.ch.length y.c1, .slice y.a2 y.us.length y.c2] TT)) := below_up (below_up HL6.out (below_up HL8.out HL9.out)) (by repeat (first | exact Below.refl _ _ | (with_reducible assumption) | refine bw_alloc ?_ _ | refine bw_drew ?_))
  have hl69 : Below W6.heap.size W6 (w9.alloc (.cells #[.int .i64 y.id, .int .i64 y.c, .int .i64 y.d, .int .i64 y.t, .int .i64 y.p, .slice y.a1 y.ch.length y.c1, .slice y.a2 y.us.length y.c2] TT)) := below_up (below_up HL8.out HL9.out) (by repeat (first | exact Below.refl _ _ | (with_reducible assumption) | refine bw_alloc ?_ _ | refine bw_drew ?_))
  have hbx := kept_obj hl69 HS6.out
  have HFX : Hid (x.ok (w9.alloc (.cells #[.int .i64 y.id, .int .i64 y.c, .int .i64 y.d, .int .i64 y.t, .int .i64 y.p, .slice y.a1 y.ch.length y.c1, .slice y.a2 y.us.length y.c2] TT))) := by have h := cut_ok (HX.out.below (below_up H5.out.low hlow)); rw [hx] at h; exact h
  have HFY : Hid (y.ok (w9.alloc (.cells #[.int .i64 y.id, .int .i64 y.c, .int .i64 y.d, .int .i64 y.t, .int .i64 y.p, .slice y.a1 y.ch.length y.c1, .slice y.a2 y.us.length y.c2] TT))) := by have h := cut_ok (HY.out.below (below_up H5.out.low hlow)); rw [hy] at h; exact h
  refine gen_world (fun v => TellAt w5 s r a5 N c5 T w5.heap.size g9 w9.heap.size (W.heap.size + 2) x y q1 v ∧ v.cell? ⟨W.heap.size + 2, 0, none⟩ = some (.int .i64 q0)) ⟨⟨hlow, by rw [blk_cell hbx]; rfl, by rw [blk_cell hbx]; rfl, by rw [blk_cell hbx]; rfl, HA9.out.below (by repeat (first | exact Below.refl _ _ | (with_reducible assumption) | refine bw_alloc ?_ _ | refine bw_drew ?_)), atB_new w9 y _, (H5.out.below hlow).u1, HT5.out.below hlow, HI5.out.below hlow, HFX.out, HFY.out⟩, (H5.out.below hlow).u0⟩ ?_
  intro V ⟨hv, e0⟩
  have HV := Lib.hid hv
  have HLW := Lib.hid H5.out.low
  clear hv hlow hl69 hbx HFX HFY HL9 HA9 CY t7 t8 t9 t10 t11 t12 t13 HL8 HA8 H8 HL6 HS6 H5 HT5 HI5 HX HY HN hx hy
  generalize w5.heap.size = g8 at HV ⊢
  generalize w9.heap.size = g10 at HV ⊢
  generalize W.heap.size + 2 = gq at *
  go_upto_region 6 with fail
  obtain ⟨q, hq⟩ : ∃ q, decide (x.tk = y.tk) = q := ⟨_, rfl⟩
  have hqq : (q != q) = false := by cases q <;> rfl
  have K1 : Hid (∀ w', Below V.heap.size V w' → Calls Try.prog 13 #[.agg #[.int .i64 s, .int .i64 r, .slice a5 N c5]] w' fun e w'' => e = .returned (.int .i64 0) ∧ Below V.heap.size V w'') := fun w' h => by
    have h1 := rcheck_any s r (HV.out.tasks.below h)
    rw [check_made HM.out] at h1
    exact h1.mono fun _ _ ⟨a, b⟩ => ⟨a, below_up h b⟩
  have K2 : Hid (∀ w', Below V.heap.size V w' → Calls Try.prog 12 #[.agg #[.int .i64 s, .int .i64 r, .slice a5 N c5]] w' fun e w'' => e = .returned (.int .i64 0) ∧ Below V.heap.size V w'') := fun w' h => by
    have h1 := check_any s r (HV.out.tasks.below h) (made_wf HM.out)
    rw [check_made HM.out] at h1
    exact h1.mono fun _ _ ⟨a, b⟩ => ⟨a, below_up h b⟩
  have K3 : Hid (∀ w', Below V.heap.size V w' → Calls Try.prog 16 #[.agg #[.int .i64 x.id, .int .i64 x.c, .int .i64 x.d, .int .i64 x.t, .int .i64 x.p, .slice x.a1 x.ch.length x.c1, .slice x.a2 x.us.length x.c2], .agg #[.int .i64 y.id, .int .i64 y.c, .int .i64 y.d, .int .i64 y.t, .int .i64 y.p, .slice y.a1 y.ch.length y.c1, .slice y.a2 y.us.length y.c2]] w' fun e w'' => e = .returned (.bool q) ∧ Below V.heap.size V w'') := fun w' h => by
    have h1 := same_task x y w' (HV.out.oa.below h) (HV.out.ob.below h)
    rw [hq] at h1
    exact h1.mono fun _ _ ⟨a, b⟩ => ⟨a, below_up h b⟩
  have K4 : Hid (∀ w', Below V.heap.size V w' → Calls Try.prog 17 #[.agg #[.int .i64 x.id, .int .i64 x.c, .int .i64 x.d, .int .i64 x.t, .int .i64 x.p, .slice x.a1 x.ch.length x.c1, .slice x.a2 x.us.length x.c2], .agg #[.int .i64 y.id, .int .i64 y.c, .int .i64 y.d, .int .i64 y.t, .int .i64 y.p, .slice y.a1 y.ch.length y.c1, .slice y.a2 y.us.length y.c2]] w' fun e w'' => e = .returned (.bool q) ∧ Below V.heap.size V w'') := fun w' h => by
    have h1 := rsame_task x y w' (HV.out.oa.below h) (HV.out.ob.below h)
    rw [hq] at h1
    exact h1.mono fun _ _ ⟨a, b⟩ => ⟨a, below_up h b⟩
  have K5 : Hid (∀ w', Below V.heap.size V w' → Calls Try.prog 16 #[.agg #[.int .i64 x.id, .int .i64 x.c, .int .i64 x.d, .int .i64 x.t, .int .i64 x.p, .slice x.a1 x.ch.length x.c1, .slice x.a2 x.us.length x.c2], .agg #[.int .i64 x.id, .int .i64 x.c, .int .i64 x.d, .int .i64 x.t, .int .i64 x.p, .slice x.a1 x.ch.length x.c1, .slice x.a2 x.us.length x.c2]] w' fun e w'' => e = .returned (.bool true) ∧ Below V.heap.size V w'') := fun w' h => by
    have h1 := same_task x x w' (HV.out.oa.below h) (HV.out.oa.below h)
    rw [decide_eq_true rfl] at h1
    exact h1.mono fun _ _ ⟨a, b⟩ => ⟨a, below_up h b⟩
  clear hq
  go_cut [59] from 37 to 59 (fun u wx => u = .bool false ∧ Hid (Below V.heap.size V wx))
  case first =>
    obtain ⟨_, v0, v1, v2, ⟨m0, m1, m2, m3, m4, m5, m6⟩, ⟨n0, n1, n2, n3, n4, n5, n6⟩, _, _, _, _, _⟩ := HV.out
    have MK : Hid (∀ w', Below V.heap.size V w' → (Below V.heap.size V w' ∧ w'.cell? ⟨g8, 0, none⟩ = some (.int .i64 s) ∧ w'.cell? ⟨g8, 1, none⟩ = some (.int .i64 r) ∧ w'.cell? ⟨g8, 2, none⟩ = some (.slice a5 N c5) ∧ w'.cell? ⟨g9, 0, none⟩ = some (.int .i64 x.id) ∧ w'.cell? ⟨g9, 1, none⟩ = some (.int .i64 x.c) ∧ w'.cell? ⟨g9, 2, none⟩ = some (.int .i64 x.d) ∧ w'.cell? ⟨g9, 3, none⟩ = some (.int .i64 x.t) ∧ w'.cell? ⟨g9, 4, none⟩ = some (.int .i64 x.p) ∧ w'.cell? ⟨g9, 5, none⟩ = some (.slice x.a1 x.ch.length x.c1) ∧ w'.cell? ⟨g9, 6, none⟩ = some (.slice x.a2 x.us.length x.c2) ∧ w'.cell? ⟨g10, 0, none⟩ = some (.int .i64 y.id) ∧ w'.cell? ⟨g10, 1, none⟩ = some (.int .i64 y.c) ∧ w'.cell? ⟨g10, 2, none⟩ = some (.int .i64 y.d) ∧ w'.cell? ⟨g10, 3, none⟩ = some (.int .i64 y.t) ∧ w'.cell? ⟨g10, 4, none⟩ = some (.int .i64 y.p) ∧ w'.cell? ⟨g10, 5, none⟩ = some (.slice y.a1 y.ch.length y.c1) ∧ w'.cell? ⟨g10, 6, none⟩ = some (.slice y.a2 y.us.length y.c2))) := fun w' h => ⟨h, kept_cell h v0, kept_cell h v1, kept_cell h v2, kept_cell h m0, kept_cell h m1, kept_cell h m2, kept_cell h m3, kept_cell h m4, kept_cell h m5, kept_cell h m6, kept_cell h n0, kept_cell h n1, kept_cell h n2, kept_cell h n3, kept_cell h n4, kept_cell h n5, kept_cell h n6⟩
    have r0 := Below.refl V.heap.size V
    clear HV
    go_region_held3 (fun w' => Below V.heap.size V w' ∧ w'.cell? ⟨g8, 0, none⟩ = some (.int .i64 s) ∧ w'.cell? ⟨g8, 1, none⟩ = some (.int .i64 r) ∧ w'.cell? ⟨g8, 2, none⟩ = some (.slice a5 N c5) ∧ w'.cell? ⟨g9, 0, none⟩ = some (.int .i64 x.id) ∧ w'.cell? ⟨g9, 1, none⟩ = some (.int .i64 x.c) ∧ w'.cell? ⟨g9, 2, none⟩ = some (.int .i64 x.d) ∧ w'.cell? ⟨g9, 3, none⟩ = some (.int .i64 x.t) ∧ w'.cell? ⟨g9, 4, none⟩ = some (.int .i64 x.p) ∧ w'.cell? ⟨g9, 5, none⟩ = some (.slice x.a1 x.ch.length x.c1) ∧ w'.cell? ⟨g9, 6, none⟩ = some (.slice x.a2 x.us.length x.c2) ∧ w'.cell? ⟨g10, 0, none⟩ = some (.int .i64 y.id) ∧ w'.cell? ⟨g10, 1, none⟩ = some (.int .i64 y.c) ∧ w'.cell? ⟨g10, 2, none⟩ = some (.int .i64 y.d) ∧ w'.cell? ⟨g10, 3, none⟩ = some (.int .i64 y.t) ∧ w'.cell? ⟨g10, 4, none⟩ = some (.int .i64 y.p) ∧ w'.cell? ⟨g10, 5, none⟩ = some (.slice y.a1 y.ch.length y.c1) ∧ w'.cell? ⟨g10, 6, none⟩ = some (.slice y.a2 y.us.length y.c2)) (exact MK.out _ (by repeat (first | exact Below.refl _ _ | (with_reducible assumption) | refine bw_alloc ?_ _ | refine bw_drew ?_))) (first | (go_at_call 13; (with_reducible refine (K1.out _ (by repeat (first | exact Below.refl _ _ | (with_reducible assumption) | refine bw_alloc ?_ _ | refine bw_drew ?_))).mono ?_); rintro e wx ⟨rfl, bx⟩) | (go_at_call 12; (with_reducible refine (K2.out _ (by repeat (first | exact Below.refl _ _ | (with_reducible assumption) | refine bw_alloc ?_ _ | refine bw_drew ?_))).mono ?_); rintro e wx ⟨rfl, bx⟩) | (go_at_call 16; (with_reducible refine (K3.out _ (by repeat (first | exact Below.refl _ _ | (with_reducible assumption) | refine bw_alloc ?_ _ | refine bw_drew ?_))).mono ?_); rintro e wx ⟨rfl, bx⟩) | (go_at_call 17; (with_reducible refine (K4.out _ (by repeat (first | exact Below.refl _ _ | (with_reducible assumption) | refine bw_alloc ?_ _ | refine bw_drew ?_))).mono ?_); rintro e wx ⟨rfl, bx⟩) | (go_at_call 16; (with_reducible refine (K5.out _ (by repeat (first | exact Below.refl _ _ | (with_reducible assumption) | refine bw_alloc ?_ _ | refine bw_drew ?_))).mono ?_); rintro e wx ⟨rfl, bx⟩))
    all_goals
      go_wp2_with fail
      go_meet
      exact ⟨rfl, Lib.hid (by repeat (first | exact Below.refl _ _ | (with_reducible assumption) | refine bw_alloc ?_ _ | refine bw_drew ?_))⟩
  case rest =>
    obtain ⟨rfl, HP6⟩ := hcut
    go_upto_region 8 with fail
    refine gen_world (TellAt w5 s r a5 N c5 T g8 g9 g10 gq x y q1) (HV.out.below HP6.out) ?_
    intro V2 hv2
    have HV2 := Lib.hid hv2
    clear hv2 HP6 HV K1 K2 K3 K4 K5
    have HSM := Lib.hid (made_small HM.out)
    go_cut [12] from 60 to 64 (fun u wx => u = .bool true ∧ Hid (Below V2.heap.size V2 wx))
    case first =>
      have P1 : Hid (∀ w', Below V2.heap.size V2 w' → Calls Try.prog 19 #[.agg #[.int .i64 s, .int .i64 r, .slice a5 N c5]] w' fun e w'' => ∃ (a : Option Addr) (n c : Nat) (M : List TV), e = .returned (.slice a n c) ∧ Tasks w'' a n c M ∧ Ranks (T.map TV.tk) (M.map TV.tk) ∧ Below V2.heap.size V2 w'') := fun w' h =>
        (prio_sys s r (HV2.out.tasks.below h) hN1 (by omega) HSM.out).mono fun _ _ ⟨a, n, c, M, h1, h2, h3, _, h5, h6⟩ => ⟨a, n, c, M, h1, h2.tasks h3, h5, below_up h h6⟩
      have P2 : Hid (∀ w', Below V2.heap.size V2 w' → Calls Try.prog 20 #[.agg #[.int .i64 s, .int .i64 r, .slice a5 N c5]] w' fun e w'' => ∃ (a : Option Addr) (n c : Nat) (M : List TV), e = .returned (.slice a n c) ∧ Tasks w'' a n c M ∧ Ranks (T.map TV.tk) (M.map TV.tk) ∧ Below V2.heap.size V2 w'' ∧ Below w'.heap.size w' w'') := fun w' h =>
        (rprio_sys s r (HV2.out.tasks.below h) (by omega)).mono fun _ _ ⟨a, n, c, M, h1, h2, h3, h4⟩ => ⟨a, n, c, M, h1, h2, h3, below_up h h4, h4⟩
      have P3 : Hid (∀ (w' : World) (a a' : Option Addr) (n n' c c' : Nat) (M M' : List TV), Below V2.heap.size V2 w' → Tasks w' a n c M → Tasks w' a' n' c' M' → Ranks (T.map TV.tk) (M.map TV.tk) → Ranks (T.map TV.tk) (M'.map TV.tk) → Calls Try.prog 18 #[.slice a n c, .slice a' n' c'] w' fun e w'' => e = .returned (.bool true) ∧ Below V2.heap.size V2 w'') := fun w' a a' n n' c c' M M' h h1 h2 h3 h4 => by
        have h5 := rsame_tasks h1 h2
        rw [ranks_same h3 h4 (made_dist HM.out), decide_eq_true rfl] at h5
        exact h5.mono fun _ _ ⟨a, b⟩ => ⟨a, below_up h b⟩
      have v0 := HV2.out.s0
      have v1 := HV2.out.s1
      have v2 := HV2.out.s2
      have MK : Hid (∀ w', Below V2.heap.size V2 w' → (Below V2.heap.size V2 w' ∧ w'.cell? ⟨g8, 0, none⟩ = some (.int .i64 s) ∧ w'.cell? ⟨g8, 1, none⟩ = some (.int .i64 r) ∧ w'.cell? ⟨g8, 2, none⟩ = some (.slice a5 N c5))) := fun w' h => ⟨h, kept_cell h v0, kept_cell h v1, kept_cell h v2⟩
      have r0 := Below.refl V2.heap.size V2
      clear HV2
      go_region_held3 (fun w' => Below V2.heap.size V2 w' ∧ w'.cell? ⟨g8, 0, none⟩ = some (.int .i64 s) ∧ w'.cell? ⟨g8, 1, none⟩ = some (.int .i64 r) ∧ w'.cell? ⟨g8, 2, none⟩ = some (.slice a5 N c5)) (exact MK.out _ (by repeat (first | exact Below.refl _ _ | (with_reducible assumption) | refine bw_alloc ?_ _ | refine bw_drew ?_))) (first | (go_at_call 19; (with_reducible refine (P1.out _ (by repeat (first | exact Below.refl _ _ | (with_reducible assumption) | refine bw_alloc ?_ _ | refine bw_drew ?_))).mono ?_); rintro e wx ⟨a1, n1, c1, M1, rfl, ht1, hr1, bx⟩; have HT1 := Lib.hid ht1; have HR1 := Lib.hid hr1; clear ht1 hr1) | (go_at_call 20; (with_reducible refine (P2.out _ (by repeat (first | exact Below.refl _ _ | (with_reducible assumption) | refine bw_alloc ?_ _ | refine bw_drew ?_))).mono ?_); rintro e wy ⟨a2, n2, c2, M2, rfl, ht2, hr2, bx, by2⟩; have HT2 := Lib.hid ht2; have HR2 := Lib.hid hr2; have HT3 := Lib.hid (HT1.out.below by2); clear ht2 hr2 by2) | (go_at_call 18; (with_reducible refine (P3.out _ _ _ _ _ _ _ _ _ (by repeat (first | exact Below.refl _ _ | (with_reducible assumption) | refine bw_alloc ?_ _ | refine bw_drew ?_)) HT3.out HT2.out HR1.out HR2.out).mono ?_); rintro e wx ⟨rfl, bx⟩))
      all_goals
        go_wp2_with fail
        go_meet
        exact ⟨rfl, Lib.hid (by repeat (first | exact Below.refl _ _ | (with_reducible assumption) | refine bw_alloc ?_ _ | refine bw_drew ?_))⟩
    case rest =>
      obtain ⟨rfl, HP8⟩ := hcut
      go_upto_region 9 with fail
      refine gen_world (TellAt w5 s r a5 N c5 T g8 g9 g10 gq x y q1) (HV2.out.below HP8.out) ?_
      intro V3 hv3
      have HV3 := Lib.hid hv3
      have v0 := hv3.s0
      have v1 := hv3.s1
      have v2 := hv3.s2
      have hg8 : g8 < V3.heap.size := block_of_cell v0
      have SS := Lib.hid (same_sys s r hv3.tasks hv3.tasks)
      rw [decide_eq_true rfl] at SS
      clear hv3 HP8 HV2
      go_upto_region 11 with (go_at_call 14; (with_reducible refine (SS.out).mono ?_); rintro e w6 ⟨rfl, b6⟩; have HV4 := Lib.hid (HV3.out.below b6); clear b6)
      clear v0 v1 v2 hg8 SS HV3
      go_wp2_with fail
      go_loopw [13] (fun u wr => ∃ k : Int, -1 ≤ k ∧ k ≤ 9 ∧ u = .int .i64 k ∧ Hid (TellAt w5 s r a5 N c5 T g8 g9 g10 gq x y q1 wr)) (fun u _ => (9 - intOf u).toNat)
      case atStart => exact ⟨-1, by omega, by omega, rfl, HV4⟩
      case round =>
        obtain ⟨k, hk0, hk9, rfl, HP⟩ := hrel
        clear HV4
        by_cases hlt : k < 9
        · have hkw : IntKind.i64.wrap (k + 1) = k + 1 := IntWalk.i64_in _ (by omega)
          go_upto_region 15 with fail
          go_upto_if 79 with fail
          go_cut [14] from 80 to 80 (fun u wx => (∃ i : Int, u = .int .i64 i) ∧ Hid (TellAt w5 s r a5 N c5 T g8 g9 g10 gq x y q1 wx))
          case first =>
            by_cases h8 : k = 8
            · have d8 : (k == 8) = true := by rw [beq_iff_eq]; exact h8
              clear h8
              go_wp2_with fail
              go_meet
              exact ⟨⟨_, rfl⟩, HP⟩
            · have d8 : (k == 8) = false := by rw [beq_eq_false_iff_ne]; exact h8
              clear h8
              go_wp2_with fail
              go_meet
              exact ⟨⟨_, rfl⟩, HP⟩
          case rest =>
            clear HP
            obtain ⟨⟨i, rfl⟩, HP⟩ := hcut
            have v0 := HP.out.s0
            have v1 := HP.out.s1
            have v2 := HP.out.s2
            have hg8 : g8 < wc.heap.size := block_of_cell v0
            have CF := Lib.hid (find_sys s r i HP.out.tasks hN1 HSM.out)
            go_upto_region 18 with (go_at_call 21; (with_reducible refine (CF.out).mono ?_); rintro e w6 ⟨p1, b1, rfl, ho1, hi1, ht1, b6⟩; have H6 := Lib.hid (HP.out.below b6); have HO1 := Lib.hid ho1; have HT1 := Lib.hid ht1; clear ho1 hi1 ht1 b6)
            refine gen_world (fun v => TellAt w5 s r a5 N c5 T g8 g9 g10 gq x y q1 v ∧ AtB v w6.heap.size p1 ∧ p1.ok v) ⟨H6.out.below (by repeat (first | exact Below.refl _ _ | (with_reducible assumption) | refine bw_alloc ?_ _ | refine bw_drew ?_)), atB_new w6 p1 _, HO1.out.below (by repeat (first | exact Below.refl _ _ | (with_reducible assumption) | refine bw_alloc ?_ _ | refine bw_drew ?_))⟩ ?_
            intro V6 ⟨hv6, ha6, ho6⟩
            have HV6 := Lib.hid hv6
            have HA6 := Lib.hid ha6
            have HO6 := Lib.hid ho6
            clear v0 v1 v2 hg8 CF H6 HO1 HP
            have v0 := hv6.s0
            have v1 := hv6.s1
            have v2 := hv6.s2
            have hg8 : g8 < V6.heap.size := block_of_cell v0
            have CF := Lib.hid (rfind_sys s r i hv6.tasks hv6.ints)
            clear hv6 ha6 ho6
            generalize w6.heap.size = gx at *
            go_upto_region 19 with (go_at_call 22; (with_reducible refine (CF.out).mono ?_); rintro e w7 ⟨p2, b2, rfl, ho2, hi2, ht2, b7⟩; have H7 := Lib.hid (HV6.out.below b7); have HA7 := Lib.hid (HA6.out.below b7); have HO7 := Lib.hid (HO6.out.below b7); have HO2 := Lib.hid ho2; have HT2 := Lib.hid ht2; clear ho2 hi2 ht2 b7)
            refine gen_world (fun v => TellAt w5 s r a5 N c5 T g8 g9 g10 gq x y q1 v ∧ AtB v gx p1 ∧ p1.ok v ∧ AtB v w7.heap.size p2 ∧ p2.ok v) ⟨H7.out.below (by repeat (first | exact Below.refl _ _ | (with_reducible assumption) | refine bw_alloc ?_ _ | refine bw_drew ?_)), HA7.out.below (by repeat (first | exact Below.refl _ _ | (with_reducible assumption) | refine bw_alloc ?_ _ | refine bw_drew ?_)), HO7.out.below (by repeat (first | exact Below.refl _ _ | (with_reducible assumption) | refine bw_alloc ?_ _ | refine bw_drew ?_)), atB_new w7 p2 _, HO2.out.below (by repeat (first | exact Below.refl _ _ | (with_reducible assumption) | refine bw_alloc ?_ _ | refine bw_drew ?_))⟩ ?_
            intro V7 ⟨hv7, ha7, ho7, hb7, hp7⟩
            obtain ⟨rfl, htk⟩ := told_same HT1.out HT2.out
            have HV7 := Lib.hid hv7
            have HA7' := Lib.hid ha7
            have HO7' := Lib.hid ho7
            clear v0 v1 v2 hg8 CF H7 HA7 HO7 HO2 HV6 HA6 HO6 HT2
            obtain ⟨m0, m1, m2, m3, m4, m5, m6⟩ := ha7
            obtain ⟨n0, n1, n2, n3, n4, n5, n6⟩ := hb7
            have SS := Lib.hid (rsame_task p1 p2 V7 ho7 hp7)
            unfold TV.val at SS
            rw [decide_eq_true htk] at SS
            clear hv7 ho7 hp7 htk
            generalize w7.heap.size = gy at *
            go_upto_region 20 with (go_at_call 17; (with_reducible refine (SS.out).mono ?_); rintro e w8 ⟨rfl, b8⟩; have HV8 := Lib.hid (HV7.out.below b8); have HA8 := Lib.hid (HA7'.out.below b8); have HO8 := Lib.hid (HO7'.out.below b8); clear b8)
            clear m0 m1 m2 m3 m4 m5 m6 n0 n1 n2 n3 n4 n5 n6 SS HV7 HA7' HO7'
            go_cut [20] from 96 to 102 (fun u wx => u = .bool true ∧ Hid (Below w8.heap.size w8 wx))
            case first =>
              have P1 : Hid (∀ w', Below w8.heap.size w8 w' → Calls Try.prog 23 #[.agg #[.int .i64 s, .int .i64 r, .slice a5 N c5], .int .i64 i] w' fun e w'' => ∃ (a : Option Addr) (n c : Nat) (M : List TV), e = .returned (.slice a n c) ∧ Tasks w'' a n c M ∧ Highs (T.map TV.tk) i (M.map TV.tk) ∧ Below w8.heap.size w8 w'') := fun w' h =>
                (higher_sys s r i (HV8.out.tasks.below h) hN1 (by omega) HSM.out).mono fun _ _ ⟨a, n, c, M, h1, h2, h3, h4⟩ => ⟨a, n, c, M, h1, h2, h3, below_up h h4⟩
              have P2 : Hid (∀ w', Below w8.heap.size w8 w' → Calls Try.prog 24 #[.agg #[.int .i64 s, .int .i64 r, .slice a5 N c5], .int .i64 i] w' fun e w'' => ∃ (a : Option Addr) (n c : Nat) (M : List TV), e = .returned (.slice a n c) ∧ Tasks w'' a n c M ∧ Highs (T.map TV.tk) i (M.map TV.tk) ∧ Below w8.heap.size w8 w'' ∧ Below w'.heap.size w' w'') := fun w' h =>
                (rhigher_sys s r i (HV8.out.tasks.below h) (HV8.out.ints.below h) hN1 (by omega)).mono fun _ _ ⟨a, n, c, M, h1, h2, h3, h4⟩ => ⟨a, n, c, M, h1, h2, h3, below_up h h4, h4⟩
              have P3 : Hid (∀ (w' : World) (a a' : Option Addr) (n n' c c' : Nat) (M M' : List TV), Below w8.heap.size w8 w' → Tasks w' a n c M → Tasks w' a' n' c' M' → Highs (T.map TV.tk) i (M.map TV.tk) → Highs (T.map TV.tk) i (M'.map TV.tk) → Calls Try.prog 18 #[.slice a n c, .slice a' n' c'] w' fun e w'' => e = .returned (.bool true) ∧ Below w8.heap.size w8 w'') := fun w' a a' n n' c c' M M' h h1 h2 h3 h4 => by
                have h5 := rsame_tasks h1 h2
                rw [highs_same (made_dist HM.out) h3 h4, decide_eq_true rfl] at h5
                exact h5.mono fun _ _ ⟨a, b⟩ => ⟨a, below_up h b⟩
              have v0 := HV8.out.s0
              have v1 := HV8.out.s1
              have v2 := HV8.out.s2
              have MK : Hid (∀ w', Below w8.heap.size w8 w' → (Below w8.heap.size w8 w' ∧ w'.cell? ⟨g8, 0, none⟩ = some (.int .i64 s) ∧ w'.cell? ⟨g8, 1, none⟩ = some (.int .i64 r) ∧ w'.cell? ⟨g8, 2, none⟩ = some (.slice a5 N c5))) := fun w' h => ⟨h, kept_cell h v0, kept_cell h v1, kept_cell h v2⟩
              have r0 := Below.refl w8.heap.size w8
              clear HV8 HA8 HO8
              go_region_held3 (fun w' => Below w8.heap.size w8 w' ∧ w'.cell? ⟨g8, 0, none⟩ = some (.int .i64 s) ∧ w'.cell? ⟨g8, 1, none⟩ = some (.int .i64 r) ∧ w'.cell? ⟨g8, 2, none⟩ = some (.slice a5 N c5)) (exact MK.out _ (by repeat (first | exact Below.refl _ _ | (with_reducible assumption) | refine bw_alloc ?_ _ | refine bw_drew ?_))) (first | (go_at_call 23; (with_reducible refine (P1.out _ (by repeat (first | exact Below.refl _ _ | (with_reducible assumption) | refine bw_alloc ?_ _ | refine bw_drew ?_))).mono ?_); rintro e wx ⟨a1, n1, c1, M1, rfl, ht1, hr1, bx⟩; have HT1' := Lib.hid ht1; have HR1 := Lib.hid hr1; clear ht1 hr1) | (go_at_call 24; (with_reducible refine (P2.out _ (by repeat (first | exact Below.refl _ _ | (with_reducible assumption) | refine bw_alloc ?_ _ | refine bw_drew ?_))).mono ?_); rintro e wy ⟨a2, n2, c2, M2, rfl, ht2, hr2, bx, by2⟩; have HT2 := Lib.hid ht2; have HR2 := Lib.hid hr2; have HT3 := Lib.hid (HT1'.out.below by2); clear ht2 hr2 by2) | (go_at_call 18; (with_reducible refine (P3.out _ _ _ _ _ _ _ _ _ (by repeat (first | exact Below.refl _ _ | (with_reducible assumption) | refine bw_alloc ?_ _ | refine bw_drew ?_)) HT3.out HT2.out HR1.out HR2.out).mono ?_); rintro e wx ⟨rfl, bx⟩))
              all_goals
                go_wp2_with fail
                go_meet
                exact ⟨rfl, Lib.hid (by repeat (first | exact Below.refl _ _ | (with_reducible assumption) | refine bw_alloc ?_ _ | refine bw_drew ?_))⟩
            case rest =>
              obtain ⟨rfl, HP20⟩ := hcut
              have HV9 := Lib.hid (HV8.out.below HP20.out)
              have HA9 := Lib.hid (HA8.out.below HP20.out)
              have HO9 := Lib.hid (HO8.out.below HP20.out)
              clear HV8 HA8 HO8 HP20
              cases b2 with
              | false =>
                go_wp2_with fail
                go_roundw
                case rel => exact ⟨k + 1, by omega, by omega, rfl, HV9⟩
                case measure => simp only [intOf]; omega
              | true =>
                obtain ⟨au, hau⟩ : ∃ u, (accOf p1 q1).1 = u := ⟨_, rfl⟩
                obtain ⟨af, haf⟩ : ∃ u, (accOf p1 q1).2 = u := ⟨_, rfl⟩
                have d1 : (au == au) = true := by rw [beq_iff_eq]
                have d2 : (au != au) = false := by rw [bne, d1]; rfl
                have d3 : (af != af) = false := by cases af <;> rfl
                have CA : Hid (Calls Try.prog 25 #[.agg #[.int .i64 p1.id, .int .i64 p1.c, .int .i64 p1.d, .int .i64 p1.t, .int .i64 p1.p, .slice p1.a1 p1.ch.length p1.c1, .slice p1.a2 p1.us.length p1.c2], .int .i64 q1] wc fun e w' => e = .returned (.tuple #[.int .i64 au, .bool af]) ∧ Below wc.heap.size wc w') := by
                  have h1 := acc_any p1 q1 wc HO9.out
                  rw [hau, haf] at h1
                  exact h1
                have CB : Hid (∀ v, Below wc.heap.size wc v → Calls Try.prog 26 #[.agg #[.int .i64 p1.id, .int .i64 p1.c, .int .i64 p1.d, .int .i64 p1.t, .int .i64 p1.p, .slice p1.a1 p1.ch.length p1.c1, .slice p1.a2 p1.us.length p1.c2], .int .i64 q1] v fun e w' => e = .returned (.tuple #[.int .i64 au, .bool af]) ∧ Below v.heap.size v w') := fun v h => by
                  have h1 := racc_any p1 q1 v (HO9.out.below h)
                  rw [hau, haf] at h1
                  exact h1
                obtain ⟨m0, m1, m2, m3, m4, m5, m6⟩ := HA9.out
                have e1 := HV9.out.q
                clear hau haf
                go_upto_region 25 with (go_at_call 25; (with_reducible refine (CA.out).mono ?_); rintro e w10 ⟨rfl, b10⟩; have B10 := Lib.hid b10; obtain ⟨n0, n1, n2, n3, n4, n5, n6⟩ := HA9.out.below b10; have e2 := kept_cell b10 e1; clear b10)
                clear m0 m1 m2 m3 m4 m5 m6 e1 CA
                go_upto_region 26 with (go_at_call 26; (with_reducible refine (CB.out _ B10.out).mono ?_); rintro e w11 ⟨rfl, b11⟩; have B11 := Lib.hid (below_up B10.out b11); clear b11)
                clear n0 n1 n2 n3 n4 n5 n6 e2 CB
                have HV11 := Lib.hid (HV9.out.below B11.out)
                have HA11 := Lib.hid (HA9.out.below B11.out)
                have HO11 := Lib.hid (HO9.out.below B11.out)
                have HG := Lib.hid (told_good HM.out HT1.out)
                clear HV9 HA9 HO9 B10 B11
                go_cut [25] from 130 to 134 (fun u wx => u = .bool true ∧ Hid (Below w11.heap.size w11 wx))
                case first =>
                  obtain ⟨l, hl⟩ : ∃ l, endsOf p1 = l := ⟨_, rfl⟩
                  obtain ⟨nl, hnl⟩ : ∃ n, l.length = n := ⟨_, rfl⟩
                  have E1 : Hid (∀ w', Below w11.heap.size w11 w' → Calls Try.prog 28 #[.agg #[.int .i64 p1.id, .int .i64 p1.c, .int .i64 p1.d, .int .i64 p1.t, .int .i64 p1.p, .slice p1.a1 p1.ch.length p1.c1, .slice p1.a2 p1.us.length p1.c2]] w' fun e w'' => ∃ (a : Option Addr) (c : Nat), e = .returned (.slice a nl c) ∧ Ints w'' a l ∧ (nl : Int) ≤ 9223372036854775807 ∧ Below w11.heap.size w11 w'') := fun w' h => by
                    have h1 := ends_any p1 w' (HO11.out.below h) HG.out.1 HG.out.2.1 HG.out.2.2
                    rw [hl] at h1
                    exact h1.mono fun _ _ ⟨a, c, g1, g2, g3, g4⟩ => ⟨a, c, by rw [g1, hnl], g2, by rw [← hnl]; exact g4, below_up h g3⟩
                  have E2 : Hid (∀ w', Below w11.heap.size w11 w' → Calls Try.prog 29 #[.agg #[.int .i64 p1.id, .int .i64 p1.c, .int .i64 p1.d, .int .i64 p1.t, .int .i64 p1.p, .slice p1.a1 p1.ch.length p1.c1, .slice p1.a2 p1.us.length p1.c2]] w' fun e w'' => ∃ (a : Option Addr) (c : Nat), e = .returned (.slice a nl c) ∧ Ints w'' a l ∧ (nl : Int) ≤ 9223372036854775807 ∧ Below w11.heap.size w11 w'' ∧ Below w'.heap.size w' w'') := fun w' h => by
                    have h1 := rends_any p1 w' (HO11.out.below h) HG.out.1 HG.out.2.1 HG.out.2.2
                    rw [hl] at h1
                    exact h1.mono fun _ _ ⟨a, c, g1, g2, g3, g4⟩ => ⟨a, c, by rw [g1, hnl], g2, by rw [← hnl]; exact g4, below_up h g3, g3⟩
                  have E3 : Hid (∀ (w' : World) (a a' : Option Addr) (c c' : Nat), Below w11.heap.size w11 w' → Ints w' a l → Ints w' a' l → (nl : Int) ≤ 9223372036854775807 → Calls Try.prog 27 #[.slice a nl c, .slice a' nl c'] w' fun e w'' => e = .returned (.bool true) ∧ Below w11.heap.size w11 w'') := fun w' a a' c c' h g1 g2 g3 => by
                    have h1 := samelong_any nl nl c c' g3 g3 a a' l l hnl hnl w' g1 g2
                    rw [decide_eq_true rfl] at h1
                    exact h1.mono fun _ _ ⟨a, b⟩ => ⟨a, below_up h b⟩
                  obtain ⟨m0, m1, m2, m3, m4, m5, m6⟩ := HA11.out
                  have MK : Hid (∀ w', Below w11.heap.size w11 w' → (Below w11.heap.size w11 w' ∧ w'.cell? ⟨gx, 0, none⟩ = some (.int .i64 p1.id) ∧ w'.cell? ⟨gx, 1, none⟩ = some (.int .i64 p1.c) ∧ w'.cell? ⟨gx, 2, none⟩ = some (.int .i64 p1.d) ∧ w'.cell? ⟨gx, 3, none⟩ = some (.int .i64 p1.t) ∧ w'.cell? ⟨gx, 4, none⟩ = some (.int .i64 p1.p) ∧ w'.cell? ⟨gx, 5, none⟩ = some (.slice p1.a1 p1.ch.length p1.c1) ∧ w'.cell? ⟨gx, 6, none⟩ = some (.slice p1.a2 p1.us.length p1.c2))) := fun w' h => ⟨h, kept_cell h m0, kept_cell h m1, kept_cell h m2, kept_cell h m3, kept_cell h m4, kept_cell h m5, kept_cell h m6⟩
                  have r0 := Below.refl w11.heap.size w11
                  clear HV11 HA11 HO11 HG hl hnl
                  go_region_held3 (fun w' => Below w11.heap.size w11 w' ∧ w'.cell? ⟨gx, 0, none⟩ = some (.int .i64 p1.id) ∧ w'.cell? ⟨gx, 1, none⟩ = some (.int .i64 p1.c) ∧ w'.cell? ⟨gx, 2, none⟩ = some (.int .i64 p1.d) ∧ w'.cell? ⟨gx, 3, none⟩ = some (.int .i64 p1.t) ∧ w'.cell? ⟨gx, 4, none⟩ = some (.int .i64 p1.p) ∧ w'.cell? ⟨gx, 5, none⟩ = some (.slice p1.a1 p1.ch.length p1.c1) ∧ w'.cell? ⟨gx, 6, none⟩ = some (.slice p1.a2 p1.us.length p1.c2)) (exact MK.out _ (by repeat (first | exact Below.refl _ _ | (with_reducible assumption) | refine bw_alloc ?_ _ | refine bw_drew ?_))) (first | (go_at_call 28; (with_reducible refine (E1.out _ (by repeat (first | exact Below.refl _ _ | (with_reducible assumption) | refine bw_alloc ?_ _ | refine bw_drew ?_))).mono ?_); rintro e wx ⟨a1, c1, rfl, hi1, hn1, bx⟩; have HJ1 := Lib.hid hi1; have HN1 := Lib.hid hn1; clear hi1 hn1) | (go_at_call 29; (with_reducible refine (E2.out _ (by repeat (first | exact Below.refl _ _ | (with_reducible assumption) | refine bw_alloc ?_ _ | refine bw_drew ?_))).mono ?_); rintro e wy ⟨a2, c2, rfl, hi2, hn2, bx, by2⟩; have HJ2 := Lib.hid hi2; have HJ3 := Lib.hid (HJ1.out.below by2); clear hi2 hn2 by2) | (go_at_call 27; (with_reducible refine (E3.out _ _ _ _ _ (by repeat (first | exact Below.refl _ _ | (with_reducible assumption) | refine bw_alloc ?_ _ | refine bw_drew ?_)) HJ3.out HJ2.out HN1.out).mono ?_); rintro e wx ⟨rfl, bx⟩))
                  all_goals
                    go_wp2_with fail
                    go_meet
                    exact ⟨rfl, Lib.hid (by repeat (first | exact Below.refl _ _ | (with_reducible assumption) | refine bw_alloc ?_ _ | refine bw_drew ?_))⟩
                case rest =>
                  obtain ⟨rfl, HP26⟩ := hcut
                  have HV12 := Lib.hid (HV11.out.below HP26.out)
                  have HA12 := Lib.hid (HA11.out.below HP26.out)
                  have HO12 := Lib.hid (HO11.out.below HP26.out)
                  clear HV11 HA11 HO11 HP26 HG
                  go_upto_region 27 with fail
                  go_cut [153] from 135 to 153 (fun u wx => u = .bool false ∧ Hid (Below wc.heap.size wc wx))
                  case first =>
                    obtain ⟨mx, hmx⟩ := isMax_ex (chunksOf p1) (chunks_pos p1)
                    have d4 : (mx == mx) = true := by rw [beq_iff_eq]
                    have d5 : (mx != mx) = false := by rw [bne, d4]; rfl
                    have C1 : Hid (∀ w', Below wc.heap.size wc w' → Calls Try.prog 30 #[.agg #[.int .i64 p1.id, .int .i64 p1.c, .int .i64 p1.d, .int .i64 p1.t, .int .i64 p1.p, .slice p1.a1 p1.ch.length p1.c1, .slice p1.a2 p1.us.length p1.c2]] w' fun e w'' => e = .returned (.int .i64 mx) ∧ Below wc.heap.size wc w'') := fun w' h =>
                      (chunk_any p1 w' (HO12.out.below h)).mono fun _ _ ⟨m, g1, g2, g3⟩ => ⟨by rw [g1, isMax_same hmx g2], below_up h g3⟩
                    have C2 : Hid (∀ w', Below wc.heap.size wc w' → Calls Try.prog 31 #[.agg #[.int .i64 p1.id, .int .i64 p1.c, .int .i64 p1.d, .int .i64 p1.t, .int .i64 p1.p, .slice p1.a1 p1.ch.length p1.c1, .slice p1.a2 p1.us.length p1.c2]] w' fun e w'' => e = .returned (.int .i64 mx) ∧ Below wc.heap.size wc w'') := fun w' h =>
                      (rchunk_any p1 w' (HO12.out.below h)).mono fun _ _ ⟨m, g1, g2, g3⟩ => ⟨by rw [g1, isMax_same hmx g2], below_up h g3⟩
                    obtain ⟨m0, m1, m2, m3, m4, m5, m6⟩ := HA12.out
                    have MK : Hid (∀ w', Below wc.heap.size wc w' → (Below wc.heap.size wc w' ∧ w'.cell? ⟨gx, 0, none⟩ = some (.int .i64 p1.id) ∧ w'.cell? ⟨gx, 1, none⟩ = some (.int .i64 p1.c) ∧ w'.cell? ⟨gx, 2, none⟩ = some (.int .i64 p1.d) ∧ w'.cell? ⟨gx, 3, none⟩ = some (.int .i64 p1.t) ∧ w'.cell? ⟨gx, 4, none⟩ = some (.int .i64 p1.p) ∧ w'.cell? ⟨gx, 5, none⟩ = some (.slice p1.a1 p1.ch.length p1.c1) ∧ w'.cell? ⟨gx, 6, none⟩ = some (.slice p1.a2 p1.us.length p1.c2))) := fun w' h => ⟨h, kept_cell h m0, kept_cell h m1, kept_cell h m2, kept_cell h m3, kept_cell h m4, kept_cell h m5, kept_cell h m6⟩
                    have r0 := Below.refl wc.heap.size wc
                    clear HV12 HA12 HO12 hmx
                    go_region_held3 (fun w' => Below wc.heap.size wc w' ∧ w'.cell? ⟨gx, 0, none⟩ = some (.int .i64 p1.id) ∧ w'.cell? ⟨gx, 1, none⟩ = some (.int .i64 p1.c) ∧ w'.cell? ⟨gx, 2, none⟩ = some (.int .i64 p1.d) ∧ w'.cell? ⟨gx, 3, none⟩ = some (.int .i64 p1.t) ∧ w'.cell? ⟨gx, 4, none⟩ = some (.int .i64 p1.p) ∧ w'.cell? ⟨gx, 5, none⟩ = some (.slice p1.a1 p1.ch.length p1.c1) ∧ w'.cell? ⟨gx, 6, none⟩ = some (.slice p1.a2 p1.us.length p1.c2)) (exact MK.out _ (by repeat (first | exact Below.refl _ _ | (with_reducible assumption) | refine bw_alloc ?_ _ | refine bw_drew ?_))) (first | (go_at_call 30; (with_reducible refine (C1.out _ (by repeat (first | exact Below.refl _ _ | (with_reducible assumption) | refine bw_alloc ?_ _ | refine bw_drew ?_))).mono ?_); rintro e wx ⟨rfl, bx⟩) | (go_at_call 31; (with_reducible refine (C2.out _ (by repeat (first | exact Below.refl _ _ | (with_reducible assumption) | refine bw_alloc ?_ _ | refine bw_drew ?_))).mono ?_); rintro e wx ⟨rfl, bx⟩))
                    all_goals
                      go_wp2_with fail
                      go_meet
                      exact ⟨rfl, Lib.hid (by repeat (first | exact Below.refl _ _ | (with_reducible assumption) | refine bw_alloc ?_ _ | refine bw_drew ?_))⟩
                  case rest =>
                    obtain ⟨rfl, HP27⟩ := hcut
                    have HV13 := Lib.hid (HV12.out.below HP27.out)
                    clear HV12 HA12 HO12 HP27
                    go_wp2_with fail
                    go_roundw
                    case rel => exact ⟨k + 1, by omega, by omega, rfl, HV13⟩
                    case measure => simp only [intOf]; omega
        · go_wp2_with fail
          go_ret
          exact ⟨rfl, below_up HLW.out HP.out.low⟩
end Go.Proofs.Ytknjldmpcokgfaa
