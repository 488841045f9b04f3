/-
  The walk over the statement that a system that is changed is wrong.
-/
import Derived.Test.YtknjldmpcokgfaaKW17
import Derived.Test.YtknjldmpcokgfaaKChk
import Derived.Test.YtknjldmpcokgfaaKW12
namespace Go.Proofs.Ytknjldmpcokgfaa
open Go.RowKit Go.Maps

/-- A system in a box, one that is changed in another one; its row. -/
structure ChgAt (W5 : World) (g1 g2 B : Nat) (s r : Int) (a : Option Addr) (n c : Nat) (v : Value) (X : List TV) (W : World) : Prop where
  low : Below W5.heap.size W5 W
  l1 : W5.heap.size ≤ g1
  l2 : g1 < g2
  l3 : g2 < B
  sbox : W.heap[g1]? = some (.cells #[.int .i64 s, .int .i64 r, .slice a n c] 28 (0, 0))
  xbox : W.heap[g2]? = some (.cells #[.int .i64 s, .int .i64 r, v] 28 (0, 0))
  own : OwnT W B v X
  sz : B ≤ W.heap.size
theorem ChgAt.below {W5 W W' : World} {g1 g2 B : Nat} {s r : Int} {a : Option Addr} {n c : Nat} {v : Value} {X : List TV} (h : ChgAt W5 g1 g2 B s r a n c v X W) (hb : Below W.heap.size W W') : ChgAt W5 g1 g2 B s r a n c v X W' :=
  ⟨below_up h.low hb, h.l1, h.l2, h.l3, kept_obj hb h.sbox, kept_obj hb h.xbox, h.own.below hb, Nat.le_trans h.sz hb.size⟩
theorem ChgAt.lay {W5 W w3 : World} {g1 g2 B : Nat} {s r : Int} {a : Option Addr} {n c : Nat} {v v' : Value} {X X' : List TV} (h : ChgAt W5 g1 g2 B s r a n c v X W) (hb : Below B W w3) (ho : OwnT w3 B v' X') :
    ChgAt W5 g1 g2 B s r a n c v' X' (w3.setCell ⟨g2, 2, none⟩ v') ∧ w3.cell? ⟨g2, 2, none⟩ = some v ∧ w3.frozen? ⟨g2, 2, none⟩ = false := by
  have h1 := h.l1; have h2 := h.l2; have h3 := h.l3
  have hx := kept_objB hb h3 h.xbox
  have hlow : W5.heap.size ≤ W.heap.size := h.low.size
  refine ⟨⟨(h.low.trans (hb.mono (by omega))).setCell (p := ⟨g2, 2, none⟩) (by show _ ≤ g2; omega) _, h.l1, h.l2, h.l3, ?_, (blk_set hx _).trans rfl, ho.set (by show g2 < B; omega) _, by simp; exact Nat.le_trans h.sz hb.size⟩, by rw [blk_cell hx]; rfl, blk_free hx 2⟩
  rw [blk_far (a := ⟨g2, 2, none⟩) (by show _ ≠ g2; omega)]; exact kept_objB hb (by omega) h.sbox
theorem ChgAt.grown {W5 W w3 : World} {g1 g2 B : Nat} {s r : Int} {a : Option Addr} {n c : Nat} {v v' : Value} {X X' : List TV} (h : ChgAt W5 g1 g2 B s r a n c v X W) (hg : W.grownBy w3 v.ownBlock) (ho : OwnT w3 B v' X') :
    ChgAt W5 g1 g2 B s r a n c v' X' (w3.setCell ⟨g2, 2, none⟩ v') ∧ w3.cell? ⟨g2, 2, none⟩ = some v ∧ w3.frozen? ⟨g2, 2, none⟩ = false :=
  h.lay ((Below.refl _ W).grown hg h.sz (fun k hk => (h.own.new hk).1)) ho

/-- A deadline stored. -/
theorem flat_setD : ∀ (l : List TV) (k : Nat) (x : TV) (d : Int), l[k]? = some x → flat (l.set k { x with d := d }) = (flat l).set (k * 7 + 2) (.int .i64 d)
  | [], k, x, d, h => by simp at h
  | y :: l, 0, x, d, h => by
    simp at h; subst h
    simp [flat, TV.cells]
  | y :: l, k + 1, x, d, h => by
    have := flat_setD l k x d (by simpa using h)
    simp only [List.set_cons_succ, flat, this]
    rw [show (k + 1) * 7 + 2 = y.cells.length + (k * 7 + 2) by rw [cells_len]; omega, List.set_append_right _ _ (by omega)]
    congr 2; omega
theorem OwnT.setD {w : World} {B go n c : Nat} {l : List TV} (h : OwnT w B (.slice (some ⟨go, 0, none⟩) n c) l) {k : Nat} {x : TV} (hx : l[k]? = some x) (d : Int) : OwnT (w.setCell ⟨go, k * 7 + 2, none⟩ (.int .i64 d)) B (.slice (some ⟨go, 0, none⟩) n c) (l.set k { x with d := d }) ∧ B ≤ go := by
  have hkl : k < l.length := (List.getElem?_eq_some_iff.1 hx).1
  rcases h with ⟨h0, h | ⟨g, cap, cur, e, hb, h3, h1, h2, h4, h5⟩⟩
  · cases h.1
  · cases e
    refine ⟨⟨by rw [List.length_set, flat_len, List.length_set], .inr ⟨go, c, cur.setIfInBounds (k * 7 + 2) (.int .i64 d), by rw [List.length_set], hb, blk_set h3 _, by rw [List.length_set]; exact h1, h2, by simp [h4], ?_⟩⟩, hb⟩
    rw [flat_setD l k x d hx, List.length_set, ← h5, Array.toList_setIfInBounds, List.take_set]
theorem OwnT.cut {w : World} {B n c m : Nat} {a : Option Addr} {l : List TV} (h : OwnT w B (.slice a n c) l) (hm : m ≤ l.length) (hp : 0 < l.length) : OwnT w B (.slice a m c) (l.take m) := by
  rcases h with ⟨h0, h | ⟨g, cap, cur, e, hb, h3, h1, h2, h4, h5⟩⟩
  · omega
  · cases e
    have hl : (l.take m).length = m := by rw [List.length_take]; omega
    refine ⟨by rw [flat_len], .inr ⟨g, c, cur, by rw [hl], hb, h3, by rw [hl]; omega, h2, h4, ?_⟩⟩
    rw [hl, flat_take, ← h5, List.take_take]
    congr 1; omega
/-- The row copied. -/
theorem chg_new {W5 W7 w8 : World} {g1 g2 : Nat} {s r : Int} {a a' : Option Addr} {n c c' : Nat} {X : List TV} (hl : Below W5.heap.size W5 W7) (l1 : W5.heap.size ≤ g1) (l2 : g1 < g2) (hs : W7.heap[g1]? = some (.cells #[.int .i64 s, .int .i64 r, .slice a n c] 28 (0, 0))) (hx : W7.heap[g2]? = some (.cells #[.int .i64 s, .int .i64 r, .slice a n c] 28 (0, 0)))
    (hg : (W7.alloc (.cells #[] TT)).grownBy w8 (some W7.heap.size)) (ho : OwnT w8 W7.heap.size (.slice a' n c') ([] ++ X)) :
    ChgAt W5 g1 g2 W7.heap.size s r a n c (.slice a' n c') X (w8.setCell ⟨g2, 2, none⟩ (.slice a' n c')) ∧ w8.cell? ⟨g2, 2, none⟩ = some (.slice a n c) ∧ w8.frozen? ⟨g2, 2, none⟩ = false := by
  have hb : Below W7.heap.size W7 w8 := ((Below.refl _ W7).alloc (Nat.le_refl _) _).grown hg (by simp) (fun k hk => by cases hk; exact Nat.le_refl _)
  have h2 := lt_of_block hx
  have hx8 := kept_obj hb hx
  have hlow := hl.size
  refine ⟨⟨(below_up hl hb).setCell (p := ⟨g2, 2, none⟩) (by show _ ≤ g2; omega) _, l1, l2, h2, ?_, (blk_set hx8 _).trans rfl, (by simpa using ho : OwnT w8 W7.heap.size (.slice a' n c') X).set (by show g2 < _; omega) _, by simp; exact hb.size⟩, by rw [blk_cell hx8]; rfl, blk_free hx8 2⟩
  rw [blk_far (a := ⟨g2, 2, none⟩) (by show _ ≠ g2; omega)]; exact kept_obj hb hs

theorem ChgAt.setD {W5 W : World} {g1 g2 B go : Nat} {s r : Int} {a : Option Addr} {n c n' c' : Nat} {X : List TV} (h : ChgAt W5 g1 g2 B s r a n c (.slice (some ⟨go, 0, none⟩) n' c') X W) {k : Nat} {x : TV} (hx : X[k]? = some x) (d : Int) :
    ChgAt W5 g1 g2 B s r a n c (.slice (some ⟨go, 0, none⟩) n' c') (X.set k { x with d := d }) (W.setCell ⟨go, k * 7 + 2, none⟩ (.int .i64 d)) := by
  obtain ⟨ho, hB⟩ := h.own.setD hx d
  have h1 := h.l1; have h2 := h.l2; have h3 := h.l3
  refine ⟨h.low.setCell (p := ⟨go, k * 7 + 2, none⟩) (by show _ ≤ go; omega) _, h.l1, h.l2, h.l3, ?_, ?_, ho, by simp; exact h.sz⟩
  · rw [blk_far (a := ⟨go, k * 7 + 2, none⟩) (by show _ ≠ go; omega)]; exact h.sbox
  · rw [blk_far (a := ⟨go, k * 7 + 2, none⟩) (by show _ ≠ go; omega)]; exact h.xbox
theorem at_second (w : World) (o : Obj) (x : TV) (T : TypeId) : At ((w.alloc o).alloc (.cells #[.int .i64 x.id, .int .i64 x.c, .int .i64 x.d, .int .i64 x.t, .int .i64 x.p, .slice x.a1 x.ch.length x.c1, .slice x.a2 x.us.length x.c2] T)) (w.heap.size + 1) 0 x := by
  have := at_new (w.alloc o) x T
  rwa [World.size_alloc] at this
theorem OwnT.at0 {w : World} {B n c : Nat} {a : Option Addr} {l : List TV} (h : OwnT w B (.slice a n c) l) {k : Nat} {x : TV} (hx : l[k]? = some x) : ∃ go, a = some ⟨go, 0, none⟩ ∧ At w go (k * 7) x ∧ w.frozen? ⟨go, k * 7 + 2, none⟩ = false ∧ B ≤ go ∧ go < w.heap.size := by
  have hv := h.slice
  rcases h with ⟨h0, h | ⟨g, cap, cur, e, hb, h3, h1, h2, h4, h5⟩⟩
  · have := (List.getElem?_eq_some_iff.1 hx).1; omega
  · cases e
    obtain ⟨a', c', e', v, _⟩ := hv
    cases e'
    obtain ⟨g', o', e2, hat⟩ := v.at_ hx
    cases e2
    rw [Nat.zero_add] at hat
    exact ⟨g, rfl, hat, blk_free h3 _, hb, lt_of_block h3⟩
/-- What is asked in the last line. -/
structure EndAt (W5 : World) (g1 g2 : Nat) (s r : Int) (a : Option Addr) (n c : Nat) (a' : Option Addr) (n' c' : Nat) (want : Int) (q : Bool) (W : World) : Prop where
  low : Below W5.heap.size W5 W
  s0 : W.cell? ⟨g1, 0, none⟩ = some (.int .i64 s)
  s1 : W.cell? ⟨g1, 1, none⟩ = some (.int .i64 r)
  s2 : W.cell? ⟨g1, 2, none⟩ = some (.slice a n c)
  x0 : W.cell? ⟨g2, 0, none⟩ = some (.int .i64 s)
  x1 : W.cell? ⟨g2, 1, none⟩ = some (.int .i64 r)
  x2 : W.cell? ⟨g2, 2, none⟩ = some (.slice a' n' c')
  k1 : ∀ v, Below W.heap.size W v → Calls Try.prog 12 #[.agg #[.int .i64 s, .int .i64 r, .slice a n c]] v fun e w' => e = .returned (.int .i64 0) ∧ Below v.heap.size v w'
  k2 : ∀ v, Below W.heap.size W v → Calls Try.prog 12 #[.agg #[.int .i64 s, .int .i64 r, .slice a' n' c']] v fun e w' => e = .returned (.int .i64 want) ∧ Below v.heap.size v w'
  k3 : ∀ v, Below W.heap.size W v → Calls Try.prog 14 #[.agg #[.int .i64 s, .int .i64 r, .slice a' n' c'], .agg #[.int .i64 s, .int .i64 r, .slice a n c]] v fun e w' => e = .returned (.bool q) ∧ Below v.heap.size v w'
theorem EndAt.below {W5 W W' : World} {g1 g2 : Nat} {s r : Int} {a a' : Option Addr} {n c n' c' : Nat} {want : Int} {q : Bool} (h : EndAt W5 g1 g2 s r a n c a' n' c' want q W) (hb : Below W.heap.size W W') : EndAt W5 g1 g2 s r a n c a' n' c' want q W' :=
  ⟨below_up h.low hb, kept_cell hb h.s0, kept_cell hb h.s1, kept_cell hb h.s2, kept_cell hb h.x0, kept_cell hb h.x1, kept_cell hb h.x2, fun v hv => h.k1 v (below_up hb hv), fun v hv => h.k2 v (below_up hb hv), fun v hv => h.k3 v (below_up hb hv)⟩
theorem ChgAt.ends {W5 W : World} {g1 g2 B : Nat} {s r : Int} {a a' : Option Addr} {n c n' c' : Nat} {M X : List TV} {want : Int} {q : Bool} (h : ChgAt W5 g1 g2 B s r a n c (.slice a' n' c') X W) (hT : Tasks W5 a n c M) (hM : Made s r M) (hok : AllOk W5 X) (hwf : ∀ x ∈ X, I64 x.p ∧ I64 x.id) (hc : checkOf s r X = want) (hq : decide (X.map TV.tk = M.map TV.tk) = q) : EndAt W5 g1 g2 s r a n c a' n' c' want q W := by
  have hTX : Tasks W a' n' c' X := h.own.tasks (hok.below h.low)
  have hTM := hT.below h.low
  refine ⟨h.low, by rw [blk_cell h.sbox]; rfl, by rw [blk_cell h.sbox]; rfl, by rw [blk_cell h.sbox]; rfl, by rw [blk_cell h.xbox]; rfl, by rw [blk_cell h.xbox]; rfl, by rw [blk_cell h.xbox]; rfl, fun v hb => ?_, fun v hb => ?_, fun v hb => ?_⟩
  · have := check_any s r (hTM.below hb) (made_wf hM)
    rwa [check_made hM] at this
  · have := check_any s r (hTX.below hb) hwf
    rwa [hc] at this
  · have := same_sys s r (hTX.below hb) (hTM.below hb)
    rwa [hq] at this

set_option maxRecDepth 100000 in
set_option maxHeartbeats 8000000 in
theorem law_change (W : World) (S R : Int) (a : Option Addr) (n cap : Nat) (L : List NV) (hn : Nums W a n cap L) (at_ what : Int) :
    Calls Try.prog 5 #[.agg #[.int .i64 S, .int .i64 R, .slice a n cap], .int .i64 at_, .int .i64 what] W fun e w' => e = .returned (.bool true) ∧ Below W.heap.size W w' := by
  have HN := Lib.hid hn
  have hz1 := zeroTask
  have hz2 := zeroSys
  clear hn
  go_enter Try.func5, Try.ntmps5
  go_upto_region 1 with fail
  refine gen_world (fun v => Below W.heap.size W v ∧ v.cell? ⟨W.heap.size, 0, none⟩ = some (.int .i64 S) ∧ v.cell? ⟨W.heap.size, 1, none⟩ = some (.int .i64 R) ∧ v.cell? ⟨W.heap.size, 2, none⟩ = some (.slice a n cap)) ⟨(by repeat (first | exact Below.refl _ _ | (with_reducible assumption) | refine bw_alloc ?_ _ | refine bw_drew ?_)), by rw [World.cell?_alloc_new]; rfl, by rw [World.cell?_alloc_new]; rfl, by rw [World.cell?_alloc_new]; rfl⟩ ?_
  intro W1 ⟨hl1, e0, e1, e2⟩
  have HL1 := Lib.hid hl1
  clear hl1
  go_upto_region 2 with (go_at_call 7; (with_reducible refine (awake_any _).mono ?_); rintro e w1 ⟨rfl, b1⟩; have HL2 := Lib.hid (below_up HL1.out b1); have d0 := kept_cell b1 e0; have d1 := kept_cell b1 e1; have d2 := kept_cell b1 e2; clear b1 e0 e1 e2)
  have C := Lib.hid (made5_any S R (HN.out.below HL2.out))
  go_upto_region 3 with (go_at_call 15; (with_reducible refine (C.out).mono ?_); rintro e w5 ⟨s, r, a5, N, c5, M, rfl, ho5, hok5, hi5, hm5, b5⟩; have HT5 := Lib.hid (ho5.tasks hok5); have HM := Lib.hid hm5; have HL5 := Lib.hid (below_up HL2.out b5); clear ho5 hok5 hi5 hm5 b5)
  have hN1 : 0 < N := by have := HM.out.pos; have := HT5.out.len; omega
  have hN6 : N ≤ 6 := by have := HM.out.six; have := HT5.out.len; omega
  have HLEN := Lib.hid HT5.out.len
  have hS : (w5.alloc (.cells #[.int .i64 s, .int .i64 r, .slice a5 N c5] 28)).heap[w5.heap.size]? = some (.cells #[.int .i64 s, .int .i64 r, .slice a5 N c5] 28 (0, 0)) := heap_alloc_new w5 _
  refine gen_world (fun v => Below w5.heap.size w5 v ∧ v.heap[w5.heap.size]? = some (.cells #[.int .i64 s, .int .i64 r, .slice a5 N c5] 28 (0, 0))) ⟨(by repeat (first | exact Below.refl _ _ | (with_reducible assumption) | refine bw_alloc ?_ _ | refine bw_drew ?_)), hS⟩ ?_
  intro W6 ⟨hl6, hs6⟩
  have HL6 := Lib.hid hl6
  have HS6 := Lib.hid hs6
  have e2 : W6.cell? ⟨w5.heap.size, 2, none⟩ = some (.slice a5 N c5) := by rw [blk_cell hs6]; rfl
  have e0 : W6.cell? ⟨w5.heap.size, 0, none⟩ = some (.int .i64 s) := by rw [blk_cell hs6]; rfl
  have e3 : W6.cell? ⟨w5.heap.size, 1, none⟩ = some (.int .i64 r) := by rw [blk_cell hs6]; rfl
  obtain ⟨t, k, e1, q2, q3, q4, q5⟩ : ∃ (t : Int) (k : Nat), at_.tmod N = t ∧ -(N : Int) < t ∧ t < N ∧ (t + N) % N = (k : Int) ∧ k < N := by
    have a := Int.tmod_lt_of_pos at_ (show (0 : Int) < N by omega)
    have b := Int.lt_tmod_of_pos at_ (show (0 : Int) < N by omega)
    have c := Int.emod_nonneg (at_.tmod N + N) (show (N : Int) ≠ 0 by omega)
    have d := Int.emod_lt_of_pos (at_.tmod N + N) (show (0 : Int) < N by omega)
    exact ⟨at_.tmod N, ((at_.tmod N + N) % N).toNat, rfl, b, a, by omega, by omega⟩
  have w1 : IntKind.i64.wrap (t + (N : Int)) = t + N := IntWalk.i64_in _ (by omega)
  have w2 : (t + (N : Int)).tmod N = (k : Int) := by rw [Int.tmod_eq_emod_of_nonneg (by omega)]; exact q4
  have z1 : ((N : Int) == 0) = false := by rw [beq_eq_false_iff_ne]; omega
  have z2 : ¬ (N : Int) = 0 := by omega
  have z3 : ¬ N = 0 := by omega
  have z4 : 0 ≤ t + (N : Int) := by omega
  clear hs6 hl6 hS C d0 d1 d2 HL1 HL2
  go_quiet (fail)
  have hb6 : Below W6.heap.size W6 (W6.drewN nq) := below_same (Below.refl _ _) rfl rfl rfl rfl
  have HLv := Lib.hid (below_up HL6.out hb6)
  have HSv := Lib.hid (kept_obj hb6 HS6.out)
  have e0' := kept_cell hb6 e0
  have e2' := kept_cell hb6 e2
  have e3' := kept_cell hb6 e3
  clear hb6 e0 e2 e3 HL6 HS6
  generalize W6.drewN nq = V6 at *
  clear e1 w1 w2 z1 z2 z4 q2 q3 q4
  have HQQ : Hid (k < N) := q5
  go_upto_region 5 with fail
  have hg6 : w5.heap.size < V6.heap.size := lt_of_block HSv.out
  refine gen_world (fun v => Below w5.heap.size w5 v ∧ v.heap[w5.heap.size]? = some (.cells #[.int .i64 s, .int .i64 r, .slice a5 N c5] 28 (0, 0)) ∧ v.heap[V6.heap.size]? = some (.cells #[.int .i64 s, .int .i64 r, .slice a5 N c5] 28 (0, 0))) ⟨below_up HLv.out (by repeat (first | exact Below.refl _ _ | (with_reducible assumption) | refine bw_alloc ?_ _ | refine bw_drew ?_)), kept_obj ((by repeat (first | exact Below.refl _ _ | (with_reducible assumption) | refine bw_alloc ?_ _ | refine bw_drew ?_)) : Below V6.heap.size V6 _) HSv.out, heap_alloc_new V6 _⟩ ?_
  intro W7 ⟨hl7, hs7, hx7⟩
  have HL7 := Lib.hid hl7
  have HS7 := Lib.hid hs7
  have HX7 := Lib.hid hx7
  have e2 : W7.cell? ⟨w5.heap.size, 2, none⟩ = some (.slice a5 N c5) := by rw [blk_cell hs7]; rfl
  have hg7 : w5.heap.size < W7.heap.size := lt_of_block hs7
  have hg8 : V6.heap.size < W7.heap.size := lt_of_block hx7
  clear hl7 hs7 hx7 HSv HLv e0' e3' e2'
  have hw5 : w5.heap.size ≤ w5.heap.size := Nat.le_refl _
  generalize hG1 : w5.heap.size = g1 at HS7 e2 hg7 hg6 ⊢
  generalize V6.heap.size = g2 at HX7 hg8 hg6 ⊢
  have HG1 := Lib.hid hG1
  clear hG1
  have HV7 := Lib.hid (HT5.out.view.below HL7.out)
  have HNN : Hid (a5 = none → N = 0) := by
    intro z
    rcases HT5.out.view with q | ⟨_, _, q, _⟩
    · have := HT5.out.len; rw [q] at this; exact this.symm
    · rw [z] at q; cases q
  have HSM : Hid (([] : List TV).length + N ≤ 1000000) := by show _ ≤ _; simp; omega
  go_upto_region 7 with (at_builtin; refine wp_append (m := N) (l := M) (q := []) rfl _ _ rfl rfl rfl (OwnT.made W7) (by simp) (HV7.out.below (by repeat (first | exact Below.refl _ _ | (with_reducible assumption) | refine bw_alloc ?_ _ | refine bw_drew ?_))) HLEN.out HSM.out HNN.out N (by simp) ?_; intro a8 k8 w8 o8 g8 l8; obtain ⟨hn8, y1, y2⟩ := chg_new (W5 := w5) HL7.out (Nat.le_of_eq HG1.out) hg6 HS7.out HX7.out g8 o8; have H8 := Lib.hid hn8; clear hn8 o8 g8 l8)
  refine gen_world (ChgAt w5 g1 g2 W7.heap.size s r a5 N c5 (.slice a8 N k8) M) H8.out ?_
  intro W9 hw9
  have H9 := Lib.hid hw9
  clear hw9 H8 y1 y2 HL7 HS7 HX7 HV7 HNN HSM e2
  have hB9 : W7.heap.size ≤ W7.heap.size := Nat.le_refl _
  generalize W7.heap.size = B at *
  obtain ⟨t2, f1, f2, f3⟩ : ∃ t2 : Int, what.tmod 5 = t2 ∧ -5 < t2 ∧ t2 < 5 :=
    ⟨what.tmod 5, rfl, Int.lt_tmod_of_pos what (by omega), Int.tmod_lt_of_pos what (by omega)⟩
  have w3 : IntKind.i64.wrap (t2 + 5) = t2 + 5 := IntWalk.i64_in _ (by omega)
  have z5 : 0 ≤ t2 + 5 := by omega
  have hq : (t2 + 5) % 5 = 0 ∨ (t2 + 5) % 5 = 1 ∨ (t2 + 5) % 5 = 2 ∨ (t2 + 5) % 5 = 3 ∨ (t2 + 5) % 5 = 4 := by omega
  have hgl1 := H9.out.l1
  have b2 : W9.cell? ⟨g2, 2, none⟩ = some (.slice a8 N k8) := by rw [blk_cell H9.out.xbox]; rfl
  have s2 : W9.cell? ⟨g1, 2, none⟩ = some (.slice a5 N c5) := by rw [blk_cell H9.out.sbox]; rfl
  have hlt1 : g1 < W9.heap.size := lt_of_block H9.out.sbox
  have hlt2 : g2 < W9.heap.size := lt_of_block H9.out.xbox
  clear f2 f3
  have HWM := Lib.hid (made_wf HM.out)
  have HSM : Hid (M.length + 1 ≤ 1000000) := by show _ ≤ _; have := HLEN.out; omega
  have HNN : Hid (M.length + 1 = N + 1) := by show _ = _; rw [HLEN.out]
  have HNE : Hid (∀ y : TV, decide ((M ++ [y]).map TV.tk = M.map TV.tk) = false) := fun y => decide_eq_false (row_len (by simp))
  have HWM := Lib.hid (made_wf HM.out)
  have HSM : Hid (M.length + 1 ≤ 1000000) := by show _ ≤ _; have := HLEN.out; omega
  have HNN : Hid (M.length + 1 = N + 1) := by show _ = _; rw [HLEN.out]
  have HNE : Hid (∀ y : TV, decide ((M ++ [y]).map TV.tk = M.map TV.tk) = false) := fun y => decide_eq_false (row_len (by simp))
  have HWM := Lib.hid (made_wf HM.out)
  have HSM : Hid (M.length + 1 ≤ 1000000) := by show _ ≤ _; have := HLEN.out; omega
  have HNN : Hid (M.length + 1 = N + 1) := by show _ = _; rw [HLEN.out]
  have HNE : Hid (∀ y : TV, decide ((M ++ [y]).map TV.tk = M.map TV.tk) = false) := fun y => decide_eq_false (row_len (by simp))
  have HWM := Lib.hid (made_wf HM.out)
  have HSM : Hid (M.length + 1 ≤ 1000000) := by show _ ≤ _; have := HLEN.out; omega
  have HNN : Hid (M.length + 1 = N + 1) := by show _ = _; rw [HLEN.out]
  have HNE : Hid (∀ y : TV, decide ((M ++ [y]).map TV.tk = M.map TV.tk) = false) := fun y => decide_eq_false (row_len (by simp))
  rcases hq with hq | hq | hq | hq | hq
  · obtain ⟨y, hy⟩ := nth_of HLEN.out (show N - 1 < N by omega)
    obtain ⟨g', o', rfl, ⟨c0, c1, c2, c3, c4, c5', c6⟩⟩ := (HT5.out.view.below H9.out.low).at_ hy
    have hwN : IntKind.i64.wrap ((N : Int) - 1) = ((N - 1 : Nat) : Int) := (IntWalk.i64_in _ (by omega)).trans (by omega)
    have hn1 : ((N - 1 : Nat) : Int) < (N : Int) := by omega
    have hn0 : (0 : Int) ≤ ((N - 1 : Nat) : Int) := by omega
    have HOK : Hid (AllOk w5 (M ++ [y])) := HT5.out.ok.append (AllOk.one (HT5.out.ok.at_ hy))
    have HWF : Hid (∀ x ∈ M ++ [y], I64 x.p ∧ I64 x.id) := fun x hx => (List.mem_append.1 hx).elim (HWM.out x) (fun q => by simp at q; subst q; exact HWM.out _ (List.mem_of_getElem? hy))
    have HCK := Lib.hid (check_twice HM.out hy)
    clear hy
    generalize N - 1 = N1 at *
    go_upto_region 9 with fail
    go_region_law (refine step_append (m := 1) (l := [y]) rfl (.tmp 42) (.tmp 51) rfl (by rfl) (by rfl) (H9.out.below (by repeat (first | exact Below.refl _ _ | (with_reducible assumption) | refine bw_alloc ?_ _ | refine bw_drew ?_))).own (H9.out.below (by repeat (first | exact Below.refl _ _ | (with_reducible assumption) | refine bw_alloc ?_ _ | refine bw_drew ?_))).sz (by first | exact View.of_at (at_new _ _ _) | exact (View.of_at (at_new _ _ _)).below (by repeat (first | exact Below.refl _ _ | (with_reducible assumption) | refine bw_alloc ?_ _ | refine bw_drew ?_))) rfl HSM.out (fun z => by cases z) (N + 1) HNN.out ?_
                   intro a3 k3 w3 o3 g3 l3
                   obtain ⟨hx, y1, y2⟩ := (H9.out.below (by repeat (first | exact Below.refl _ _ | (with_reducible assumption) | refine bw_alloc ?_ _ | refine bw_drew ?_))).grown g3 o3
                   have HX := Lib.hid hx
                   clear hx o3 g3 l3)
    all_goals
      have HE := Lib.hid (HX.out.ends HT5.out HM.out HOK.out HWF.out HCK.out (HNE.out y))
      go_upto_region 25 with fail
      obtain ⟨_, m0, m1, m2, m3, m4, m5, _, _, _⟩ := HE.out
      go_wp2_with (first
          | (go_at_call 12; (with_reducible refine (HE.out.k1 _ (by repeat (first | exact Below.refl _ _ | (with_reducible assumption) | refine bw_alloc ?_ _ | refine bw_drew ?_))).mono ?_); rintro e u1 ⟨rfl, b1⟩; have HE1 := Lib.hid (HE.out.below b1); have p0 := kept_cell b1 m0; have p1 := kept_cell b1 m1; have p2 := kept_cell b1 m2; have p3 := kept_cell b1 m3; have p4 := kept_cell b1 m4; have p5 := kept_cell b1 m5; clear b1)
          | (go_at_call 12; (with_reducible refine (HE1.out.k2 _ (by repeat (first | exact Below.refl _ _ | (with_reducible assumption) | refine bw_alloc ?_ _ | refine bw_drew ?_))).mono ?_); rintro e u2 ⟨rfl, b2⟩; have HE2 := Lib.hid (HE1.out.below b2); have q0 := kept_cell b2 p0; have q1 := kept_cell b2 p1; have q2 := kept_cell b2 p2; have q3 := kept_cell b2 p3; have q4 := kept_cell b2 p4; have q5 := kept_cell b2 p5; clear b2)
          | (go_at_call 14; (with_reducible refine (HE2.out.k3 _ (by repeat (first | exact Below.refl _ _ | (with_reducible assumption) | refine bw_alloc ?_ _ | refine bw_drew ?_))).mono ?_); rintro e u3 ⟨rfl, b3⟩; have HE3 := Lib.hid (HE2.out.below b3); have v2 := kept_cell b3 q2; have v5 := kept_cell b3 q5; clear b3))
      go_ret
      exact ⟨rfl, below_up HL5.out HE3.out.low⟩
  · obtain ⟨y, hy⟩ := nth_of HLEN.out HQQ.out
    obtain ⟨g', o', rfl, ⟨c0, c1, c2, c3, c4, c5', c6⟩⟩ := (HT5.out.view.below H9.out.low).at_ hy
    have hk1 : (k : Int) < (N : Int) := by omega
    have hk0 : (0 : Int) ≤ (k : Int) := by omega
    have hyo := HT5.out.ok.at_ hy
    have HOK : Hid (AllOk w5 (M ++ [{ y with id := 90 }])) := HT5.out.ok.append (AllOk.one ⟨hyo.one, hyo.two, hyo.l1, hyo.m1, hyo.l2, hyo.m2⟩)
    have HWF : Hid (∀ x ∈ M ++ [{ y with id := 90 }], I64 x.p ∧ I64 x.id) := fun x hx => (List.mem_append.1 hx).elim (HWM.out x) (fun q => by
      simp at q; subst q
      have := (HWM.out _ (List.mem_of_getElem? hy)).1
      exact ⟨this, by show -9223372036854775808 ≤ (90 : Int) ∧ (90 : Int) ≤ 9223372036854775807; omega⟩)
    have HCK := Lib.hid (check_prio HM.out hy)
    clear hy hyo
    go_upto_region 25 with (at_builtin; refine wp_append (m := 1) (l := [{ y with id := 90 }]) rfl _ _ rfl rfl rfl (H9.out.below (by repeat (first | exact Below.refl _ _ | (with_reducible assumption) | refine bw_alloc ?_ _ | refine bw_drew ?_))).own (H9.out.below (by repeat (first | exact Below.refl _ _ | (with_reducible assumption) | refine bw_alloc ?_ _ | refine bw_drew ?_))).sz (View.of_at (at_second _ _ { y with id := 90 } _)) rfl HSM.out (fun z => by cases z) (N + 1) HNN.out ?_; intro a3 k3 w3 o3 g3 l3; obtain ⟨hx, y1, y2⟩ := (H9.out.below (by repeat (first | exact Below.refl _ _ | (with_reducible assumption) | refine bw_alloc ?_ _ | refine bw_drew ?_))).grown g3 o3; have HX := Lib.hid hx; clear hx o3 g3 l3)
    have HE := Lib.hid (HX.out.ends HT5.out HM.out HOK.out HWF.out HCK.out (HNE.out _))
    obtain ⟨_, m0, m1, m2, m3, m4, m5, _, _, _⟩ := HE.out
    go_wp2_with (first
        | (go_at_call 12; (with_reducible refine (HE.out.k1 _ (by repeat (first | exact Below.refl _ _ | (with_reducible assumption) | refine bw_alloc ?_ _ | refine bw_drew ?_))).mono ?_); rintro e u1 ⟨rfl, b1⟩; have HE1 := Lib.hid (HE.out.below b1); have p0 := kept_cell b1 m0; have p1 := kept_cell b1 m1; have p2 := kept_cell b1 m2; have p3 := kept_cell b1 m3; have p4 := kept_cell b1 m4; have p5 := kept_cell b1 m5; clear b1)
        | (go_at_call 12; (with_reducible refine (HE1.out.k2 _ (by repeat (first | exact Below.refl _ _ | (with_reducible assumption) | refine bw_alloc ?_ _ | refine bw_drew ?_))).mono ?_); rintro e u2 ⟨rfl, b2⟩; have HE2 := Lib.hid (HE1.out.below b2); have q0 := kept_cell b2 p0; have q1 := kept_cell b2 p1; have q2 := kept_cell b2 p2; have q3 := kept_cell b2 p3; have q4 := kept_cell b2 p4; have q5 := kept_cell b2 p5; clear b2)
        | (go_at_call 14; (with_reducible refine (HE2.out.k3 _ (by repeat (first | exact Below.refl _ _ | (with_reducible assumption) | refine bw_alloc ?_ _ | refine bw_drew ?_))).mono ?_); rintro e u3 ⟨rfl, b3⟩; have HE3 := Lib.hid (HE2.out.below b3); have v2 := kept_cell b3 q2; have v5 := kept_cell b3 q5; clear b3))
    go_ret
    exact ⟨rfl, below_up HL5.out HE3.out.low⟩
  · have bf := blk_free H9.out.xbox 2
    have HX := Lib.hid (H9.out.lay (X' := []) (v' := .slice none 0 0) (Below.refl _ _) (OwnT.nil _ _)).1
    have HE := Lib.hid (HX.out.ends HT5.out HM.out (fun x hx => by cases hx) (fun x hx => by cases hx) (check_none s r) (q := false) (decide_eq_false (row_len (L := []) (M := M) (by rw [HLEN.out]; show ¬ 0 = N; omega))))
    go_upto_region 25 with fail
    obtain ⟨_, m0, m1, m2, m3, m4, m5, _, _, _⟩ := HE.out
    go_wp2_with (first
        | (go_at_call 12; (with_reducible refine (HE.out.k1 _ (by repeat (first | exact Below.refl _ _ | (with_reducible assumption) | refine bw_alloc ?_ _ | refine bw_drew ?_))).mono ?_); rintro e u1 ⟨rfl, b1⟩; have HE1 := Lib.hid (HE.out.below b1); have p0 := kept_cell b1 m0; have p1 := kept_cell b1 m1; have p2 := kept_cell b1 m2; have p3 := kept_cell b1 m3; have p4 := kept_cell b1 m4; have p5 := kept_cell b1 m5; clear b1)
        | (go_at_call 12; (with_reducible refine (HE1.out.k2 _ (by repeat (first | exact Below.refl _ _ | (with_reducible assumption) | refine bw_alloc ?_ _ | refine bw_drew ?_))).mono ?_); rintro e u2 ⟨rfl, b2⟩; have HE2 := Lib.hid (HE1.out.below b2); have q0 := kept_cell b2 p0; have q1 := kept_cell b2 p1; have q2 := kept_cell b2 p2; have q3 := kept_cell b2 p3; have q4 := kept_cell b2 p4; have q5 := kept_cell b2 p5; clear b2)
        | (go_at_call 14; (with_reducible refine (HE2.out.k3 _ (by repeat (first | exact Below.refl _ _ | (with_reducible assumption) | refine bw_alloc ?_ _ | refine bw_drew ?_))).mono ?_); rintro e u3 ⟨rfl, b3⟩; have HE3 := Lib.hid (HE2.out.below b3); have v2 := kept_cell b3 q2; have v5 := kept_cell b3 q5; clear b3))
    go_ret
    exact ⟨rfl, below_up HL5.out HE3.out.low⟩
  · obtain ⟨y, hy⟩ := nth_of HLEN.out HQQ.out
    obtain ⟨go, rfl, ⟨c0, c1, c2, c3, c4, c5', c6⟩, fz, hgo1, hgo2⟩ := H9.out.own.at0 hy
    have hk1 : (k : Int) < (N : Int) := by omega
    have hk0 : (0 : Int) ≤ (k : Int) := by omega
    have hyg := HM.out.good k y hy
    have hw9 : IntKind.i64.wrap (y.t + 1) = y.t + 1 := IntWalk.i64_in _ (by have := hyg.t24; have := hyg.c1; have := hyg.cd; have := hyg.dt; omega)
    have hyo := HT5.out.ok.at_ hy
    have HOK : Hid (AllOk w5 (M.set k { y with d := y.t + 1 })) := fun x hx => by
      rcases List.mem_or_eq_of_mem_set hx with q | rfl
      · exact HT5.out.ok x q
      · exact ⟨hyo.one, hyo.two, hyo.l1, hyo.m1, hyo.l2, hyo.m2⟩
    have HWF : Hid (∀ x ∈ M.set k { y with d := y.t + 1 }, I64 x.p ∧ I64 x.id) := fun x hx => by
      rcases List.mem_or_eq_of_mem_set hx with q | rfl
      · exact HWM.out x q
      · exact HWM.out y (List.mem_of_getElem? hy)
    have HCK := Lib.hid (check_late HM.out hy)
    have HSA : Hid (decide ((M.set k { y with d := y.t + 1 }).map TV.tk = M.map TV.tk) = false) := decide_eq_false (late_not HM.out hy)
    have HX9 := Lib.hid (fun v (hv : Below W9.heap.size W9 v) => (H9.out.below hv).setD hy (y.t + 1))
    clear hy hyg hyo c0 c1 c4 c5' c6
    go_upto_region 20 with fail
    go_region
    all_goals
      first
        | refine gen_world (ChgAt w5 g1 g2 B s r a5 N c5 _ _) (HX9.out _ (Below.refl _ _).drew) ?_
        | refine gen_world (ChgAt w5 g1 g2 B s r a5 N c5 _ _) ((HX9.out _ (Below.refl _ _)).below (Below.refl _ _).drew) ?_
        | (go_upto_region 21 with fail; refine gen_world (ChgAt w5 g1 g2 B s r a5 N c5 _ _) (HX9.out _ (Below.refl _ _).drew) ?_)
        | (go_upto_region 21 with fail; refine gen_world (ChgAt w5 g1 g2 B s r a5 N c5 _ _) ((HX9.out _ (Below.refl _ _)).below (Below.refl _ _).drew) ?_)
      intro V9 hv9
      have HE := Lib.hid (hv9.ends HT5.out HM.out HOK.out HWF.out HCK.out HSA.out)
      clear hv9 HX9 H9 b2 s2 c2 c3 fz
      go_upto_region 25 with fail
      obtain ⟨_, m0, m1, m2, m3, m4, m5, _, _, _⟩ := HE.out
      go_wp2_with (first
          | (go_at_call 12; (with_reducible refine (HE.out.k1 _ (by repeat (first | exact Below.refl _ _ | (with_reducible assumption) | refine bw_alloc ?_ _ | refine bw_drew ?_))).mono ?_); rintro e u1 ⟨rfl, b1⟩; have HE1 := Lib.hid (HE.out.below b1); have p0 := kept_cell b1 m0; have p1 := kept_cell b1 m1; have p2 := kept_cell b1 m2; have p3 := kept_cell b1 m3; have p4 := kept_cell b1 m4; have p5 := kept_cell b1 m5; clear b1)
          | (go_at_call 12; (with_reducible refine (HE1.out.k2 _ (by repeat (first | exact Below.refl _ _ | (with_reducible assumption) | refine bw_alloc ?_ _ | refine bw_drew ?_))).mono ?_); rintro e u2 ⟨rfl, b2⟩; have HE2 := Lib.hid (HE1.out.below b2); have q0 := kept_cell b2 p0; have q1 := kept_cell b2 p1; have q2 := kept_cell b2 p2; have q3 := kept_cell b2 p3; have q4 := kept_cell b2 p4; have q5 := kept_cell b2 p5; clear b2)
          | (go_at_call 14; (with_reducible refine (HE2.out.k3 _ (by repeat (first | exact Below.refl _ _ | (with_reducible assumption) | refine bw_alloc ?_ _ | refine bw_drew ?_))).mono ?_); rintro e u3 ⟨rfl, b3⟩; have HE3 := Lib.hid (HE2.out.below b3); have v2 := kept_cell b3 q2; have v5 := kept_cell b3 q5; clear b3))
      go_ret
      exact ⟨rfl, below_up HL5.out HE3.out.low⟩
  · by_cases hN2 : 1 < N
    · have bf := blk_free H9.out.xbox 2
      have hwN : IntKind.i64.wrap ((N : Int) - 1) = ((N - 1 : Nat) : Int) := (IntWalk.i64_in _ (by omega)).trans (by omega)
      have hN3 : (1 : Int) < (N : Int) := by omega
      have hNk : N ≤ k8 := by obtain ⟨_, _, e, _, l, _⟩ := H9.out.own.slice; have := HLEN.out; simp only [Value.slice.injEq] at e; omega
      have hn1 : ((N - 1 : Nat) : Int) ≤ (k8 : Int) := by omega
      have hn2 : N - 1 ≤ k8 := by omega
      have hn3 : ((N - 1 : Nat) : Int) < (N : Int) := by omega
      have HX := Lib.hid (H9.out.lay (X' := M.take (N - 1)) (v' := .slice a8 (N - 1) k8) (Below.refl _ _) (H9.out.own.cut (by rw [HLEN.out]; omega) (by rw [HLEN.out]; omega))).1
      have HM2 : Hid (Made s r (M.take (N - 1))) := by have := made_less HM.out (by rw [HLEN.out]; exact hN2); rw [HLEN.out] at this; exact this
      have HE := Lib.hid (HX.out.ends HT5.out HM.out (HT5.out.ok.take _) (made_wf HM2.out) (check_made HM2.out) (q := false) (decide_eq_false (row_len (by rw [List.length_take, HLEN.out]; omega))))
      have d9 : (((N - 1 : Nat) : Int) == (N : Int)) = false := by rw [beq_eq_false_iff_ne]; omega
      clear HX HM2
      generalize hN9 : N - 1 = N1 at *
      clear hN9
      go_upto_region 25 with fail
      obtain ⟨_, m0, m1, m2, m3, m4, m5, _, _, _⟩ := HE.out
      go_wp2_with (first
          | (go_at_call 12; (with_reducible refine (HE.out.k1 _ (by repeat (first | exact Below.refl _ _ | (with_reducible assumption) | refine bw_alloc ?_ _ | refine bw_drew ?_))).mono ?_); rintro e u1 ⟨rfl, b1⟩; have HE1 := Lib.hid (HE.out.below b1); have p0 := kept_cell b1 m0; have p1 := kept_cell b1 m1; have p2 := kept_cell b1 m2; have p3 := kept_cell b1 m3; have p4 := kept_cell b1 m4; have p5 := kept_cell b1 m5; clear b1)
          | (go_at_call 12; (with_reducible refine (HE1.out.k2 _ (by repeat (first | exact Below.refl _ _ | (with_reducible assumption) | refine bw_alloc ?_ _ | refine bw_drew ?_))).mono ?_); rintro e u2 ⟨rfl, b2⟩; have HE2 := Lib.hid (HE1.out.below b2); have q0 := kept_cell b2 p0; have q1 := kept_cell b2 p1; have q2 := kept_cell b2 p2; have q3 := kept_cell b2 p3; have q4 := kept_cell b2 p4; have q5 := kept_cell b2 p5; clear b2)
          | (go_at_call 14; (with_reducible refine (HE2.out.k3 _ (by repeat (first | exact Below.refl _ _ | (with_reducible assumption) | refine bw_alloc ?_ _ | refine bw_drew ?_))).mono ?_); rintro e u3 ⟨rfl, b3⟩; have HE3 := Lib.hid (HE2.out.below b3); have v2 := kept_cell b3 q2; have v5 := kept_cell b3 q5; clear b3))
      go_ret
      exact ⟨rfl, below_up HL5.out HE3.out.low⟩
    · have hN3 : ¬ (1 : Int) < (N : Int) := by omega
      have HE := Lib.hid (H9.out.ends HT5.out HM.out HT5.out.ok (made_wf HM.out) (check_made HM.out) (q := true) (decide_eq_true rfl))
      go_upto_region 25 with fail
      obtain ⟨_, m0, m1, m2, m3, m4, m5, _, _, _⟩ := HE.out
      go_wp2_with (first
          | (go_at_call 12; (with_reducible refine (HE.out.k1 _ (by repeat (first | exact Below.refl _ _ | (with_reducible assumption) | refine bw_alloc ?_ _ | refine bw_drew ?_))).mono ?_); rintro e u1 ⟨rfl, b1⟩; have HE1 := Lib.hid (HE.out.below b1); have p0 := kept_cell b1 m0; have p1 := kept_cell b1 m1; have p2 := kept_cell b1 m2; have p3 := kept_cell b1 m3; have p4 := kept_cell b1 m4; have p5 := kept_cell b1 m5; clear b1)
          | (go_at_call 12; (with_reducible refine (HE1.out.k2 _ (by repeat (first | exact Below.refl _ _ | (with_reducible assumption) | refine bw_alloc ?_ _ | refine bw_drew ?_))).mono ?_); rintro e u2 ⟨rfl, b2⟩; have HE2 := Lib.hid (HE1.out.below b2); have q0 := kept_cell b2 p0; have q1 := kept_cell b2 p1; have q2 := kept_cell b2 p2; have q3 := kept_cell b2 p3; have q4 := kept_cell b2 p4; have q5 := kept_cell b2 p5; clear b2)
          | (go_at_call 14; (with_reducible refine (HE2.out.k3 _ (by repeat (first | exact Below.refl _ _ | (with_reducible assumption) | refine bw_alloc ?_ _ | refine bw_drew ?_))).mono ?_); rintro e u3 ⟨rfl, b3⟩; have HE3 := Lib.hid (HE2.out.below b3); have v2 := kept_cell b3 q2; have v5 := kept_cell b3 q5; clear b3))
      go_ret
      exact ⟨rfl, below_up HL5.out HE3.out.low⟩
end Go.Proofs.Ytknjldmpcokgfaa
