/-
  Tasks by plain numbers: what a number's task is, in words.
-/
import Derived.Test.YtknjldmpcokgfaaKW11
namespace Go.Proofs.Ytknjldmpcokgfaa
open Go.RowKit Go.Maps

/-- A task's plain numbers as they stand in memory. -/
structure NV where
  C : Int
  D : Int
  T : Int
  P : Int
  K : Int
  a : Option Addr
  us : List Int
  c : Nat
def NV.cells (x : NV) : List Value := [.int .i64 x.C, .int .i64 x.D, .int .i64 x.T, .int .i64 x.P, .int .i64 x.K, .slice x.a x.us.length x.c]
structure NV.ok (w : World) (x : NV) : Prop where
  row : Ints w x.a x.us
  le : x.us.length ≤ x.c
  small : (x.c : Int) ≤ 9223372036854775807
theorem NV.ok.below {w w' : World} {x : NV} (h : x.ok w) (hb : Below w.heap.size w w') : x.ok w' := ⟨h.row.below hb, h.le, h.small⟩
/-- The cells of a task's plain numbers, from a place on. -/
structure NAt (w : World) (g o : Nat) (x : NV) : Prop where
  c0 : w.cell? ⟨g, o, none⟩ = some (.int .i64 x.C)
  c1 : w.cell? ⟨g, o + 1, none⟩ = some (.int .i64 x.D)
  c2 : w.cell? ⟨g, o + 2, none⟩ = some (.int .i64 x.T)
  c3 : w.cell? ⟨g, o + 3, none⟩ = some (.int .i64 x.P)
  c4 : w.cell? ⟨g, o + 4, none⟩ = some (.int .i64 x.K)
  c5 : w.cell? ⟨g, o + 5, none⟩ = some (.slice x.a x.us.length x.c)
theorem NAt.below {w w' : World} {g o : Nat} {x : NV} (h : NAt w g o x) (hb : Below w.heap.size w w') : NAt w' g o x :=
  ⟨kept_cell hb h.c0, kept_cell hb h.c1, kept_cell hb h.c2, kept_cell hb h.c3, kept_cell hb h.c4, kept_cell hb h.c5⟩

/-- What is promised of the task that a number means: at place i, for so many sets. -/
structure Good (i : Int) (sets : Int) (y : TV) : Prop where
  id : y.id = i + 1
  c1 : 1 ≤ y.c
  cd : y.c ≤ y.d
  dt : y.d ≤ y.t
  t24 : y.t ≤ 24
  p1 : 10 ≤ y.p
  p99 : y.p ≤ 90 + i
  pi : (y.p - i) % 10 = 0
  ch : y.ch = [] ∨ fillB y.ch y.c = true
  us : ∀ u ∈ y.us, 0 ≤ u ∧ u < sets
  us5 : y.us.length ≤ 5

theorem fill_sum : ∀ (l : List Int) (c : Int), (∀ x ∈ l, 1 ≤ x) → l.sum = c → fillB l c = true
  | [], c, _, h => by simp at h; subst h; rfl
  | x :: l, c, hp, h => by
    have h1 : 1 ≤ x := hp x (by simp)
    have hs : ∀ (l : List Int), (∀ x ∈ l, 1 ≤ x) → 0 ≤ l.sum := by
      intro l
      induction l with
      | nil => intro _; simp
      | cons y l ih =>
        intro hl
        have := ih (fun z hz => hl z (by simp [hz]))
        have := hl y (by simp)
        simp only [List.sum_cons]; omega
    have h2 := hs l (fun z hz => hp z (by simp [hz]))
    simp only [List.sum_cons] at h
    rw [fillB, if_pos ⟨h1, by omega⟩]
    exact fill_sum l (c - x) (fun z hz => hp z (by simp [hz])) (by omega)

theorem and_small (n : Int) (m : Nat) (hm : m < 1000) : ∃ j : Nat, j ≤ m ∧ bits .and .i64 n (m : Int) = (j : Int) := by
  have hm2 : (BitVec.ofInt 64 (m : Int)).toNat = m := by
    rw [BitVec.toNat_ofInt]; omega
  have h : (BitVec.ofInt 64 n &&& BitVec.ofInt 64 (m : Int)).toNat ≤ m := by
    rw [BitVec.toNat_and, hm2]; exact Nat.and_le_right
  refine ⟨_, h, ?_⟩
  show IntKind.i64.wrap _ = _
  exact IntWalk.i64_in _ (by show _ ∧ ((BitVec.ofInt 64 n &&& BitVec.ofInt 64 (m : Int)).toNat : Int) ≤ _; omega)
theorem and7 (n : Int) : ∃ j : Nat, j < 8 ∧ bits .and .i64 n 7 = (j : Int) := by
  obtain ⟨j, h1, h2⟩ := and_small n 7 (by omega)
  exact ⟨j, by omega, h2⟩
theorem period (j : Nat) (hj : j < 8) : ∃ t : Int, [(4 : Int), 5, 6, 8, 10, 12, 20, 24][j]? = some t ∧ 4 ≤ t ∧ t ≤ 24 := by
  match j, hj with
  | 0, _ => exact ⟨4, rfl, by omega, by omega⟩
  | 1, _ => exact ⟨5, rfl, by omega, by omega⟩
  | 2, _ => exact ⟨6, rfl, by omega, by omega⟩
  | 3, _ => exact ⟨8, rfl, by omega, by omega⟩
  | 4, _ => exact ⟨10, rfl, by omega, by omega⟩
  | 5, _ => exact ⟨12, rfl, by omega, by omega⟩
  | 6, _ => exact ⟨20, rfl, by omega, by omega⟩
  | 7, _ => exact ⟨24, rfl, by omega, by omega⟩
theorem ints_block (w : World) (l : List Int) (T : TypeId) : Ints (w.alloc (.cells (vi l).toArray T)) (some ⟨w.heap.size, 0, none⟩) l :=
  .inr ⟨_, 0, rfl, fun j u hj => by rw [Nat.zero_add, World.cell?_alloc_new]; simpa using vi_at hj⟩

/-- The plain numbers in a box; the task that comes back in another one. -/
structure NumAt (w : World) (x : NV) (W : World) : Prop where
  low : Below w.heap.size w W
  c0 : W.cell? ⟨w.heap.size, 0, none⟩ = some (.int .i64 x.C)
  c1 : W.cell? ⟨w.heap.size, 1, none⟩ = some (.int .i64 x.D)
  c2 : W.cell? ⟨w.heap.size, 2, none⟩ = some (.int .i64 x.T)
  c3 : W.cell? ⟨w.heap.size, 3, none⟩ = some (.int .i64 x.P)
  c4 : W.cell? ⟨w.heap.size, 4, none⟩ = some (.int .i64 x.K)
  c5 : W.cell? ⟨w.heap.size, 5, none⟩ = some (.slice x.a x.us.length x.c)
  res : W.heap[w.heap.size + 1]? = some (.cells #[.int .i64 0, .int .i64 0, .int .i64 0, .int .i64 0, .int .i64 0, .slice none 0 0, .slice none 0 0] TT (0, 0))
theorem NumAt.below {w W W' : World} {x : NV} (h : NumAt w x W) (hb : Below W.heap.size W W') : NumAt w x W' :=
  ⟨below_up h.low hb, kept_cell hb h.c0, kept_cell hb h.c1, kept_cell hb h.c2, kept_cell hb h.c3, kept_cell hb h.c4, kept_cell hb h.c5, kept_obj hb h.res⟩
theorem NumAt.belowB {B : Nat} {w W W' : World} {x : NV} (h : NumAt w x W) (hB : w.heap.size + 1 < B) (hb : Below B W W') : NumAt w x W' :=
  ⟨h.low.trans (hb.mono (by omega)), kept_cellB hb (by omega) h.c0, kept_cellB hb (by omega) h.c1, kept_cellB hb (by omega) h.c2, kept_cellB hb (by omega) h.c3, kept_cellB hb (by omega) h.c4, kept_cellB hb (by omega) h.c5, (hb.block _ hB).trans h.res⟩
theorem numAt_new {w : World} {x : NV} {T : TypeId} : NumAt w x ((w.alloc (.cells #[.int .i64 x.C, .int .i64 x.D, .int .i64 x.T, .int .i64 x.P, .int .i64 x.K, .slice x.a x.us.length x.c] T)).alloc (.cells #[.int .i64 0, .int .i64 0, .int .i64 0, .int .i64 0, .int .i64 0, .slice none 0 0, .slice none 0 0] TT)) := by
  refine ⟨(by repeat (first | exact Below.refl _ _ | (with_reducible assumption) | refine bw_alloc ?_ _ | refine bw_drew ?_)), (new_first w _ _ _ 0).trans rfl, (new_first w _ _ _ 1).trans rfl, (new_first w _ _ _ 2).trans rfl, (new_first w _ _ _ 3).trans rfl, (new_first w _ _ _ 4).trans rfl, (new_first w _ _ _ 5).trans rfl, ?_⟩
  have := heap_alloc_new (w.alloc (.cells #[.int .i64 x.C, .int .i64 x.D, .int .i64 x.T, .int .i64 x.P, .int .i64 x.K, .slice x.a x.us.length x.c] T)) (.cells #[.int .i64 0, .int .i64 0, .int .i64 0, .int .i64 0, .int .i64 0, .slice none 0 0, .slice none 0 0] TT)
  rwa [World.size_alloc] at this

/-- A task that is being made, in a box of its own. -/
structure TaskAt (w : World) (x : NV) (g : Nat) (id c d t p : Int) (v1 : Value) (R1 : List Int) (v2 : Value) (R2 : List Int) (W : World) : Prop where
  num : NumAt w x W
  gl : w.heap.size + 1 < g
  box : W.heap[g]? = some (.cells #[.int .i64 id, .int .i64 c, .int .i64 d, .int .i64 t, .int .i64 p, v1, v2] TT (0, 0))
  own1 : OwnI W 2 (g + 1) v1 R1
  own2 : OwnI W 3 (g + 1) v2 R2
theorem TaskAt.below {w W W' : World} {x : NV} {g : Nat} {id c d t p : Int} {v1 v2 : Value} {R1 R2 : List Int} (h : TaskAt w x g id c d t p v1 R1 v2 R2 W) (hb : Below W.heap.size W W') : TaskAt w x g id c d t p v1 R1 v2 R2 W' :=
  ⟨h.num.below hb, h.gl, kept_obj hb h.box, h.own1.below hb, h.own2.below hb⟩
theorem OwnI.set {w : World} {e : TypeId} {B : Nat} {v : Value} {l : List Int} (h : OwnI w e B v l) {a : Addr} (ha : a.block < B) (u : Value) : OwnI (w.setCell a u) e B v l := ownsRow_setCell_below h ha u
theorem own_set7 {w : World} {e : TypeId} {B b : Nat} {v : Value} {l : List Int} (h : OwnI w e B v l) (hb : b < B) (x0 x1 x2 x3 x4 x5 x6 : Value) : OwnI ((((((((w.setCell ⟨b, 0, none⟩ x0).setCell ⟨b, 1, none⟩ x1).setCell ⟨b, 2, none⟩ x2).setCell ⟨b, 3, none⟩ x3).setCell ⟨b, 4, none⟩ x4).setCell ⟨b, 5, none⟩ x5).setCell ⟨b, 6, none⟩ x6)) e B v l := by
  have h0 := h.set (a := ⟨b, 0, none⟩) hb x0
  have h1 := h0.set (a := ⟨b, 1, none⟩) hb x1
  have h2 := h1.set (a := ⟨b, 2, none⟩) hb x2
  have h3 := h2.set (a := ⟨b, 3, none⟩) hb x3
  have h4 := h3.set (a := ⟨b, 4, none⟩) hb x4
  have h5 := h4.set (a := ⟨b, 5, none⟩) hb x5
  exact h5.set (a := ⟨b, 6, none⟩) hb x6
theorem below_set7 {W w : World} {B b : Nat} (h : Below B W w) (hb : B ≤ b) (x0 x1 x2 x3 x4 x5 x6 : Value) : Below B W ((((((((w.setCell ⟨b, 0, none⟩ x0).setCell ⟨b, 1, none⟩ x1).setCell ⟨b, 2, none⟩ x2).setCell ⟨b, 3, none⟩ x3).setCell ⟨b, 4, none⟩ x4).setCell ⟨b, 5, none⟩ x5).setCell ⟨b, 6, none⟩ x6)) := by
  have h0 := h.setCell (p := ⟨b, 0, none⟩) hb x0
  have h1 := h0.setCell (p := ⟨b, 1, none⟩) hb x1
  have h2 := h1.setCell (p := ⟨b, 2, none⟩) hb x2
  have h3 := h2.setCell (p := ⟨b, 3, none⟩) hb x3
  have h4 := h3.setCell (p := ⟨b, 4, none⟩) hb x4
  have h5 := h4.setCell (p := ⟨b, 5, none⟩) hb x5
  exact h5.setCell (p := ⟨b, 6, none⟩) hb x6
theorem NumAt.set {w W : World} {x : NV} (h : NumAt w x W) {g o : Nat} (hg : w.heap.size + 1 < g) (u : Value) : NumAt w x (W.setCell ⟨g, o, none⟩ u) :=
  h.belowB (B := g) hg ((Below.refl _ _).setCell (p := ⟨g, o, none⟩) (Nat.le_refl _) u)
theorem TaskAt.push1 {w W w3 : World} {x : NV} {g : Nat} {id c d t p : Int} {v1 v' : Value} {R1 R' : List Int} (h : TaskAt w x g id c d t p v1 R1 (.slice none 0 0) [] W) (hg : W.grownBy w3 v1.ownBlock) (ho : OwnI w3 2 (g + 1) v' R') :
    TaskAt w x g id c d t p v' R' (.slice none 0 0) [] (w3.setCell ⟨g, 5, none⟩ v') ∧ w3.cell? ⟨g, 5, none⟩ = some v1 ∧ w3.frozen? ⟨g, 5, none⟩ = false := by
  have hs : g + 1 ≤ W.heap.size := lt_of_block h.box
  have hb : Below (g + 1) W w3 := (Below.refl _ W).grown hg hs (fun k hk => (h.own1.new hk).1)
  have h3 := kept_objB hb (by omega) h.box
  exact ⟨⟨(h.num.belowB (by have := h.gl; omega) hb).set h.gl _, h.gl, (blk_set h3 _).trans rfl, ho.set (by simp) _, OwnI.nil _ _ _⟩, by rw [blk_cell h3]; rfl, blk_free h3 5⟩
theorem TaskAt.push2 {w W w3 : World} {x : NV} {g : Nat} {id c d t p : Int} {v1 v2 v' : Value} {R1 R2 R' : List Int} (h : TaskAt w x g id c d t p v1 R1 v2 R2 W) (hg : W.grownBy w3 v2.ownBlock) (ho : OwnI w3 3 (g + 1) v' R') :
    TaskAt w x g id c d t p v1 R1 v' R' (w3.setCell ⟨g, 6, none⟩ v') ∧ w3.cell? ⟨g, 6, none⟩ = some v2 ∧ w3.frozen? ⟨g, 6, none⟩ = false := by
  have hs : g + 1 ≤ W.heap.size := lt_of_block h.box
  have hb : Below (g + 1) W w3 := (Below.refl _ W).grown hg hs (fun k hk => (h.own2.new hk).1)
  have h3 := kept_objB hb (by omega) h.box
  have h1 : OwnI w3 2 (g + 1) v1 R1 := by
    rcases h.own1 with ⟨h0, q | ⟨k, cap, cur, e, hB, h3, r⟩⟩
    · exact ⟨h0, .inl q⟩
    · refine ⟨h0, .inr ⟨k, cap, cur, e, hB, ?_, r⟩⟩
      rw [hg.block k (lt_of_block h3) ?_]; exact h3
      intro z
      rcases h.own2 with ⟨_, q | ⟨k', cap', cur', e', hB', h3', _⟩⟩
      · rw [q.1] at z; cases z
      · rw [e'] at z
        simp [Value.ownBlock] at z
        subst z
        rw [h3] at h3'
        simp at h3'
  exact ⟨⟨(h.num.belowB (by have := h.gl; omega) hb).set h.gl _, h.gl, (blk_set h3 _).trans rfl, h1.set (by simp) _, ho.set (by simp) _⟩, by rw [blk_cell h3]; rfl, blk_free h3 6⟩
theorem taskAt_new {w W : World} {x : NV} {id c d t p : Int} (h : NumAt w x W) (hg : w.heap.size + 1 < W.heap.size) : TaskAt w x W.heap.size id c d t p (.slice none 0 0) [] (.slice none 0 0) [] (W.alloc (.cells #[.int .i64 id, .int .i64 c, .int .i64 d, .int .i64 t, .int .i64 p, .slice none 0 0, .slice none 0 0] TT)) :=
  ⟨h.below (by repeat (first | exact Below.refl _ _ | (with_reducible assumption) | refine bw_alloc ?_ _ | refine bw_drew ?_)), hg, heap_alloc_new W _, OwnI.nil _ _ _, OwnI.nil _ _ _⟩
/-- Chunks so far: from 1 on, of that sum. -/
def Chunks (R : List Int) (f : Int) : Prop := (∀ x ∈ R, 1 ≤ x) ∧ R.sum = f
theorem Chunks.push {R : List Int} {f k : Int} (h : Chunks R f) (hk : f < k) : Chunks (R ++ [k - f]) k := by
  refine ⟨fun x hx => ?_, ?_⟩
  · rcases List.mem_append.1 hx with q | q
    · exact h.1 x q
    · simp at q; omega
  · rw [List.sum_append, h.2]; simp; omega
theorem Chunks.len {R : List Int} {f : Int} (h : Chunks R f) (hf : 0 ≤ f) : (R.length : Int) ≤ f := fill_len R f hf (fill_sum R f h.1 h.2)
/-- The row lies in a block of numbers. -/
def IsI (w : World) (a : Option Addr) (l : List Int) : Prop := l = [] ∨ ∀ g o, a = some ⟨g, o, none⟩ → ∃ cs T fr, w.heap[g]? = some (.cells cs T fr) ∧ (T = 2 ∨ T = 3)
theorem IsI.below {w w' : World} {a : Option Addr} {l : List Int} (h : IsI w a l) (hb : Below w.heap.size w w') : IsI w' a l := by
  rcases h with h | h
  · exact .inl h
  · refine .inr fun g o e => ?_
    obtain ⟨cs, T, fr, h1, h2⟩ := h g o e
    exact ⟨cs, T, fr, kept_obj hb h1, h2⟩
theorem OwnI.isI {w : World} {e : TypeId} {B n c : Nat} {a : Option Addr} {l : List Int} (h : OwnI w e B (.slice a n c) l) (he : e = 2 ∨ e = 3) : IsI w a l := by
  rcases h.2 with ⟨h1, h0⟩ | ⟨g, cap, cur, h1, _, h3, _⟩
  · exact .inl (List.length_eq_zero_iff.1 h0)
  · refine .inr fun g' o e' => ?_
    cases h1; cases e'
    exact ⟨_, _, _, h3, he⟩
/-- The task that comes back. -/
def TaskBack (i sets : Int) (w : World) (e : Ending) (w' : World) : Prop :=
  ∃ y : TV, e = .returned (.agg #[.int .i64 y.id, .int .i64 y.c, .int .i64 y.d, .int .i64 y.t, .int .i64 y.p, .slice y.a1 y.ch.length y.c1, .slice y.a2 y.us.length y.c2]) ∧ y.ok w' ∧ Good i sets y ∧ Below w.heap.size w w' ∧ IsI w' y.a1 y.ch ∧ IsI w' y.a2 y.us

set_option maxRecDepth 100000 in
set_option maxHeartbeats 4000000 in
theorem task_any (x : NV) (i sets : Int) (hi : 0 ≤ i ∧ i < 6) (hs : 1 ≤ sets ∧ sets ≤ 8) (w : World) (hx : x.ok w) : Calls Try.prog 54 #[.agg #[.int .i64 x.C, .int .i64 x.D, .int .i64 x.T, .int .i64 x.P, .int .i64 x.K, .slice x.a x.us.length x.c], .int .i64 i, .int .i64 sets] w (TaskBack i sets w) := by
  have hz := zeroTask
  obtain ⟨j, hj, hj2⟩ := and7 x.T
  obtain ⟨t, ht, ht1, ht2⟩ := period j hj
  go_enter Try.func54, Try.ntmps54
  go_upto_region 1 with fail
  refine gen_world (NumAt w x) numAt_new ?_
  intro W1 hw1
  have H1 := Lib.hid hw1
  clear hw1
  go_upto_region 2 with fail
  have hcell : (W1.alloc (.cells #[.int .i64 4, .int .i64 5, .int .i64 6, .int .i64 8, .int .i64 10, .int .i64 12, .int .i64 20, .int .i64 24] 83)).cell? ⟨W1.heap.size, j, none⟩ = some (.int .i64 t) := by
    obtain ⟨g, o, e, h⟩ := (ints_block W1 [4, 5, 6, 8, 10, 12, 20, 24] 83).at_ ht
    cases e; rw [Nat.zero_add] at h; exact h
  refine gen_world (fun v => NumAt w x v ∧ v.cell? ⟨W1.heap.size, j, none⟩ = some (.int .i64 t)) ⟨H1.out.below (by repeat (first | exact Below.refl _ _ | (with_reducible assumption) | refine bw_alloc ?_ _ | refine bw_drew ?_)), hcell⟩ ?_
  intro W2 ⟨hw2, hcell2⟩
  clear hcell
  have H2 := Lib.hid hw2
  obtain ⟨_, c0, c1, c2, c3, c4, c5, _⟩ := hw2
  have hj1 : (j : Int) < 8 := by omega
  have hj0 : (0 : Int) ≤ (j : Int) := by omega
  have HT := Lib.hid ht
  clear ht
  obtain ⟨d, hd⟩ : ∃ d, restI x.D t = d := ⟨_, rfl⟩
  have R1 := Lib.hid (fun w => hd ▸ rest_any x.D t (by omega) (by omega) w)
  have hd0 : 0 ≤ d := by rw [← hd]; exact Int.emod_nonneg _ (by omega)
  have hd1 : d < t := by rw [← hd]; exact Int.emod_lt_of_pos _ (by omega)
  have hw1 : IntKind.i64.wrap (1 + d) = 1 + d := IntWalk.i64_in _ (by omega)
  obtain ⟨c, hc⟩ : ∃ c, restI x.C (1 + d) = c := ⟨_, rfl⟩
  have R2 := Lib.hid (fun w => hc ▸ rest_any x.C (1 + d) (by omega) (by omega) w)
  have hc0 : 0 ≤ c := by rw [← hc]; exact Int.emod_nonneg _ (by omega)
  have hc1 : c < 1 + d := by rw [← hc]; exact Int.emod_lt_of_pos _ (by omega)
  have hw2 : IntKind.i64.wrap (1 + c) = 1 + c := IntWalk.i64_in _ (by omega)
  obtain ⟨p, hp⟩ : ∃ p, restI x.P 9 = p := ⟨_, rfl⟩
  have R3 := Lib.hid (fun w => hp ▸ rest_any x.P 9 (by omega) (by omega) w)
  have hp0 : 0 ≤ p := by rw [← hp]; exact Int.emod_nonneg _ (by omega)
  have hp1 : p < 9 := by rw [← hp]; exact Int.emod_lt_of_pos _ (by omega)
  have hw3 : IntKind.i64.wrap (1 + p) = 1 + p := IntWalk.i64_in _ (by omega)
  have hw4 : IntKind.i64.wrap (10 * (1 + p)) = 10 * (1 + p) := IntWalk.i64_in _ (by omega)
  have hw5 : IntKind.i64.wrap (10 * (1 + p) + i) = 10 * (1 + p) + i := IntWalk.i64_in _ (by omega)
  have hw6 : IntKind.i64.wrap (i + 1) = i + 1 := IntWalk.i64_in _ (by omega)
  clear hd hc hp
  go_upto_region 6 with (first
    | (go_at_call 53; (with_reducible refine (R1.out _).mono ?_); rintro e w3 ⟨rfl, rfl⟩)
    | (go_at_call 53; (with_reducible refine (R2.out _).mono ?_); rintro e w3 ⟨rfl, rfl⟩)
    | (go_at_call 53; (with_reducible refine (R3.out _).mono ?_); rintro e w3 ⟨rfl, rfl⟩))
  have hgl0 : w.heap.size + 1 < W2.heap.size := lt_of_block H2.out.res
  refine gen_world (TaskAt w x W2.heap.size (i + 1) (1 + c) (1 + d) t (10 * (1 + p) + i) (.slice none 0 0) [] (.slice none 0 0) []) (taskAt_new H2.out hgl0) ?_
  intro W3 hw3s
  have H3 := Lib.hid hw3s
  have hp9 : (10 * (1 + p) + i - i) % 10 = 0 := by omega
  have hp10 : 10 ≤ 10 * (1 + p) + i := by omega
  have hp99 : 10 * (1 + p) + i ≤ 90 + i := by omega
  have HP9 := Lib.hid hp9
  have HM : Hid (∀ sx : Unit, IntKind.i64.wrap (i + 1) = i + 1) := fun _ => hw6
  have HX := Lib.hid hx
  have hcc : 1 ≤ 1 + c := by omega
  have hcd : 1 + c ≤ 1 + d := by omega
  have hdt : 1 + d ≤ t := by omega
  have HI : Hid (i + 1 = i + 1) := rfl
  clear hw3s hw1 hw2 hw3 hw4 hw5 hw6 hp9 HT hcell2 c0 c1 c2 c3 c4 c5 R1 R2 R3 hj0 hj1 hj2 hj hx hc0 hc1 hd0 hd1 hp0 hp1 H1 H2
  generalize 1 + c = C at *
  generalize 1 + d = D at *
  generalize 10 * (1 + p) + i = P at *
  generalize W2.heap.size = g at *
  clear hgl0
  go_wp2_with fail
  go_loopw [12, 13] (fun u v wr => ∃ (f k : Int) (v1 : Value) (R1 : List Int), 1 ≤ k ∧ k ≤ C ∧ 0 ≤ f ∧ f < k ∧ v = .int .i64 k ∧ u = .int .i64 f ∧ Hid (Chunks R1 f) ∧ Hid (TaskAt w x g (i + 1) C D t P v1 R1 (.slice none 0 0) [] wr)) (fun _ v _ => (C - intOf v).toNat)
  case atStart => exact ⟨0, 1, _, [], by omega, hcc, by omega, by omega, rfl, rfl, ⟨(fun x hx => by cases hx), rfl⟩, H3⟩
  case round =>
    obtain ⟨f, k, v1, R1, hk1, hkC, hf0, hfk, rfl, rfl, HC, HP⟩ := hrel
    clear H3
    have c4 := HP.out.num.c4
    have b5 : wr.cell? ⟨g, 5, none⟩ = some v1 := by rw [blk_cell HP.out.box]; rfl
    have hgw : g < wr.heap.size := lt_of_block HP.out.box
    by_cases hlt : k < C
    · have hu : IntKind.u64.wrap k = k := by rw [IntKind.wrap_u64]; omega
      have hk24 : k ≤ 64 := by omega
      have hk0 : 0 ≤ k := by omega
      have hku : k ≤ 18446744073709551615 := by omega
      obtain ⟨q, hq⟩ : ∃ q, bits .and .i64 (x.K / 2 ^ k.toNat) 1 = q := ⟨_, rfl⟩
      by_cases hq1 : q = 1
      · obtain ⟨a5, cp5, rfl, _⟩ := HP.out.own1.slice
        have HLN := Lib.hid (HC.out.len hf0)
        have HSM : Hid (((R1.length : Int) + ((1 : Nat) : Int)) ≤ 17592186044416) := by show _ ≤ _; have := HLN.out; omega
        have HSZ : Hid (g + 1 ≤ (wr.alloc (.cells #[.int .i64 (k - f)] 2)).heap.size) := by show _ ≤ _; rw [World.size_alloc]; omega
        have HW : Hid (IntKind.i64.wrap (k - f) = k - f) := IntWalk.i64_in _ (by omega)
        have HC2 := Lib.hid (HC.out.push hfk)
        have d1 : (q == 1) = true := by rw [beq_iff_eq]; exact hq1
        have hkk : k < k + 1 := by omega
        have hk2 : k + 1 ≤ C := by omega
        have hk3 : 1 ≤ k + 1 := by omega
        have HMS : Hid ((C - (k + 1)).toNat < (C - k).toNat) := by show _ < _; omega
        have HW1 : Hid (IntKind.i64.wrap (k + 1) = k + 1) := IntWalk.i64_in _ (by omega)
        clear hq1
        have hw := HW.out
        have hw1 := HW1.out
        go_wp2_with (at_builtin; refine wp_ints (m := 1) (l := [k - f]) numL rfl _ _ rfl rfl rfl (HP.out.below (by repeat (first | exact Below.refl _ _ | (with_reducible assumption) | refine bw_alloc ?_ _ | refine bw_drew ?_))).own1 HSZ.out (ints_new _ _ _) rfl HSM.out (fun z => by cases z) (R1.length + 1) rfl ?_; intro a3 k3 w3 o3 g3 l3; obtain ⟨hn, z1, z2⟩ := (HP.out.below (by repeat (first | exact Below.refl _ _ | (with_reducible assumption) | refine bw_alloc ?_ _ | refine bw_drew ?_))).push1 g3 o3; have HN := Lib.hid hn; clear hn o3 g3 l3)
        go_roundw
        case rel => exact ⟨k, k + 1, _, R1 ++ [k - f], hk3, hk2, hk0, hkk, by first | rfl | (rw [hw1]), rfl, HC2, HN⟩
        case measure => simp only [intOf]; exact HMS.out
      · have d1 : (q == 1) = false := by rw [beq_eq_false_iff_ne]; exact hq1
        have hfk2 : f < k + 1 := by omega
        have hk2 : k + 1 ≤ C := by omega
        have hk3 : 1 ≤ k + 1 := by omega
        have HMS : Hid ((C - (k + 1)).toNat < (C - k).toNat) := by show _ < _; omega
        have HW1 : Hid (IntKind.i64.wrap (k + 1) = k + 1) := IntWalk.i64_in _ (by omega)
        clear hq1
        have hw1 := HW1.out
        go_wp2_with fail
        go_roundw
        case rel => exact ⟨f, k + 1, _, R1, hk3, hk2, hf0, hfk2, by first | rfl | (rw [hw1]), rfl, HC, HP⟩
        case measure => simp only [intOf]; exact HMS.out
    · go_upto_region 13 with fail
      obtain rfl : C = k := by omega
      by_cases hf : 0 < f
      · obtain ⟨a5, cp5, rfl, _⟩ := HP.out.own1.slice
        have HLN := Lib.hid (HC.out.len hf0)
        have HSM : Hid (((R1.length : Int) + ((1 : Nat) : Int)) ≤ 17592186044416) := by show _ ≤ _; have := HLN.out; omega
        have HSZ : Hid (g + 1 ≤ (wr.alloc (.cells #[.int .i64 (C - f)] 2)).heap.size) := by show _ ≤ _; rw [World.size_alloc]; omega
        have HW : Hid (IntKind.i64.wrap (C - f) = C - f) := IntWalk.i64_in _ (by omega)
        have HC2 := Lib.hid (HC.out.push hfk)
        have hw := HW.out
        go_upto_region 16 with (at_builtin; refine wp_ints (m := 1) (l := [C - f]) numL rfl _ _ rfl rfl rfl (HP.out.below (by repeat (first | exact Below.refl _ _ | (with_reducible assumption) | refine bw_alloc ?_ _ | refine bw_drew ?_))).own1 HSZ.out (ints_new _ _ _) rfl HSM.out (fun z => by cases z) (R1.length + 1) rfl ?_; intro a3 k3 w3 o3 g3 l3; obtain ⟨hn, z1, z2⟩ := (HP.out.below (by repeat (first | exact Below.refl _ _ | (with_reducible assumption) | refine bw_alloc ?_ _ | refine bw_drew ?_))).push1 g3 o3; have HQ := Lib.hid hn; clear hn o3 g3 l3)
        have HCH : Hid (R1 ++ [C - f] = [] ∨ fillB (R1 ++ [C - f]) C = true) := .inr (fill_sum _ _ HC2.out.1 HC2.out.2)
        clear HP HC HC2 HLN HSM HSZ hw HW b5 c4 z1 z2
        generalize R1 ++ [C - f] = R1 at *
        generalize Value.slice a3 _ k3 = v1 at *
        obtain ⟨m, hm⟩ : ∃ m, m = min x.us.length 5 := ⟨_, rfl⟩
        have hm1 : m ≤ x.us.length := by omega
        have hm5 : m ≤ 5 := by omega
        have hor : m = x.us.length ∨ (m = 5 ∧ 5 < x.us.length) := by omega
        have hul : (x.us.length : Int) ≤ 9223372036854775807 := by have := HX.out.le; have := HX.out.small; omega
        have HOR := Lib.hid hor
        clear hm hor
        go_loopw [14] (fun u wr => ∃ (k : Nat) (v2 : Value) (R2 : List Int), k ≤ m ∧ u = .int .i64 k ∧ Hid (R2.length = k) ∧ Hid (∀ u ∈ R2, 0 ≤ u ∧ u < sets) ∧ Hid (TaskAt w x g (i + 1) C D t P v1 R1 v2 R2 wr)) (fun u _ => (m - intOf u).toNat)
        case atStart => exact ⟨0, _, [], by omega, rfl, rfl, (fun u hu => by cases hu), HQ⟩
        case round =>
          obtain ⟨k, v2, R2, hk, rfl, HR2, HU, HP⟩ := hrel
          clear HQ
          have c5 := HP.out.num.c5
          have b6 : wr.cell? ⟨g, 6, none⟩ = some v2 := by rw [blk_cell HP.out.box]; rfl
          have hgw : g < wr.heap.size := lt_of_block HP.out.box
          by_cases hlt : k < m
          · obtain ⟨u, hu⟩ := nth_of (rfl : x.us.length = x.us.length) (show k < x.us.length by omega)
            obtain ⟨g', o', ea, z0⟩ := (HX.out.row.below HP.out.num.low).at_ hu
            have hk1 : (k : Int) < (x.us.length : Int) := by omega
            have hk5 : (k : Int) < 5 := by omega
            have hk0 : (0 : Int) ≤ (k : Int) := by omega
            obtain ⟨r, hr⟩ : ∃ r, restI u sets = r := ⟨_, rfl⟩
            have R4 := Lib.hid (fun w => hr ▸ rest_any u sets (by omega) (by omega) w)
            have HRR : Hid (0 ≤ r ∧ r < sets) := by
              show _ ∧ _
              rw [← hr]; exact ⟨Int.emod_nonneg _ (by omega), Int.emod_lt_of_pos _ (by omega)⟩
            rw [ea] at c5
            obtain ⟨a6, cp6, rfl, _⟩ := HP.out.own2.slice
            rw [HR2.out] at b6
            have HPK : Hid (TaskAt w x g (i + 1) C D t P v1 R1 (.slice a6 k cp6) R2 wr) := by
              have := HP.out; rw [HR2.out] at this; exact this
            have HSM : Hid (((R2.length : Int) + ((1 : Nat) : Int)) ≤ 17592186044416) := by show _ ≤ _; have := HR2.out; omega
            have HSZ : Hid (g + 1 ≤ wr.heap.size) := hgw
            have HNN : Hid (R2.length + 1 = k + 1) := by show _ = _; rw [HR2.out]
            have HU2 : Hid (∀ u ∈ R2 ++ [r], 0 ≤ u ∧ u < sets) := fun u hu => by
              rcases List.mem_append.1 hu with q | q
              · exact HU.out u q
              · simp at q; rw [q]; exact HRR.out
            have HL2 : Hid ((R2 ++ [r]).length = k + 1) := by show _ = _; rw [List.length_append, HR2.out]; rfl
            clear hr hu HP HU ea
            go_upto_region 18 with fail
            go_region_law (first
              | (refine step_ints (m := 1) (l := [r]) numI rfl (.tmp 87) (.tmp 95) rfl (by rfl) (by rfl) (HPK.out.below (by repeat (first | exact Below.refl _ _ | (with_reducible assumption) | refine bw_alloc ?_ _ | refine bw_drew ?_))).own2 (Nat.le_trans HSZ.out ((by repeat (first | exact Below.refl _ _ | (with_reducible assumption) | refine bw_alloc ?_ _ | refine bw_drew ?_)) : Below wr.heap.size wr _).size) (by first | exact ints_new _ _ _ | exact (ints_new _ _ _).below (by repeat (first | exact Below.refl _ _ | (with_reducible assumption) | refine bw_alloc ?_ _ | refine bw_drew ?_))) rfl HSM.out (fun z => by cases z) (k + 1) HNN.out ?_
                 intro a3 k3 w3 o3 g3 l3
                 obtain ⟨hn, z1, z2⟩ := (HPK.out.below (by repeat (first | exact Below.refl _ _ | (with_reducible assumption) | refine bw_alloc ?_ _ | refine bw_drew ?_))).push2 g3 o3
                 have HN := Lib.hid hn
                 clear hn o3 g3 l3)
              | (go_simp; (with_reducible refine (R4.out _).mono ?_); rintro e w3 ⟨rfl, rfl⟩))
            all_goals
              go_wp2
              go_roundw
              case rel => exact ⟨k + 1, _, R2 ++ [r], by omega, by go_num, HL2, HU2, HN⟩
              case measure => simp [intOf]; omega
          · obtain rfl : m = k := by omega
            obtain ⟨a5, cp5, rfl, i5, l5, m5⟩ := HP.out.own1.slice
            obtain ⟨a6, cp6, rfl, i6, l6, m6⟩ := HP.out.own2.slice
            have HFIN : Hid (∀ x0 x1 x2 x3 x4 x5 x6, TaskBack i sets w (.returned (.agg #[.int .i64 (i + 1), .int .i64 C, .int .i64 D, .int .i64 t, .int .i64 P, .slice a5 R1.length cp5, .slice a6 R2.length cp6])) ((((((((wr.setCell ⟨w.heap.size + 1, 0, none⟩ x0).setCell ⟨w.heap.size + 1, 1, none⟩ x1).setCell ⟨w.heap.size + 1, 2, none⟩ x2).setCell ⟨w.heap.size + 1, 3, none⟩ x3).setCell ⟨w.heap.size + 1, 4, none⟩ x4).setCell ⟨w.heap.size + 1, 5, none⟩ x5).setCell ⟨w.heap.size + 1, 6, none⟩ x6))) := by
              intro x0 x1 x2 x3 x4 x5 x6
              have hlow := HP.out.num.low
              have hb : Below w.heap.size w ((((((((wr.setCell ⟨w.heap.size + 1, 0, none⟩ x0).setCell ⟨w.heap.size + 1, 1, none⟩ x1).setCell ⟨w.heap.size + 1, 2, none⟩ x2).setCell ⟨w.heap.size + 1, 3, none⟩ x3).setCell ⟨w.heap.size + 1, 4, none⟩ x4).setCell ⟨w.heap.size + 1, 5, none⟩ x5).setCell ⟨w.heap.size + 1, 6, none⟩ x6)) := below_set7 hlow (Nat.le_succ _) x0 x1 x2 x3 x4 x5 x6
              have hg9 := HP.out.gl
              have o1 : OwnI ((((((((wr.setCell ⟨w.heap.size + 1, 0, none⟩ x0).setCell ⟨w.heap.size + 1, 1, none⟩ x1).setCell ⟨w.heap.size + 1, 2, none⟩ x2).setCell ⟨w.heap.size + 1, 3, none⟩ x3).setCell ⟨w.heap.size + 1, 4, none⟩ x4).setCell ⟨w.heap.size + 1, 5, none⟩ x5).setCell ⟨w.heap.size + 1, 6, none⟩ x6)) 2 (g + 1) (.slice a5 R1.length cp5) R1 := own_set7 HP.out.own1 (Nat.lt_succ_of_lt hg9) x0 x1 x2 x3 x4 x5 x6
              have o2 : OwnI ((((((((wr.setCell ⟨w.heap.size + 1, 0, none⟩ x0).setCell ⟨w.heap.size + 1, 1, none⟩ x1).setCell ⟨w.heap.size + 1, 2, none⟩ x2).setCell ⟨w.heap.size + 1, 3, none⟩ x3).setCell ⟨w.heap.size + 1, 4, none⟩ x4).setCell ⟨w.heap.size + 1, 5, none⟩ x5).setCell ⟨w.heap.size + 1, 6, none⟩ x6)) 3 (g + 1) (.slice a6 R2.length cp6) R2 := own_set7 HP.out.own2 (Nat.lt_succ_of_lt hg9) x0 x1 x2 x3 x4 x5 x6
              obtain ⟨a5', cp5', e5, i5, l5, m5⟩ := o1.slice
              cases e5
              obtain ⟨a6', cp6', e6, i6, l6, m6⟩ := o2.slice
              cases e6
              exact ⟨⟨i + 1, C, D, t, P, a5, R1, cp5, a6, R2, cp6⟩, rfl, ⟨i5, i6, l5, m5, l6, m6⟩, ⟨rfl, hcc, hcd, hdt, ht2, hp10, hp99, HP9.out, HCH.out, HU.out, by have := HR2.out; show R2.length ≤ 5; omega⟩, hb, o1.isI (.inl rfl), o2.isI (.inr rfl)⟩
            have hr1 : w.heap.size + 1 < wr.heap.size := lt_of_block HP.out.num.res
            have b0 : wr.cell? ⟨g, 0, none⟩ = some (.int .i64 (i + 1)) := by rw [blk_cell HP.out.box]; rfl
            have b1 : wr.cell? ⟨g, 1, none⟩ = some (.int .i64 C) := by rw [blk_cell HP.out.box]; rfl
            have b2 : wr.cell? ⟨g, 2, none⟩ = some (.int .i64 D) := by rw [blk_cell HP.out.box]; rfl
            have b3 : wr.cell? ⟨g, 3, none⟩ = some (.int .i64 t) := by rw [blk_cell HP.out.box]; rfl
            have b4 : wr.cell? ⟨g, 4, none⟩ = some (.int .i64 P) := by rw [blk_cell HP.out.box]; rfl
            have b5 : wr.cell? ⟨g, 5, none⟩ = some (.slice a5 R1.length cp5) := by rw [blk_cell HP.out.box]; rfl
            have r0 : wr.cell? ⟨w.heap.size + 1, 0, none⟩ = some (.int .i64 0) := by rw [blk_cell HP.out.num.res]; rfl
            have r1 : wr.cell? ⟨w.heap.size + 1, 1, none⟩ = some (.int .i64 0) := by rw [blk_cell HP.out.num.res]; rfl
            have r2 : wr.cell? ⟨w.heap.size + 1, 2, none⟩ = some (.int .i64 0) := by rw [blk_cell HP.out.num.res]; rfl
            have r3 : wr.cell? ⟨w.heap.size + 1, 3, none⟩ = some (.int .i64 0) := by rw [blk_cell HP.out.num.res]; rfl
            have r4 : wr.cell? ⟨w.heap.size + 1, 4, none⟩ = some (.int .i64 0) := by rw [blk_cell HP.out.num.res]; rfl
            have r5 : wr.cell? ⟨w.heap.size + 1, 5, none⟩ = some (.slice none 0 0) := by rw [blk_cell HP.out.num.res]; rfl
            have r6 : wr.cell? ⟨w.heap.size + 1, 6, none⟩ = some (.slice none 0 0) := by rw [blk_cell HP.out.num.res]; rfl
            have f0 := blk_free HP.out.num.res 0
            have f1 := blk_free HP.out.num.res 1
            have f2 := blk_free HP.out.num.res 2
            have f3 := blk_free HP.out.num.res 3
            have f4 := blk_free HP.out.num.res 4
            have f5 := blk_free HP.out.num.res 5
            have f6 := blk_free HP.out.num.res 6
            have q1 : ¬ ((m : Int) < (x.us.length : Int)) ∨ ((m : Int) < (x.us.length : Int) ∧ ¬ ((m : Int) < 5)) := by
              rcases HOR.out with h | ⟨h1, h2⟩
              · left; omega
              · right; omega
            clear HCH HU
            rcases q1 with q1 | ⟨q1, q2⟩
            all_goals
              go_wp2_with fail
              exact bodyPost_ret (v := .agg #[.int .i64 (i + 1), .int .i64 C, .int .i64 D, .int .i64 t, .int .i64 P, .slice a5 R1.length cp5, .slice a6 R2.length cp6]) (by simp [results, Try.results54, go_sem, r0, r1, r2, r3, r4, r5, r6]) rfl (HFIN.out _ _ _ _ _ _ _)
      · obtain rfl : f = 0 := by omega
        have HCH : Hid (R1 = [] ∨ fillB R1 C = true) := .inl (List.length_eq_zero_iff.1 (by have := HC.out.len (Int.le_refl 0); omega))
        have HQ := HP
        go_upto_region 16 with fail
        clear HP HC b5 c4
        obtain ⟨m, hm⟩ : ∃ m, m = min x.us.length 5 := ⟨_, rfl⟩
        have hm1 : m ≤ x.us.length := by omega
        have hm5 : m ≤ 5 := by omega
        have hor : m = x.us.length ∨ (m = 5 ∧ 5 < x.us.length) := by omega
        have hul : (x.us.length : Int) ≤ 9223372036854775807 := by have := HX.out.le; have := HX.out.small; omega
        have HOR := Lib.hid hor
        clear hm hor
        go_loopw [14] (fun u wr => ∃ (k : Nat) (v2 : Value) (R2 : List Int), k ≤ m ∧ u = .int .i64 k ∧ Hid (R2.length = k) ∧ Hid (∀ u ∈ R2, 0 ≤ u ∧ u < sets) ∧ Hid (TaskAt w x g (i + 1) C D t P v1 R1 v2 R2 wr)) (fun u _ => (m - intOf u).toNat)
        case atStart => exact ⟨0, _, [], by omega, rfl, rfl, (fun u hu => by cases hu), HQ⟩
        case round =>
          obtain ⟨k, v2, R2, hk, rfl, HR2, HU, HP⟩ := hrel
          clear HQ
          have c5 := HP.out.num.c5
          have b6 : wr.cell? ⟨g, 6, none⟩ = some v2 := by rw [blk_cell HP.out.box]; rfl
          have hgw : g < wr.heap.size := lt_of_block HP.out.box
          by_cases hlt : k < m
          · obtain ⟨u, hu⟩ := nth_of (rfl : x.us.length = x.us.length) (show k < x.us.length by omega)
            obtain ⟨g', o', ea, z0⟩ := (HX.out.row.below HP.out.num.low).at_ hu
            have hk1 : (k : Int) < (x.us.length : Int) := by omega
            have hk5 : (k : Int) < 5 := by omega
            have hk0 : (0 : Int) ≤ (k : Int) := by omega
            obtain ⟨r, hr⟩ : ∃ r, restI u sets = r := ⟨_, rfl⟩
            have R4 := Lib.hid (fun w => hr ▸ rest_any u sets (by omega) (by omega) w)
            have HRR : Hid (0 ≤ r ∧ r < sets) := by
              show _ ∧ _
              rw [← hr]; exact ⟨Int.emod_nonneg _ (by omega), Int.emod_lt_of_pos _ (by omega)⟩
            rw [ea] at c5
            obtain ⟨a6, cp6, rfl, _⟩ := HP.out.own2.slice
            rw [HR2.out] at b6
            have HPK : Hid (TaskAt w x g (i + 1) C D t P v1 R1 (.slice a6 k cp6) R2 wr) := by
              have := HP.out; rw [HR2.out] at this; exact this
            have HSM : Hid (((R2.length : Int) + ((1 : Nat) : Int)) ≤ 17592186044416) := by show _ ≤ _; have := HR2.out; omega
            have HSZ : Hid (g + 1 ≤ wr.heap.size) := hgw
            have HNN : Hid (R2.length + 1 = k + 1) := by show _ = _; rw [HR2.out]
            have HU2 : Hid (∀ u ∈ R2 ++ [r], 0 ≤ u ∧ u < sets) := fun u hu => by
              rcases List.mem_append.1 hu with q | q
              · exact HU.out u q
              · simp at q; rw [q]; exact HRR.out
            have HL2 : Hid ((R2 ++ [r]).length = k + 1) := by show _ = _; rw [List.length_append, HR2.out]; rfl
            clear hr hu HP HU ea
            go_upto_region 18 with fail
            go_region_law (first
              | (refine step_ints (m := 1) (l := [r]) numI rfl (.tmp 87) (.tmp 95) rfl (by rfl) (by rfl) (HPK.out.below (by repeat (first | exact Below.refl _ _ | (with_reducible assumption) | refine bw_alloc ?_ _ | refine bw_drew ?_))).own2 (Nat.le_trans HSZ.out ((by repeat (first | exact Below.refl _ _ | (with_reducible assumption) | refine bw_alloc ?_ _ | refine bw_drew ?_)) : Below wr.heap.size wr _).size) (by first | exact ints_new _ _ _ | exact (ints_new _ _ _).below (by repeat (first | exact Below.refl _ _ | (with_reducible assumption) | refine bw_alloc ?_ _ | refine bw_drew ?_))) rfl HSM.out (fun z => by cases z) (k + 1) HNN.out ?_
                 intro a3 k3 w3 o3 g3 l3
                 obtain ⟨hn, z1, z2⟩ := (HPK.out.below (by repeat (first | exact Below.refl _ _ | (with_reducible assumption) | refine bw_alloc ?_ _ | refine bw_drew ?_))).push2 g3 o3
                 have HN := Lib.hid hn
                 clear hn o3 g3 l3)
              | (go_simp; (with_reducible refine (R4.out _).mono ?_); rintro e w3 ⟨rfl, rfl⟩))
            all_goals
              go_wp2
              go_roundw
              case rel => exact ⟨k + 1, _, R2 ++ [r], by omega, by go_num, HL2, HU2, HN⟩
              case measure => simp [intOf]; omega
          · obtain rfl : m = k := by omega
            obtain ⟨a5, cp5, rfl, i5, l5, m5⟩ := HP.out.own1.slice
            obtain ⟨a6, cp6, rfl, i6, l6, m6⟩ := HP.out.own2.slice
            have HFIN : Hid (∀ x0 x1 x2 x3 x4 x5 x6, TaskBack i sets w (.returned (.agg #[.int .i64 (i + 1), .int .i64 C, .int .i64 D, .int .i64 t, .int .i64 P, .slice a5 R1.length cp5, .slice a6 R2.length cp6])) ((((((((wr.setCell ⟨w.heap.size + 1, 0, none⟩ x0).setCell ⟨w.heap.size + 1, 1, none⟩ x1).setCell ⟨w.heap.size + 1, 2, none⟩ x2).setCell ⟨w.heap.size + 1, 3, none⟩ x3).setCell ⟨w.heap.size + 1, 4, none⟩ x4).setCell ⟨w.heap.size + 1, 5, none⟩ x5).setCell ⟨w.heap.size + 1, 6, none⟩ x6))) := by
              intro x0 x1 x2 x3 x4 x5 x6
              have hlow := HP.out.num.low
              have hb : Below w.heap.size w ((((((((wr.setCell ⟨w.heap.size + 1, 0, none⟩ x0).setCell ⟨w.heap.size + 1, 1, none⟩ x1).setCell ⟨w.heap.size + 1, 2, none⟩ x2).setCell ⟨w.heap.size + 1, 3, none⟩ x3).setCell ⟨w.heap.size + 1, 4, none⟩ x4).setCell ⟨w.heap.size + 1, 5, none⟩ x5).setCell ⟨w.heap.size + 1, 6, none⟩ x6)) := below_set7 hlow (Nat.le_succ _) x0 x1 x2 x3 x4 x5 x6
              have hg9 := HP.out.gl
              have o1 : OwnI ((((((((wr.setCell ⟨w.heap.size + 1, 0, none⟩ x0).setCell ⟨w.heap.size + 1, 1, none⟩ x1).setCell ⟨w.heap.size + 1, 2, none⟩ x2).setCell ⟨w.heap.size + 1, 3, none⟩ x3).setCell ⟨w.heap.size + 1, 4, none⟩ x4).setCell ⟨w.heap.size + 1, 5, none⟩ x5).setCell ⟨w.heap.size + 1, 6, none⟩ x6)) 2 (g + 1) (.slice a5 R1.length cp5) R1 := own_set7 HP.out.own1 (Nat.lt_succ_of_lt hg9) x0 x1 x2 x3 x4 x5 x6
              have o2 : OwnI ((((((((wr.setCell ⟨w.heap.size + 1, 0, none⟩ x0).setCell ⟨w.heap.size + 1, 1, none⟩ x1).setCell ⟨w.heap.size + 1, 2, none⟩ x2).setCell ⟨w.heap.size + 1, 3, none⟩ x3).setCell ⟨w.heap.size + 1, 4, none⟩ x4).setCell ⟨w.heap.size + 1, 5, none⟩ x5).setCell ⟨w.heap.size + 1, 6, none⟩ x6)) 3 (g + 1) (.slice a6 R2.length cp6) R2 := own_set7 HP.out.own2 (Nat.lt_succ_of_lt hg9) x0 x1 x2 x3 x4 x5 x6
              obtain ⟨a5', cp5', e5, i5, l5, m5⟩ := o1.slice
              cases e5
              obtain ⟨a6', cp6', e6, i6, l6, m6⟩ := o2.slice
              cases e6
              exact ⟨⟨i + 1, C, D, t, P, a5, R1, cp5, a6, R2, cp6⟩, rfl, ⟨i5, i6, l5, m5, l6, m6⟩, ⟨rfl, hcc, hcd, hdt, ht2, hp10, hp99, HP9.out, HCH.out, HU.out, by have := HR2.out; show R2.length ≤ 5; omega⟩, hb, o1.isI (.inl rfl), o2.isI (.inr rfl)⟩
            have hr1 : w.heap.size + 1 < wr.heap.size := lt_of_block HP.out.num.res
            have b0 : wr.cell? ⟨g, 0, none⟩ = some (.int .i64 (i + 1)) := by rw [blk_cell HP.out.box]; rfl
            have b1 : wr.cell? ⟨g, 1, none⟩ = some (.int .i64 C) := by rw [blk_cell HP.out.box]; rfl
            have b2 : wr.cell? ⟨g, 2, none⟩ = some (.int .i64 D) := by rw [blk_cell HP.out.box]; rfl
            have b3 : wr.cell? ⟨g, 3, none⟩ = some (.int .i64 t) := by rw [blk_cell HP.out.box]; rfl
            have b4 : wr.cell? ⟨g, 4, none⟩ = some (.int .i64 P) := by rw [blk_cell HP.out.box]; rfl
            have b5 : wr.cell? ⟨g, 5, none⟩ = some (.slice a5 R1.length cp5) := by rw [blk_cell HP.out.box]; rfl
            have r0 : wr.cell? ⟨w.heap.size + 1, 0, none⟩ = some (.int .i64 0) := by rw [blk_cell HP.out.num.res]; rfl
            have r1 : wr.cell? ⟨w.heap.size + 1, 1, none⟩ = some (.int .i64 0) := by rw [blk_cell HP.out.num.res]; rfl
            have r2 : wr.cell? ⟨w.heap.size + 1, 2, none⟩ = some (.int .i64 0) := by rw [blk_cell HP.out.num.res]; rfl
            have r3 : wr.cell? ⟨w.heap.size + 1, 3, none⟩ = some (.int .i64 0) := by rw [blk_cell HP.out.num.res]; rfl
            have r4 : wr.cell? ⟨w.heap.size + 1, 4, none⟩ = some (.int .i64 0) := by rw [blk_cell HP.out.num.res]; rfl
            have r5 : wr.cell? ⟨w.heap.size + 1, 5, none⟩ = some (.slice none 0 0) := by rw [blk_cell HP.out.num.res]; rfl
            have r6 : wr.cell? ⟨w.heap.size + 1, 6, none⟩ = some (.slice none 0 0) := by rw [blk_cell HP.out.num.res]; rfl
            have f0 := blk_free HP.out.num.res 0
            have f1 := blk_free HP.out.num.res 1
            have f2 := blk_free HP.out.num.res 2
            have f3 := blk_free HP.out.num.res 3
            have f4 := blk_free HP.out.num.res 4
            have f5 := blk_free HP.out.num.res 5
            have f6 := blk_free HP.out.num.res 6
            have q1 : ¬ ((m : Int) < (x.us.length : Int)) ∨ ((m : Int) < (x.us.length : Int) ∧ ¬ ((m : Int) < 5)) := by
              rcases HOR.out with h | ⟨h1, h2⟩
              · left; omega
              · right; omega
            clear HCH HU
            rcases q1 with q1 | ⟨q1, q2⟩
            all_goals
              go_wp2_with fail
              exact bodyPost_ret (v := .agg #[.int .i64 (i + 1), .int .i64 C, .int .i64 D, .int .i64 t, .int .i64 P, .slice a5 R1.length cp5, .slice a6 R2.length cp6]) (by simp [results, Try.results54, go_sem, r0, r1, r2, r3, r4, r5, r6]) rfl (HFIN.out _ _ _ _ _ _ _)
end Go.Proofs.Ytknjldmpcokgfaa
