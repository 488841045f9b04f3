/-
  The walks over the document's own box: a request put, a request taken.
-/
import Derived.Test.YtkcdblpaaldcaaaQRef1
namespace Go.Proofs.Ytkcdblpaaldcaaa
open Go.RowKit Go.Maps Go.Conc

theorem AsksB.weaken {w : World} {B B' : Nat} {v : Value} {l : List Req} (h : AsksB w B' v l) (hB : B ≤ B') : AsksB w B v l := by
  rcases h with ⟨h0, h | ⟨g, cap, cur, rfl, hB', h3, h1, h2, h4, h5⟩⟩
  · exact ⟨h0, .inl h⟩
  · exact ⟨h0, .inr ⟨g, cap, cur, rfl, Nat.le_trans hB hB', h3, h1, h2, h4, h5⟩⟩
theorem View.drew {w : World} {a : Option Addr} {l : List Req} (h : View w a l) : View w.drew a l := h.below (Below.refl _ _).drew
theorem turn_row {w w1 w3 : World} {v : Value} (hb : Below w.heap.size w w1) (_ : ∀ k, v.ownBlock = some k → k < w.heap.size) (hg : w1.grownBy w3 v.ownBlock) : Turn (fun k => v.ownBlock = some k) w w3 :=
  (Turn.of_below hb).then (Turn.grown (Turn.refl _ w1) hg (fun _ hj _ => hj))

set_option maxRecDepth 100000 in
set_option maxHeartbeats 2000000 in
theorem rput_go {w : World} {rb n B : Nat} {q : List Req} {v : Value} (x y : Int) (h : Rf w rb n q false v B) (hB : B ≤ w.heap.size) (hq : q.length < n) :
    Calls Try.prog 20 #[.pointer (some ⟨rb, 0, none⟩), .agg #[.int .i64 x, .int .i64 y]] w fun r w' => r = .returned (.bool true) ∧ RStep w rb n (q ++ [(x, y)]) false v B w' := by
  obtain ⟨a, cap, rfl, _⟩ := h.row.asks.slice
  have HH := Lib.hid h
  have hq1 : (q.length : Int) < (n : Int) := by omega
  have hq2 := h.few
  obtain ⟨w1, hw1⟩ : ∃ w1, w1 = w.alloc (.cells #[.int .i64 x, .int .i64 y] 31) := ⟨_, rfl⟩
  have HB1 : Hid (Below w.heap.size w w1) := by subst hw1; exact (Below.refl _ _).alloc (Nat.le_refl _) _
  have n0 : w1.cell? ⟨w.heap.size, 0, none⟩ = some (.int .i64 x) := by subst hw1; rw [World.cell?_alloc_new]; rfl
  have n1 : w1.cell? ⟨w.heap.size, 1, none⟩ = some (.int .i64 y) := by subst hw1; rw [World.cell?_alloc_new]; rfl
  have h1 := h.below HB1.out
  obtain ⟨c0, c1, c2⟩ := h1.cells
  have HQ := Lib.hid hq
  clear h h1 hq
  go_enter Try.func20, Try.ntmps20
  go_upto_region 1 with (fail)
  rw [← hw1]
  clear hw1
  go_quiet (fail)
  go_upto_region 3 with (fail)
  refine gen_world (fun wq => Below w.heap.size w wq ∧ wq.cell? ⟨w.heap.size, 0, none⟩ = some (.int .i64 x) ∧ wq.cell? ⟨w.heap.size, 1, none⟩ = some (.int .i64 y)) ⟨below_same HB1.out rfl rfl rfl rfl, n0, n1⟩ ?_
  clear n0 n1 c0 c1 c2 HB1
  rintro wq ⟨hb, n0, n1⟩
  have HBq := Lib.hid hb
  have HR := Lib.hid (HH.out.below hb)
  obtain ⟨c0, c1, c2⟩ := HR.out.cells
  clear hb
  have hrl := HR.out.lt
  have hwl : w.heap.size < wq.heap.size := block_of_cell n0
  go_region_law (refine step_append (m := 1) (B := B) (v := .slice a q.length cap) (q := q) (l := [(x, y)]) rfl (.tmp 25) (.tmp 27) rfl (by rfl) (by rfl) (by repeat (first | exact HR.out.row | refine AsksB.drew ?_ | refine AsksB.alloc ?_ _)) (by simp; omega) (by first | exact one_view _ (x, y) | exact (one_view _ (x, y)).drew) rfl (by have := HQ.out; omega) (fun z => by cases z) (q.length + 1) rfl ?_
                 intro a' cp' w3 o3 g3 l3
                 obtain ⟨hst, s1, s2⟩ := rlay HH.out (turn_row (by first | exact (HBq.out.drew.alloc HBq.out.size _) | exact (HBq.out.alloc HBq.out.size _).drew) (fun k hk => HH.out.vlt hk) g3) o3 (fun k hk => (l3 k hk).imp id (fun z => by simp at z; omega)) (by have := HQ.out; simp; omega)
                 have HS := Lib.hid hst
                 clear hst)
  all_goals
    go_wp2
    go_ret
    exact ⟨rfl, HS.out⟩

set_option maxRecDepth 100000 in
set_option maxHeartbeats 1000000 in
theorem rput_not {w : World} {rb n B : Nat} {q : List Req} {sh : Bool} {v : Value} (x y : Int) (h : Rf w rb n q sh v B) (hq : ¬ (sh = false ∧ q.length < n)) :
    Calls Try.prog 20 #[.pointer (some ⟨rb, 0, none⟩), .agg #[.int .i64 x, .int .i64 y]] w fun r w' => r = .returned (.bool false) ∧ Below w.heap.size w w' := by
  obtain ⟨a, cap, rfl, _⟩ := h.row.asks.slice
  obtain ⟨w1, hw1⟩ : ∃ w1, w1 = w.alloc (.cells #[.int .i64 x, .int .i64 y] 31) := ⟨_, rfl⟩
  have HB1 : Hid (Below w.heap.size w w1) := by subst hw1; exact (Below.refl _ _).alloc (Nat.le_refl _) _
  have h1 := h.below HB1.out
  obtain ⟨c0, c1, c2⟩ := h1.cells
  clear h h1
  cases sh
  · have hq1 : (n : Int) ≤ (q.length : Int) := by
      by_cases z : q.length < n
      · exact absurd ⟨rfl, z⟩ hq
      · omega
    clear hq
    go_enter Try.func20, Try.ntmps20
    go_upto_region 1 with (fail)
    rw [← hw1]
    clear hw1
    go_quiet (fail)
    go_wp2
    go_ret
    exact ⟨rfl, below_same HB1.out rfl rfl rfl rfl⟩
  · clear hq
    go_enter Try.func20, Try.ntmps20
    go_upto_region 1 with (fail)
    rw [← hw1]
    clear hw1
    go_quiet (fail)
    go_wp2
    go_ret
    exact ⟨rfl, below_same HB1.out rfl rfl rfl rfl⟩
theorem rput_any {w : World} {rb n B : Nat} {q : List Req} {sh : Bool} {v : Value} (x y : Int) (h : Rf w rb n q sh v B) (hB : B ≤ w.heap.size) :
    Calls Try.prog 20 #[.pointer (some ⟨rb, 0, none⟩), .agg #[.int .i64 x, .int .i64 y]] w fun r w' => r = .returned (.bool (putB n q sh)) ∧ RStep w rb n (putL n q sh (x, y)) sh v B w' := by
  by_cases hq : sh = false ∧ q.length < n
  · obtain ⟨rfl, hq⟩ := hq
    rw [show putB n q false = true from decide_eq_true ⟨rfl, hq⟩, show putL n q false (x, y) = q ++ [(x, y)] by unfold putL; rw [if_pos ⟨rfl, hq⟩]]
    exact rput_go x y h hB hq
  · rw [show putB n q sh = false from decide_eq_false hq, show putL n q sh (x, y) = q by unfold putL; rw [if_neg hq]]
    exact (rput_not x y h hq).mono fun e w' ⟨h1, h2⟩ => ⟨h1, RStep.same h h2⟩

theorem view_tail {w : World} {g : Nat} {x : Req} {q : List Req} (h : View w (some ⟨g, 0, none⟩) (x :: q)) : View w (some ⟨g, 2, none⟩) q := by
  have := h.drop 1
  simpa using this
theorem view_empty {w : World} {a : Option Addr} {l : List Req} (h : l = []) : View w a l := .inl h
/-- Behind the new row, ahead of the answer. -/
structure TakeSt (w : World) (rb n : Nat) (q : List Req) (sh : Bool) (v : Value) (B Bq : Nat) (x y : Int) (v' : Value) (w' : World) : Prop where
  rf : Rf w' rb n q sh v' B
  turn : Turn (ROwn rb v) w w'
  new : ∀ k, v'.ownBlock = some k → Bq ≤ k
  le : w.heap.size + 1 < Bq
  o0 : w'.heap[w.heap.size]? = some (.cells #[.int .i64 0, .int .i64 0] 31 (0, 0))
  o1 : w'.heap[w.heap.size + 1]? = some (.cells #[.int .i64 x, .int .i64 y] 31 (0, 0))
theorem take_st {w wq w3 : World} {rb n B : Nat} {q0 q : List Req} {sh : Bool} {v v' : Value} {x y : Int} (h : Rf w rb n q0 sh v B) (hB : B ≤ w.heap.size) (hb : Below w.heap.size w wq) (ob0 : wq.heap[w.heap.size]? = some (.cells #[.int .i64 0, .int .i64 0] 31 (0, 0))) (ob1 : wq.heap[w.heap.size + 1]? = some (.cells #[.int .i64 x, .int .i64 y] 31 (0, 0)))
    (o3 : AsksB w3 wq.heap.size v' ([] ++ q)) (g3 : (wq.alloc (.cells #[] 31)).grownBy w3 (Value.slice (some ⟨wq.heap.size, 0, none⟩) 0 0).ownBlock) (hq : q.length ≤ n) :
    TakeSt w rb n q sh v B wq.heap.size x y v' (w3.setCell ⟨rb, 1, none⟩ v') ∧ w3.cell? ⟨rb, 1, none⟩ = some v ∧ w3.frozen? ⟨rb, 1, none⟩ = false := by
  have t3 : Turn (New wq.heap.size) wq w3 := turn_alloc (turn_grown (asks_made wq) g3)
  have hs := lt_of_block ob1
  have hz := hb.size
  have hrl := h.lt
  have b3 : Below w.heap.size w w3 := hb.trans (t3.below hz (fun i z => by unfold New at z; omega))
  rw [List.nil_append] at o3
  obtain ⟨⟨r1, r2⟩, s1, s2⟩ := rlay2 h (Turn.of_below b3) (o3.weaken (by omega)) (fun k hk => .inr (by have := o3.new hk; omega)) hq
  refine ⟨⟨r1, r2, fun k hk => o3.new hk, hs, ?_, ?_⟩, s1, s2⟩
  · rw [blk_far (a := ⟨rb, 1, none⟩) (by show _ ≠ rb; omega)]
    exact t3.obj ob0 (by unfold New; omega)
  · rw [blk_far (a := ⟨rb, 1, none⟩) (by show _ ≠ rb; omega)]
    exact t3.obj ob1 (by unfold New; omega)
/-- The answer laid. -/
theorem take_end {w w' : World} {rb n B Bq : Nat} {q : List Req} {sh : Bool} {v v' : Value} {x y : Int} (hr : rb < w.heap.size) (h : TakeSt w rb n q sh v B Bq x y v' w') (a b : Value) : RStep w rb n q sh v B ((w'.setCell ⟨w.heap.size, 0, none⟩ a).setCell ⟨w.heap.size, 1, none⟩ b) := by
  have t : Turn (fun k => k = w.heap.size) w' ((w'.setCell ⟨w.heap.size, 0, none⟩ a).setCell ⟨w.heap.size, 1, none⟩ b) :=
    Turn.setCell (Turn.setCell (Turn.refl (fun k => k = w.heap.size) w') (p := ⟨w.heap.size, 0, none⟩) (fun _ => rfl) a) (p := ⟨w.heap.size, 1, none⟩) (fun _ => rfl) b
  have hle := h.le
  refine ⟨v', h.rf.kept t (by omega) (fun k hk z => by have := h.new k hk; omega), h.turn.trans t (fun i hi z => by omega), fun k hk => .inr (by have := h.new k hk; omega)⟩

/-! ### a request taken -/
set_option maxRecDepth 100000 in
set_option maxHeartbeats 1000000 in
theorem rtake_none {w : World} {rb n B : Nat} {sh : Bool} {v : Value} (h : Rf w rb n [] sh v B) :
    Calls Try.prog 12 #[.pointer (some ⟨rb, 0, none⟩)] w fun r w' => r = .returned (.tuple #[.agg #[.int .i64 0, .int .i64 0], .bool false]) ∧ Below w.heap.size w w' := by
  obtain ⟨a, cap, rfl, _⟩ := h.row.asks.slice
  obtain ⟨c0, c1, c2⟩ := h.cells
  have hrl := h.lt
  clear h
  go_enter Try.func12, Try.ntmps12
  go_wp2
  refine bodyPost_ret (v := .tuple #[.agg #[.int .i64 0, .int .i64 0], .bool false]) (by simp [results, Try.results12, go_sem]) rfl ⟨rfl, ?_⟩
  exact (Below.refl _ _).alloc (Nat.le_refl _) _

set_option maxRecDepth 100000 in
set_option maxHeartbeats 4000000 in
theorem rtake_some {w : World} {rb n B : Nat} {q : List Req} {sh : Bool} {v : Value} {x y : Int} (h : Rf w rb n ((x, y) :: q) sh v B) (hB : B ≤ w.heap.size) :
    Calls Try.prog 12 #[.pointer (some ⟨rb, 0, none⟩)] w fun r w' => r = .returned (.tuple #[.agg #[.int .i64 x, .int .i64 y], .bool true]) ∧ RStep w rb n q sh v B w' := by
  have hg : ∃ g cap, v = .slice (some ⟨g, 0, none⟩) (q.length + 1) cap ∧ q.length + 1 ≤ cap ∧ cap ≤ maxLen := by
    rcases h.row.2 with ⟨_, h0⟩ | ⟨g, cap, cur, h1, _, h3, h4, h5, _⟩
    · simp at h0
    · exact ⟨g, cap, h1, h4, h5⟩
  obtain ⟨g, cap, rfl, hc1, hc2⟩ := hg
  have HH := Lib.hid h
  have hvw : View w (some ⟨g, 0, none⟩) ((x, y) :: q) := view_of h.row
  obtain ⟨g', o', e', i0, i1⟩ := hvw.at_ (k := 0) (x := (x, y)) rfl
  cases e'
  rw [Nat.zero_mul, Nat.zero_add] at i0 i1
  have HV := Lib.hid hvw
  obtain ⟨c0, c1, c2⟩ := h.cells
  have hrl := h.lt
  have hgl := block_of_cell i0
  obtain ⟨m, hm⟩ : ∃ m, m = q.length + 1 := ⟨_, rfl⟩
  have HM : Hid (m = q.length + 1 ∧ m ≤ cap ∧ cap ≤ maxLen ∧ q.length + 1 ≤ n ∧ n ≤ 1000) := ⟨hm, by omega, hc2, by have := h.room; simpa using this, h.few⟩
  rw [← hm] at c1
  have hm0 : 0 < m := by omega
  have hm1 : (0 : Int) < (m : Int) := by omega
  have hmz : ((m : Int) == 0) = false := by rw [beq_eq_false_iff_ne]; omega
  have HHm : Hid (Rf w rb n ((x, y) :: q) sh (.slice (some ⟨g, 0, none⟩) m cap) B) := by rw [hm]; exact h
  rw [← hm]
  clear h hvw hc1 hc2 hm HH
  go_enter Try.func12, Try.ntmps12
  go_upto_region 4 with (fail)
  refine gen_world (fun wq => Below w.heap.size w wq ∧ wq.heap[w.heap.size]? = some (.cells #[.int .i64 0, .int .i64 0] 31 (0, 0)) ∧ wq.heap[w.heap.size + 1]? = some (.cells #[.int .i64 x, .int .i64 y] 31 (0, 0))) ⟨((Below.refl _ _).alloc (Nat.le_refl _) _).alloc (by simp) _, (Below.heap_alloc _ _ _ (by simp)).trans (heap_alloc_new w _), by have := heap_alloc_new (w.alloc (.cells #[.int .i64 0, .int .i64 0] 31)) (.cells #[.int .i64 x, .int .i64 y] 31); rwa [World.size_alloc] at this⟩ ?_
  clear c0 c1 c2 i0 i1
  rintro wq ⟨hb, ob0, ob1⟩
  have HBq := Lib.hid hb
  have HO0 := Lib.hid ob0
  have HO1 := Lib.hid ob1
  have hsz := lt_of_block ob1
  obtain ⟨c0, c1, c2⟩ := (HHm.out.below hb).cells
  have c1f := (HHm.out.below hb).free 1
  have hrq : rb < wq.heap.size := by omega
  have HVq : Hid (View (wq.alloc (.cells #[] 31)) (some ⟨g, 0, none⟩) ((x, y) :: q)) := (HV.out.below hb).below ((Below.refl _ _).alloc (Nat.le_refl _) _)
  have HEND : Hid (∀ a' N cp' w3, AsksB w3 wq.heap.size (.slice a' N cp') ([] ++ q) → (wq.alloc (.cells #[] 31)).grownBy w3 (Value.slice (some ⟨wq.heap.size, 0, none⟩) 0 0).ownBlock → TakeSt w rb n q sh (.slice (some ⟨g, 0, none⟩) m cap) B wq.heap.size x y (.slice a' N cp') (w3.setCell ⟨rb, 1, none⟩ (.slice a' N cp')) ∧ w3.cell? ⟨rb, 1, none⟩ = some (.slice (some ⟨g, 0, none⟩) m cap) ∧ w3.frozen? ⟨rb, 1, none⟩ = false) := fun a' N cp' w3 o3 g3 => take_st HHm.out hB HBq.out HO0.out HO1.out o3 g3 (by have := HM.out; omega)
  clear hb ob0 ob1 HV
  by_cases hc1 : cap = 1
  · obtain rfl := hc1
    obtain rfl : m = 1 := by have := HM.out; omega
    have HQ0 : Hid (q = []) := List.length_eq_zero_iff.1 (by have := HM.out; omega)
    go_upto_region 5 with (at_builtin; refine wp_append2 (l := q) (q := []) rfl _ _ rfl rfl rfl (asks_made wq) (by simp) (view_empty HQ0.out) (by rw [HQ0.out]; rfl) (by simp) (fun z => by cases z) 0 (by simp) ?_; intro a' cp' w3 o3 g3 l3; have hE := HEND.out _ _ _ _ o3 g3; have HE := Lib.hid hE.1; have s1 := hE.2.1; have s2 := hE.2.2; clear o3 g3 l3 hE)
    refine gen_world (fun w4 => ∃ v', TakeSt w rb n q sh (.slice (some ⟨g, 0, none⟩) 1 1) B wq.heap.size x y v' w4) ⟨_, HE.out⟩ ?_
    clear s1 s2 HEND
    rintro w4 ⟨v4, h4⟩
    have H4 := Lib.hid h4
    have p0 : w4.cell? ⟨w.heap.size + 1, 0, none⟩ = some (.int .i64 x) := by rw [blk_cell h4.o1]; rfl
    have p1 : w4.cell? ⟨w.heap.size + 1, 1, none⟩ = some (.int .i64 y) := by rw [blk_cell h4.o1]; rfl
    have n0 : w4.cell? ⟨w.heap.size, 0, none⟩ = some (.int .i64 0) := by rw [blk_cell h4.o0]; rfl
    have n1 : w4.cell? ⟨w.heap.size, 1, none⟩ = some (.int .i64 0) := by rw [blk_cell h4.o0]; rfl
    have f0 := blk_free h4.o0 0
    have f1 := blk_free h4.o0 1
    clear h4
    go_wp2
    have ho := set_two H4.out.o0 (.int .i64 x) (.int .i64 y)
    have z0 := blk_cell ho 0
    have z1 := blk_cell ho 1
    have HF := Lib.hid (take_end hrl H4.out (.int .i64 x) (.int .i64 y))
    clear ho n0 n1 f0 f1 p0 p1
    refine bodyPost_ret (v := .tuple #[.agg #[.int .i64 x, .int .i64 y], .bool true]) (by simp [results, Try.results12, go_sem, z0, z1]) rfl ⟨rfl, HF.out⟩
  · have hc2 : 1 ≤ cap := by have := HM.out; omega
    have hm2 : 1 ≤ m := by omega
    have hm3 : (1 : Int) ≤ (m : Int) := by omega
    go_upto_region 5 with (at_builtin; refine wp_append2 (l := q) (q := []) rfl _ _ rfl rfl rfl (asks_made wq) (by simp) (view_tail HVq.out) (by have := HM.out; omega) (by have := HM.out; simp; omega) (fun z => by cases z) (m - 1) (by simp) ?_; intro a' cp' w3 o3 g3 l3; have hE := HEND.out _ _ _ _ o3 g3; have HE := Lib.hid hE.1; have s1 := hE.2.1; have s2 := hE.2.2; clear o3 g3 l3 hE)
    refine gen_world (fun w4 => ∃ v', TakeSt w rb n q sh (.slice (some ⟨g, 0, none⟩) m cap) B wq.heap.size x y v' w4) ⟨_, HE.out⟩ ?_
    clear s1 s2 HEND
    rintro w4 ⟨v4, h4⟩
    have H4 := Lib.hid h4
    have p0 : w4.cell? ⟨w.heap.size + 1, 0, none⟩ = some (.int .i64 x) := by rw [blk_cell h4.o1]; rfl
    have p1 : w4.cell? ⟨w.heap.size + 1, 1, none⟩ = some (.int .i64 y) := by rw [blk_cell h4.o1]; rfl
    have n0 : w4.cell? ⟨w.heap.size, 0, none⟩ = some (.int .i64 0) := by rw [blk_cell h4.o0]; rfl
    have n1 : w4.cell? ⟨w.heap.size, 1, none⟩ = some (.int .i64 0) := by rw [blk_cell h4.o0]; rfl
    have f0 := blk_free h4.o0 0
    have f1 := blk_free h4.o0 1
    clear h4
    go_wp2
    have ho := set_two H4.out.o0 (.int .i64 x) (.int .i64 y)
    have z0 := blk_cell ho 0
    have z1 := blk_cell ho 1
    have HF := Lib.hid (take_end hrl H4.out (.int .i64 x) (.int .i64 y))
    clear ho n0 n1 f0 f1 p0 p1
    refine bodyPost_ret (v := .tuple #[.agg #[.int .i64 x, .int .i64 y], .bool true]) (by simp [results, Try.results12, go_sem, z0, z1]) rfl ⟨rfl, HF.out⟩
end Go.Proofs.Ytkcdblpaaldcaaa
