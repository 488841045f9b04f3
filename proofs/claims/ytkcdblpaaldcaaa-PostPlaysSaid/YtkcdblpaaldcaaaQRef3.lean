/-
  The walks over the document's own box: requests drained.
-/
import Derived.Test.YtkcdblpaaldcaaaQRef2
import Derived.Deep.LoopGhost
namespace Go.Proofs.Ytkcdblpaaldcaaa
open Go.RowKit Go.Maps Go.Conc

/-- Where the rounds stand: k are out. -/
structure RDr (w : World) (rb n : Nat) (q : List Req) (sh : Bool) (v : Value) (B k : Nat) (vo : Value) (v' : Value) (w' : World) : Prop where
  rf : Rf w' rb n (q.drop k) sh v' B
  turn : Turn (ROwn rb v) w w'
  new : ∀ j, v'.ownBlock = some j → v.ownBlock = some j ∨ w.heap.size ≤ j
  row : AsksB w' w.heap.size vo (q.take k)
  apart : ∀ j, vo.ownBlock = some j → ¬ ROwn rb v' j
theorem rdr_zero {w : World} {rb n B : Nat} {q : List Req} {sh : Bool} {v : Value} (h : Rf w rb n q sh v B) : RDr w rb n q sh v B 0 (.slice none 0 0) v w :=
  ⟨by simpa using h, Turn.refl _ _, fun _ hj => .inl hj, by simpa [AsksB, flat] using World.ownsRow_nil _ _ _ _, fun j hj => by cases hj⟩
theorem rdr_step {w wr w2 w3 : World} {rb n B k : Nat} {q : List Req} {sh : Bool} {v v1 vo vo' : Value} {x y : Int} {o o' : Obj} (h : RDr w rb n q sh v B k vo v1 wr) (hx : q[k]? = some (x, y)) (s : RStep wr rb n (q.drop (k + 1)) sh v1 B w2)
    (ho : AsksB w3 w.heap.size vo' (q.take k ++ [(x, y)])) (hg : ((w2.alloc o).alloc o').grownBy w3 vo.ownBlock) (hl : ∀ j, vo'.ownBlock = some j → vo.ownBlock = some j ∨ ((w2.alloc o).alloc o').heap.size ≤ j) : ∃ v2, RDr w rb n q sh v B (k + 1) vo' v2 w3 := by
  obtain ⟨v2, f2, t2, l2⟩ := s
  have tg : Turn (fun j => vo.ownBlock = some j) w2 w3 := Turn.grown (((Turn.refl _ w2).alloc o).alloc o') hg (fun j hj _ => hj)
  have hap : ∀ j, vo.ownBlock = some j → ¬ ROwn rb v2 j := by
    intro j hj z
    have hjl := h.row.asks.lt hj
    rcases z with z | z
    · exact h.apart j hj (.inl z)
    · rcases l2 j z with y | y
      · exact h.apart j hj (.inr y)
      · omega
  refine ⟨v2, f2.kept tg (fun z => hap _ z (.inl rfl)) (fun j hj z => hap _ z (.inr hj)), ?_, fun j hj => ?_, by rw [take_next hx]; exact ho, fun j hj z => ?_⟩
  · have a := h.turn.trans t2 (S' := ROwn rb v1) (fun i hi z => by
      rcases z with z | z
      · exact .inl z
      · rcases h.new i z with y | y
        · exact .inr y
        · omega)
    exact a.trans tg (fun i hi z => by have := h.row.new z; omega)
  · rcases l2 j hj with y | y
    · exact h.new j y
    · exact .inr (Nat.le_trans h.turn.size y)
  · rcases hl j hj with y | y
    · exact hap j y z
    · simp at y
      rcases z with z | z
      · have := f2.lt; omega
      · have := f2.vlt z; omega

theorem rtake_at {w : World} {rb n B : Nat} {q0 q : List Req} {sh : Bool} {v : Value} {x y : Int} (hq : q0 = (x, y) :: q) (h : Rf w rb n q0 sh v B) (hB : B ≤ w.heap.size) :
    Calls Try.prog 12 #[.pointer (some ⟨rb, 0, none⟩)] w fun r w' => r = .returned (.tuple #[.agg #[.int .i64 x, .int .i64 y], .bool true]) ∧ RStep w rb n q sh v B w' := by
  subst hq
  exact rtake_some h hB
theorem one_view' (w : World) (o : Obj) (x : Req) : View ((w.alloc o).alloc (.cells #[.int .i64 x.1, .int .i64 x.2] 31)) (some ⟨w.heap.size + 1, 0, none⟩) [x] := by
  have := one_view (w.alloc o) x
  rwa [World.size_alloc] at this

set_option maxRecDepth 100000 in
set_option maxHeartbeats 4000000 in
theorem rdrain_t {w : World} {rb n B t : Nat} {q : List Req} {sh : Bool} {v : Value} {M : Int} (he : min q.length M.toNat = t) (h : Rf w rb n q sh v B) (hB : B ≤ w.heap.size) :
    Calls Try.prog 15 #[.pointer (some ⟨rb, 0, none⟩), .int .i64 M] w fun r w' => ∃ a cp, r = .returned (.slice a t cp) ∧ (RStep w rb n (q.drop t) sh v B w' ∧ AsksB w' w.heap.size (.slice a t cp) (q.take t)) := by
  have HE := Lib.hid he
  have HN : Hid (q.length ≤ n ∧ n ≤ 1000) := ⟨h.room, h.few⟩
  have H0 := Lib.hid (rdr_zero h)
  clear h he
  go_enter Try.func15, Try.ntmps15
  go_wp2_with (fail)
  go_loopw [5] (fun u wr => ∃ (k : Nat) (a : Option Addr) (cp : Nat) (v1 : Value), k ≤ q.length ∧ (k : Int) ≤ max M 0 ∧ u = .slice a k cp ∧ Hid (RDr w rb n q sh v B k (.slice a k cp) v1 wr)) (fun u _ => q.length - lenOf u)
  case atStart => exact ⟨0, none, 0, v, by omega, by omega, rfl, H0⟩
  case round =>
    obtain ⟨k, a, cp, v1, hk, hkM, rfl, HP⟩ := hrel
    obtain ⟨a1, cp1, rfl, _⟩ := HP.out.rf.row.asks.slice
    obtain ⟨c0, c1, c2⟩ := HP.out.rf.cells
    clear H0
    by_cases h1 : (k : Int) < M
    · by_cases hlt : k < q.length
      · obtain ⟨x, y, hx⟩ := nth_of (l := q) rfl hlt
        have hd : q.drop k = (x, y) :: q.drop (k + 1) := by
          obtain ⟨h2, h3⟩ := List.getElem?_eq_some_iff.1 hx
          rw [List.drop_eq_getElem_cons h2, h3]
        have CT := Lib.hid (rtake_at hd HP.out.rf (Nat.le_trans hB HP.out.turn.size))
        have hln : (0 : Int) < ((q.drop k).length : Int) := by rw [List.length_drop]; omega
        have HX := Lib.hid hx
        have HLk : Hid ((q.take k).length = k) := by show _ = _; rw [List.length_take]; omega
        have hsw := HP.out.turn.size
        clear hx hd
        go_upto_region 4 with (go_at_call 12; (with_reducible refine (CT.out).mono ?_); rintro e w2 ⟨rfl, h2⟩; have H2 := Lib.hid h2; clear h2)
        have HRW : Hid (AsksB w2 w.heap.size (.slice a k cp) (q.take k)) := HP.out.row.kept (by obtain ⟨_, _, t2, _⟩ := H2.out; exact t2) HP.out.apart
        have hs2 : wr.heap.size ≤ w2.heap.size := by obtain ⟨_, _, t2, _⟩ := H2.out; exact t2.size
        clear c0 c1 c2 CT
        go_wp2_with (at_builtin; refine wp_append2 (m := 1) (l := [(x, y)]) rfl _ _ rfl rfl rfl ((HRW.out.alloc _).alloc _) (by simp; omega) (one_view' _ _ (x, y)) rfl (by have := HLk.out; have := HN.out; omega) (fun z => by cases z) (k + 1) (by have := HLk.out; omega) ?_; intro a3 k3 w3 o3 g3 l3; have HN3 := Lib.hid (rdr_step HP.out HX.out H2.out o3 g3 l3); clear o3 g3 l3)
        obtain ⟨v3, h3⟩ := HN3.out
        go_roundw
        case rel => exact ⟨k + 1, a3, k3, v3, by omega, by omega, rfl, h3⟩
        case measure => simp [lenOf]; omega
      · have hd0 : ((q.drop k).length : Int) = 0 := by rw [List.length_drop]; omega
        have hd1 : ¬ (0 : Int) < ((q.drop k).length : Int) := by omega
        clear hd0
        go_wp2_with (fail)
        obtain rfl : k = t := by have := HE.out; omega
        go_ret
        exact ⟨a, cp, rfl, ⟨_, HP.out.rf, HP.out.turn, HP.out.new⟩, HP.out.row⟩
    · have h2 : M ≤ (k : Int) := by omega
      clear h1
      go_wp2_with (fail)
      obtain rfl : k = t := by have := HE.out; omega
      go_ret
      exact ⟨a, cp, rfl, ⟨_, HP.out.rf, HP.out.turn, HP.out.new⟩, HP.out.row⟩
end Go.Proofs.Ytkcdblpaaldcaaa
