/-
  The walk over the document's own boxes: requests moved.
-/
import Derived.Test.YtkcdblpaaldcaaaQRef3
namespace Go.Proofs.Ytkcdblpaaldcaaa
open Go.RowKit Go.Maps Go.Conc

theorem rf_ne {w : World} {rb n B sb n2 B2 : Nat} {q q2 : List Req} {sh sh2 : Bool} {v v2 : Value} (h : Rf w rb n q sh v B) (h2 : Rf w sb n2 q2 sh2 v2 B2) : ¬ v2.ownBlock = some rb := by
  intro z
  obtain ⟨cur, hc⟩ := h2.row.asks.cells z
  rw [h.str] at hc
  simp at hc
/-- Two of the document's boxes, apart. -/
structure RTwo (w : World) (rb n : Nat) (q : List Req) (sh : Bool) (v : Value) (sb n2 : Nat) (q2 : List Req) (sh2 : Bool) (v2 : Value) (B : Nat) : Prop where
  r : Rf w rb n q sh v B
  s : Rf w sb n2 q2 sh2 v2 B
  ne : rb ≠ sb
  row : ∀ k, v.ownBlock = some k → ¬ v2.ownBlock = some k
def ROwn2 (rb : Nat) (v : Value) (sb : Nat) (v2 : Value) (k : Nat) : Prop := ROwn rb v k ∨ ROwn sb v2 k
theorem RTwo.swap {w : World} {rb n sb n2 B : Nat} {q q2 : List Req} {sh sh2 : Bool} {v v2 : Value} (h : RTwo w rb n q sh v sb n2 q2 sh2 v2 B) : RTwo w sb n2 q2 sh2 v2 rb n q sh v B :=
  ⟨h.s, h.r, fun e => h.ne e.symm, fun k hk z => h.row k z hk⟩
theorem RTwo.step {w w' : World} {rb n sb n2 B : Nat} {q q' q2 : List Req} {sh sh2 : Bool} {v v2 : Value} (h : RTwo w rb n q sh v sb n2 q2 sh2 v2 B) (s : RStep w rb n q' sh v B w') :
    ∃ v', RTwo w' rb n q' sh v' sb n2 q2 sh2 v2 B ∧ Turn (ROwn rb v) w w' ∧ ∀ k, v'.ownBlock = some k → v.ownBlock = some k ∨ w.heap.size ≤ k := by
  obtain ⟨v', f, t, l⟩ := s
  refine ⟨v', ⟨f, h.s.kept t ?_ ?_, h.ne, fun k hk z => ?_⟩, t, l⟩
  · rintro (z | z)
    · exact h.ne z.symm
    · exact rf_ne h.s h.r z
  · rintro k hk (z | z)
    · exact rf_ne h.r h.s (z ▸ hk)
    · exact h.row k z hk
  · rcases l k hk with y | y
    · exact h.row k y z
    · have := h.s.vlt z; omega
theorem RTwo.below {w w' : World} {rb n sb n2 B : Nat} {q q2 : List Req} {sh sh2 : Bool} {v v2 : Value} (h : RTwo w rb n q sh v sb n2 q2 sh2 v2 B) (hb : Below w.heap.size w w') : RTwo w' rb n q sh v sb n2 q2 sh2 v2 B :=
  ⟨h.r.below hb, h.s.below hb, h.ne, h.row⟩

/-- What a move has made of both. -/
def RMoved (w : World) (rb n : Nat) (q : List Req) (sh : Bool) (v : Value) (sb n2 : Nat) (q2 : List Req) (sh2 : Bool) (v2 : Value) (B : Nat) (w' : World) : Prop :=
  ∃ v' v2', RTwo w' rb n q sh v' sb n2 q2 sh2 v2' B ∧ Turn (ROwn2 rb v sb v2) w w' ∧ (∀ k, v'.ownBlock = some k → v.ownBlock = some k ∨ w.heap.size ≤ k) ∧ ∀ k, v2'.ownBlock = some k → v2.ownBlock = some k ∨ w.heap.size ≤ k
theorem rmoved_zero {w : World} {rb n sb n2 B : Nat} {q q2 : List Req} {sh sh2 : Bool} {v v2 : Value} (h : RTwo w rb n q sh v sb n2 q2 sh2 v2 B) : RMoved w rb n q sh v sb n2 q2 sh2 v2 B w :=
  ⟨v, v2, h, Turn.refl _ _, fun _ hk => .inl hk, fun _ hk => .inl hk⟩
theorem rmoved_below {w w1 w2 : World} {rb n sb n2 B : Nat} {q q2 : List Req} {sh sh2 : Bool} {v v2 : Value} (h : RMoved w rb n q sh v sb n2 q2 sh2 v2 B w1) (hb : Below w1.heap.size w1 w2) : RMoved w rb n q sh v sb n2 q2 sh2 v2 B w2 := by
  obtain ⟨v', v2', a, t, l, l2⟩ := h
  exact ⟨v', v2', a.below hb, t.then (Turn.of_below hb), l, l2⟩
theorem rmoved_r {w w1 w2 : World} {rb n sb n2 B : Nat} {q q' q2 : List Req} {sh sh2 : Bool} {v v2 v1 v21 : Value} (h : RTwo w1 rb n q sh v1 sb n2 q2 sh2 v21 B) (t : Turn (ROwn2 rb v sb v2) w w1) (l : ∀ k, v1.ownBlock = some k → v.ownBlock = some k ∨ w.heap.size ≤ k) (l2 : ∀ k, v21.ownBlock = some k → v2.ownBlock = some k ∨ w.heap.size ≤ k)
    (s : RStep w1 rb n q' sh v1 B w2) : RMoved w rb n q' sh v sb n2 q2 sh2 v2 B w2 := by
  obtain ⟨v', a, t', l'⟩ := h.step s
  refine ⟨v', v21, a, t.trans t' (fun i hi z => ?_), fun k hk => ?_, l2⟩
  · rcases z with z | z
    · exact .inl (.inl z)
    · rcases l i z with y | y
      · exact .inl (.inr y)
      · omega
  · rcases l' k hk with y | y
    · exact l k y
    · exact .inr (Nat.le_trans t.size y)
theorem rmoved_s {w w1 w2 : World} {rb n sb n2 B : Nat} {q q2 q2' : List Req} {sh sh2 : Bool} {v v2 v1 v21 : Value} (h : RTwo w1 rb n q sh v1 sb n2 q2 sh2 v21 B) (t : Turn (ROwn2 rb v sb v2) w w1) (l : ∀ k, v1.ownBlock = some k → v.ownBlock = some k ∨ w.heap.size ≤ k) (l2 : ∀ k, v21.ownBlock = some k → v2.ownBlock = some k ∨ w.heap.size ≤ k)
    (s : RStep w1 sb n2 q2' sh2 v21 B w2) : RMoved w rb n q sh v sb n2 q2' sh2 v2 B w2 := by
  obtain ⟨v', a, t', l'⟩ := h.swap.step s
  refine ⟨v1, v', a.swap, t.trans t' (fun i hi z => ?_), l, fun k hk => ?_⟩
  · rcases z with z | z
    · exact .inr (.inl z)
    · rcases l2 i z with y | y
      · exact .inr (.inr y)
      · omega
  · rcases l' k hk with y | y
    · exact l2 k y
    · exact .inr (Nat.le_trans t.size y)

theorem rmoved_take {w w1 : World} {rb n sb n2 B : Nat} {q0 q q2 : List Req} {sh sh2 : Bool} {v v2 : Value} {x y : Int} (h : RMoved w rb n q0 sh v sb n2 q2 sh2 v2 B w1) (hq : q0 = (x, y) :: q) (hB : B ≤ w.heap.size) :
    Calls Try.prog 12 #[.pointer (some ⟨rb, 0, none⟩)] w1 fun r w' => r = .returned (.tuple #[.agg #[.int .i64 x, .int .i64 y], .bool true]) ∧ RMoved w rb n q sh v sb n2 q2 sh2 v2 B w' := by
  obtain ⟨v1, v21, h1, t1, l1, l21⟩ := h
  exact (rtake_at hq h1.r (Nat.le_trans hB t1.size)).mono fun e w' ⟨e1, e2⟩ => ⟨e1, rmoved_r h1 t1 l1 l21 e2⟩
theorem rmoved_put {w w1 : World} {rb n sb n2 B : Nat} {q q2 : List Req} {sh : Bool} {v v2 : Value} (x y : Int) (h : RMoved w rb n q sh v sb n2 q2 false v2 B w1) (hq : q2.length < n2) (hB : B ≤ w.heap.size) :
    Calls Try.prog 20 #[.pointer (some ⟨sb, 0, none⟩), .agg #[.int .i64 x, .int .i64 y]] w1 fun r w' => r = .returned (.bool true) ∧ RMoved w rb n q sh v sb n2 (q2 ++ [(x, y)]) false v2 B w' := by
  obtain ⟨v1, v21, h1, t1, l1, l21⟩ := h
  exact (rput_go x y h1.s (Nat.le_trans hB t1.size) hq).mono fun e w' ⟨e1, e2⟩ => ⟨e1, rmoved_s h1 t1 l1 l21 e2⟩
theorem rmoved_size {w w1 : World} {rb n sb n2 B : Nat} {q q2 : List Req} {sh sh2 : Bool} {v v2 : Value} (h : RMoved w rb n q sh v sb n2 q2 sh2 v2 B w1) : w.heap.size ≤ w1.heap.size := by
  obtain ⟨_, _, _, t, _⟩ := h
  exact t.size

set_option maxRecDepth 100000 in
set_option maxHeartbeats 4000000 in
theorem rmove_any {w : World} {rb n sb n2 B : Nat} {q q2 : List Req} {sh sh2 : Bool} {v v2 : Value} (M : Int) (h : RTwo w rb n q sh v sb n2 q2 sh2 v2 B) (hB : B ≤ w.heap.size) :
    Calls Try.prog 17 #[.pointer (some ⟨rb, 0, none⟩), .pointer (some ⟨sb, 0, none⟩), .int .i64 M] w fun r w' => r = .returned (.int .i64 (moveN q q2 n2 sh2 M)) ∧ RMoved w rb n (q.drop (moveN q q2 n2 sh2 M)) sh v sb n2 (q2 ++ q.take (moveN q q2 n2 sh2 M)) sh2 v2 B w' := by
  obtain ⟨t, ht⟩ : ∃ t, moveN q q2 n2 sh2 M = t := ⟨_, rfl⟩
  have HT : Hid (t = min q.length (min M (if sh2 then 0 else (n2 : Int) - q2.length)).toNat) := by rw [← ht]; rfl
  have HN : Hid (q.length ≤ n ∧ n ≤ 1000 ∧ q2.length ≤ n2 ∧ n2 ≤ 1000) := ⟨h.r.room, h.r.few, h.s.room, h.s.few⟩
  rw [ht]
  have H0 : Hid (RMoved w rb n (q.drop 0) sh v sb n2 (q2 ++ q.take 0) sh2 v2 B w) := by show RMoved _ _ _ _ _ _ _ _ _ _ _ _ _; simpa using rmoved_zero h
  clear ht h
  go_enter Try.func17, Try.ntmps17
  go_wp2_with (fail)
  go_loopw [7] (fun u wr => ∃ k : Nat, k ≤ t ∧ u = .int .i64 k ∧ Hid (RMoved w rb n (q.drop k) sh v sb n2 (q2 ++ q.take k) sh2 v2 B wr)) (fun u _ => (t - intOf u).toNat)
  case atStart => exact ⟨0, by omega, rfl, H0⟩
  case round =>
    obtain ⟨k, hk, rfl, HP⟩ := hrel
    clear H0
    obtain ⟨v1, v21, h1, t1, l1, l21⟩ := HP.out
    have HR := Lib.hid h1
    have HT1 := Lib.hid t1
    have HL1 := Lib.hid l1
    have HL2 := Lib.hid l21
    have hsw := t1.size
    obtain ⟨a1, cp1, rfl, _⟩ := h1.r.row.asks.slice
    obtain ⟨a2, cp2, rfl, _⟩ := h1.s.row.asks.slice
    obtain ⟨c0, c1, c2⟩ := h1.r.cells
    obtain ⟨d0, d1, d2⟩ := h1.s.cells
    have e1 : (q.drop k).length = q.length - k := List.length_drop
    have e2 : (q2 ++ q.take k).length = q2.length + k := by have := HT.out; rw [List.length_append, List.length_take]; omega
    obtain ⟨s1, hs1⟩ : ∃ s1, s1 = q.length - k := ⟨_, rfl⟩
    obtain ⟨s2, hs2⟩ : ∃ s2, s2 = q2.length + k := ⟨_, rfl⟩
    rw [e1, ← hs1] at c1
    rw [e2, ← hs2] at d1
    have HS : Hid (s1 = q.length - k ∧ s2 = q2.length + k) := ⟨hs1, hs2⟩
    have hk1 : (k : Int) ≤ 1000 := by have := HN.out; have := HT.out; omega
    clear h1 t1 l1 l21 e1 e2 hs1 hs2
    by_cases hlt : k < t
    · have hsf : sh2 = false := by
        cases sh2 with
        | false => rfl
        | true => have := HT.out; simp at this; omega
      subst hsf
      have HT' : Hid (t = min q.length (min M ((n2 : Int) - q2.length)).toNat) := HT
      have t1 : (k : Int) < M := by have := HT'.out; omega
      have t2 : (0 : Int) < (s1 : Int) := by have := HT'.out; have := HS.out; omega
      have t3 : (s2 : Int) < (n2 : Int) := by have := HT'.out; have := HS.out; have := HN.out; omega
      have t4 : 0 < s1 := by omega
      have t5 : s2 < n2 := by omega
      have HK : Hid (k < q.length ∧ k < t) := by have := HT'.out; exact ⟨by omega, hlt⟩
      clear hlt
      obtain ⟨x, y, hx⟩ := nth_of (l := q) rfl HK.out.1
      have hd : q.drop k = (x, y) :: q.drop (k + 1) := by
        obtain ⟨h2, h3⟩ := List.getElem?_eq_some_iff.1 hx
        rw [List.drop_eq_getElem_cons h2, h3]
      have HTK := Lib.hid (take_next hx)
      have HD := Lib.hid hd
      have HLn : Hid ((q2 ++ q.take k).length < n2) := by have := HS.out; have := HK.out; show _ < _; rw [List.length_append, List.length_take]; omega
      clear hx hd
      go_upto_region 2 with (fail)
      go_quiet (fail)
      go_upto_region 3 with (fail)
      refine gen_world (fun wq => RMoved w rb n (q.drop k) sh v sb n2 (q2 ++ q.take k) false v2 B wq) (rmoved_below HP.out (below_same (Below.refl _ _) rfl rfl rfl rfl)) ?_
      clear c0 c1 c2 d0 d1 d2
      intro wq hq
      have HQ := Lib.hid hq
      clear hq
      go_wp2_with (first
        | (go_at_call 12; (with_reducible refine (rmoved_take HQ.out HD.out hB).mono ?_); rintro e w2 ⟨rfl, h2⟩; have H2 := Lib.hid (rmoved_below h2 ((Below.refl _ _).alloc (Nat.le_refl _) (.cells #[.int .i64 x, .int .i64 y] 31))); clear h2)
        | (go_at_call 20; (with_reducible refine (rmoved_put x y H2.out HLn.out hB).mono ?_); rintro e w3 ⟨rfl, h3⟩; have H3 := Lib.hid h3; clear h3))
      go_roundw
      case rel => exact ⟨k + 1, HK.out.2, by go_num, by rw [HTK.out, ← List.append_assoc]; exact H3⟩
      case measure => have := HK.out; simp [intOf]; omega
    · have HT2 := HT.out
      have HN2 := HN.out
      have HS2 := HS.out
      obtain rfl : k = t := by omega
      have hw : ((k : Int) < M) = False ∨ (s1 = 0 ∧ (k : Int) < M) ∨ (0 < s1 ∧ (k : Int) < M ∧ sh2 = true) ∨ (0 < s1 ∧ (k : Int) < M ∧ sh2 = false ∧ n2 ≤ s2) := by
        by_cases z1 : (k : Int) < M
        · by_cases z2 : s1 = 0
          · exact .inr (.inl ⟨z2, z1⟩)
          · cases sh2 with
            | true => exact .inr (.inr (.inl ⟨by omega, z1, rfl⟩))
            | false => exact .inr (.inr (.inr ⟨by omega, z1, rfl, by simp only [Bool.false_eq_true, if_false] at HT2; omega⟩))
        · exact .inl (by simp [z1])
      clear HT2 HN2 HS2 hlt
      rcases hw with z | ⟨z, z1⟩ | ⟨z, z1, rfl⟩ | ⟨z, z1, rfl, z2⟩
      · have y1 : decide ((k : Int) < M) = false := by simp [z]
        clear z
        go_upto_region 2 with (fail)
        go_quiet (fail)
        go_wp2
        go_ret
        exact ⟨rfl, rmoved_below HP.out (below_same (Below.refl _ _) rfl rfl rfl rfl)⟩
      · have y1 : decide (0 < s1) = false := by simp; omega
        have y2 : s1 = 0 := z
        clear z y2
        go_upto_region 2 with (fail)
        go_quiet (fail)
        go_wp2
        go_ret
        exact ⟨rfl, rmoved_below HP.out (below_same (Below.refl _ _) rfl rfl rfl rfl)⟩
      · have y1 : decide (0 < s1) = true := by simp; omega
        go_upto_region 2 with (fail)
        go_quiet (fail)
        go_wp2
        go_ret
        exact ⟨rfl, rmoved_below HP.out (below_same (Below.refl _ _) rfl rfl rfl rfl)⟩
      · have y1 : decide (0 < s1) = true := by simp; omega
        have y2 : decide (s2 < n2) = false := by simp; omega
        go_upto_region 2 with (fail)
        go_quiet (fail)
        go_wp2
        go_ret
        exact ⟨rfl, rmoved_below HP.out (below_same (Below.refl _ _) rfl rfl rfl rfl)⟩
end Go.Proofs.Ytkcdblpaaldcaaa
