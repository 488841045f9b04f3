/-
  The document's own box: what it is; the walks over its room, a request put, a request taken.
-/
import Derived.Test.YtkcdblpaaldcaaaQLaw3
import Derived.Deep.RegionLaw
namespace Go.Proofs.Ytkcdblpaaldcaaa
open Go.RowKit Go.Maps Go.Conc

theorem append_view {w : World} {B m c : Nat} {v : Value} {q l : List Req} {ad : Option Addr} (h : AsksB w B v q) (hB : B ≤ w.heap.size) (hv : View w ad l) (hl : l.length = m) (hs : q.length + m ≤ 100000) (hn : ad = none → m = 0) (ty : TypeId) :
    ∃ v' w', (Builtin.append_ #[27, 27] ty #[v, .slice ad m c]).run Try.prog w = .ok v' w' ∧ AsksB w' B v' (q ++ l) ∧ w.grownBy w' v.ownBlock ∧ ∀ k, v'.ownBlock = some k → v.ownBlock = some k ∨ w.heap.size ≤ k := by
  obtain ⟨i0, hi, hz0, hz1, hz2⟩ := infoParts
  cases ad with
  | none =>
    obtain rfl := hn rfl
    obtain rfl : l = [] := List.length_eq_zero_iff.1 hl
    refine ⟨v, w, run_append_none h c ty, by rw [List.append_nil]; exact h, ⟨rfl, rfl, rfl, Nat.le_refl _, fun _ _ _ => rfl⟩, fun k hk => .inl hk⟩
  | some x =>
    have hnews : ∀ j u, (flat l)[j]? = some u → w.cell? (x.add j) = some u := by
      intro j u hj
      rcases hv with rfl | ⟨g, o, e, hc⟩
      · simp [flat] at hj
      · cases e
        rw [addr_at]; exact hc j u hj
    obtain ⟨v', w', h1, h2, h3, _, h5⟩ := run_append_own_at (P := Try.prog) w B 27 ty 31 i0 _ 2 16 Try.underlying27 hi hz0 hz1 hz2 rfl (by decide) v q.length (flat q) h x m c (flat l) (by rw [flat_len, hl]) hnews (flat_one l) (by unfold maxLen; omega) (by omega) hB
    refine ⟨v', w', h1, ?_, h3, fun k hk => ?_⟩
    · unfold AsksB
      rw [List.length_append, flat_append, hl]
      exact h2
    · rcases h5 with z | z
      · left; rw [← z]; exact hk
      · right; rw [z] at hk; cases hk; exact Nat.le_refl _

theorem step_append {w : World} {ops : Array Oper} {o : Oper} {a : Act} {K : Act → World → Prop} {Q : Exit → Act → World → Prop} {E : Prop} (hgd : o.guard = none) (s x : Operand)
    (ho : o.op = .call { callee := .builtin .append, args := #[s, x], argTypes := #[27, 27] }) {B m c : Nat} {v : Value} {q l : List Req} {ad : Option Addr} (hs : a.eval s = v) (hx : a.eval x = .slice ad m c)
    (hown : AsksB w B v q) (hB : B ≤ w.heap.size) (hv : View w ad l) (hl : l.length = m) (hsm : q.length + m ≤ 100000) (hn : ad = none → m = 0) (N : Nat) (hN : q.length + m = N)
    (h : ∀ a' cp' w', AsksB w' B (.slice a' N cp') (q ++ l) → w.grownBy w' v.ownBlock → (∀ k, (Value.slice a' N cp').ownBlock = some k → v.ownBlock = some k ∨ w.heap.size ≤ k) → K (a.put o.dst (.slice a' N cp')) w') :
    if Region.wanted o (yielded ops a.tmps) = true then Oper.wp Try.prog o a w K Q else E := by
  have hw : Region.wanted o (yielded ops a.tmps) = true := by simp [Region.wanted, hgd]
  rw [if_pos hw]
  obtain ⟨v', w', hr, h2, h3, h4⟩ := append_view (c := c) hown hB hv hl hsm hn o.type
  obtain ⟨a', cp', hv', _⟩ := h2.asks.slice
  rw [List.length_append, hl, hN] at hv'
  subst hv'
  unfold Oper.wp execOp
  simp only [ho, resolve, invoke, builtin, Sem.run_bind, Sem.run_pure, Result.andThen_ok, List.map_toArray, List.map_cons, List.map_nil, hs, hx, hr]
  exact h a' cp' w' h2 h3 h4
theorem wp_append2 {ops : Array Oper} {rest : List Oper} {o : Oper} {a : Act} {Q : Exit → Act → World → Prop} {w : World} (hgd : o.guard = none) (s x : Operand)
    (ho : o.op = .call { callee := .builtin .append, args := #[s, x], argTypes := #[27, 27] }) {B m c : Nat} {v : Value} {q l : List Req} {ad : Option Addr} (hs : a.eval s = v) (hx : a.eval x = .slice ad m c)
    (hown : AsksB w B v q) (hB : B ≤ w.heap.size) (hv : View w ad l) (hl : l.length = m) (hsm : q.length + m ≤ 100000) (hn : ad = none → m = 0) (N : Nat) (hN : q.length + m = N)
    (h : ∀ a' cp' w', AsksB w' B (.slice a' N cp') (q ++ l) → w.grownBy w' v.ownBlock → (∀ k, (Value.slice a' N cp').ownBlock = some k → v.ownBlock = some k ∨ w.heap.size ≤ k) → wpList Try.prog ops Q rest (a.put o.dst (.slice a' N cp')) w') : wpList Try.prog ops Q (o :: rest) a w :=
  wpList_step fun _ hK => step_append hgd s x ho hs hx hown hB hv hl hsm hn N hN (fun a' cp' w' o' g' l' => hK _ _ (h a' cp' w' o' g' l'))

theorem AsksB.alloc {w : World} {B : Nat} {v : Value} {l : List Req} (h : AsksB w B v l) (o : Obj) : AsksB (w.alloc o) B v l := h.below ((Below.refl _ _).alloc (Nat.le_refl _) o)
theorem AsksB.drew {w : World} {B : Nat} {v : Value} {l : List Req} (h : AsksB w B v l) : AsksB w.drew B v l := h.below (Below.refl _ _).drew

/-- The document's own box. -/
structure Rf (w : World) (rb n : Nat) (q : List Req) (sh : Bool) (v : Value) (B : Nat) : Prop where
  str : w.heap[rb]? = some (.cells #[.int .i64 n, v, .bool sh] 29 (0, 0))
  row : AsksB w B v q
  room : q.length ≤ n
  few : n ≤ 1000
def ROwn (rb : Nat) (v : Value) (k : Nat) : Prop := k = rb ∨ v.ownBlock = some k
/-- What a step has made of it. -/
def RStep (w : World) (rb n : Nat) (q : List Req) (sh : Bool) (v : Value) (B : Nat) (w' : World) : Prop :=
  ∃ v', Rf w' rb n q sh v' B ∧ Turn (ROwn rb v) w w' ∧ ∀ k, v'.ownBlock = some k → v.ownBlock = some k ∨ w.heap.size ≤ k

theorem Rf.lt {w : World} {rb n B : Nat} {q : List Req} {sh : Bool} {v : Value} (h : Rf w rb n q sh v B) : rb < w.heap.size := lt_of_block h.str
theorem Rf.cells {w : World} {rb n B : Nat} {q : List Req} {sh : Bool} {v : Value} (h : Rf w rb n q sh v B) : w.cell? ⟨rb, 0, none⟩ = some (.int .i64 n) ∧ w.cell? ⟨rb, 1, none⟩ = some v ∧ w.cell? ⟨rb, 2, none⟩ = some (.bool sh) :=
  ⟨by rw [blk_cell h.str]; rfl, by rw [blk_cell h.str]; rfl, by rw [blk_cell h.str]; rfl⟩
theorem Rf.free {w : World} {rb n B : Nat} {q : List Req} {sh : Bool} {v : Value} (h : Rf w rb n q sh v B) (o : Nat) : w.frozen? ⟨rb, o, none⟩ = false := blk_free h.str o
theorem Rf.kept {S : Nat → Prop} {w w' : World} {rb n B : Nat} {q : List Req} {sh : Bool} {v : Value} (h : Rf w rb n q sh v B) (ht : Turn S w w') (hr : ¬ S rb) (hv : ∀ k, v.ownBlock = some k → ¬ S k) : Rf w' rb n q sh v B :=
  ⟨ht.obj h.str hr, h.row.kept ht hv, h.room, h.few⟩
theorem Rf.below {w w' : World} {rb n B : Nat} {q : List Req} {sh : Bool} {v : Value} (h : Rf w rb n q sh v B) (hb : Below w.heap.size w w') : Rf w' rb n q sh v B :=
  h.kept (Turn.of_below (S := fun _ => False) hb) (fun z => z) (fun _ _ z => z)
theorem Rf.alloc {w : World} {rb n B : Nat} {q : List Req} {sh : Bool} {v : Value} (h : Rf w rb n q sh v B) (o : Obj) : Rf (w.alloc o) rb n q sh v B := h.below ((Below.refl _ _).alloc (Nat.le_refl _) o)
theorem Rf.ne {w : World} {rb n B : Nat} {q : List Req} {sh : Bool} {v : Value} (h : Rf w rb n q sh v B) : ¬ v.ownBlock = some rb := by
  intro z
  obtain ⟨cur, hc⟩ := h.row.asks.cells z
  rw [h.str] at hc
  simp at hc
theorem Rf.vlt {w : World} {rb n B : Nat} {q : List Req} {sh : Bool} {v : Value} (h : Rf w rb n q sh v B) {k : Nat} (hk : v.ownBlock = some k) : k < w.heap.size := h.row.asks.lt hk
theorem RStep.same {w w' : World} {rb n B : Nat} {q : List Req} {sh : Bool} {v : Value} (h : Rf w rb n q sh v B) (hb : Below w.heap.size w w') : RStep w rb n q sh v B w' :=
  ⟨v, h.below hb, Turn.of_below hb, fun _ hk => .inl hk⟩
theorem RStep.trans {w w1 w2 : World} {rb n B : Nat} {q' : List Req} {sh : Bool} {v v1 : Value} (t1 : Turn (ROwn rb v) w w1) (hl : ∀ k, v1.ownBlock = some k → v.ownBlock = some k ∨ w.heap.size ≤ k) (h2 : RStep w1 rb n q' sh v1 B w2) : RStep w rb n q' sh v B w2 := by
  obtain ⟨v2, a, t2, l2⟩ := h2
  refine ⟨v2, a, t1.trans t2 (fun i hi z => ?_), fun k hk => ?_⟩
  · rcases z with z | z
    · exact .inl z
    · rcases hl i z with y | y
      · exact .inr y
      · omega
  · rcases l2 k hk with z | z
    · exact hl k z
    · exact .inr (Nat.le_trans t1.size z)

/-- A new row laid into the box. -/
theorem rlay2 {w w3 : World} {rb n B : Nat} {q q' : List Req} {sh : Bool} {v v' : Value} (h : Rf w rb n q sh v B) (ht : Turn (fun k => v.ownBlock = some k) w w3) (hr : AsksB w3 B v' q') (hl : ∀ k, v'.ownBlock = some k → v.ownBlock = some k ∨ w.heap.size ≤ k) (hq : q'.length ≤ n) :
    (Rf (w3.setCell ⟨rb, 1, none⟩ v') rb n q' sh v' B ∧ Turn (ROwn rb v) w (w3.setCell ⟨rb, 1, none⟩ v')) ∧ w3.cell? ⟨rb, 1, none⟩ = some v ∧ w3.frozen? ⟨rb, 1, none⟩ = false := by
  have h3 : w3.heap[rb]? = _ := ht.obj h.str h.ne
  have hne : ∀ k, v'.ownBlock = some k → k ≠ rb := by
    intro k hk z
    rcases hl k hk with y | y
    · exact h.ne (z ▸ y)
    · have := h.lt; omega
  have t3 : Turn (fun k => k = rb) w3 (w3.setCell ⟨rb, 1, none⟩ v') := turn_set _
  refine ⟨⟨⟨(blk_set h3 _).trans rfl, hr.kept t3 hne, hq, h.few⟩, ?_⟩, by rw [blk_cell h3]; rfl, blk_free h3 1⟩
  exact (ht.mono (S' := ROwn rb v) fun _ _ z => .inr z).trans t3 (fun _ _ z => .inl z)
theorem rlay {w w3 : World} {rb n B : Nat} {q q' : List Req} {sh : Bool} {v v' : Value} (h : Rf w rb n q sh v B) (ht : Turn (fun k => v.ownBlock = some k) w w3) (hr : AsksB w3 B v' q') (hl : ∀ k, v'.ownBlock = some k → v.ownBlock = some k ∨ w.heap.size ≤ k) (hq : q'.length ≤ n) :
    RStep w rb n q' sh v B (w3.setCell ⟨rb, 1, none⟩ v') ∧ w3.cell? ⟨rb, 1, none⟩ = some v ∧ w3.frozen? ⟨rb, 1, none⟩ = false :=
  have z := rlay2 h ht hr hl hq
  ⟨⟨v', z.1.1, z.1.2, hl⟩, z.2⟩

set_option maxRecDepth 100000 in
set_option maxHeartbeats 1000000 in
theorem rroom_any {w : World} {rb n B : Nat} {q : List Req} {sh : Bool} {v : Value} (h : Rf w rb n q sh v B) :
    Calls Try.prog 23 #[.pointer (some ⟨rb, 0, none⟩)] w fun r w' => r = .returned (.int .i64 (if sh then 0 else (n : Int) - q.length)) ∧ Below w.heap.size w w' := by
  obtain ⟨a, cap, rfl, _⟩ := h.row.asks.slice
  obtain ⟨c0, c1, c2⟩ := h.cells
  have hw : IntKind.i64.wrap ((n : Int) - (q.length : Int)) = (n : Int) - q.length := IntWalk.i64_in _ (by have := h.room; have := h.few; omega)
  clear h
  cases sh
  · go_enter Try.func23, Try.ntmps23
    go_upto_region 3 with (fail)
    go_quiet (fail)
    go_wp2
    go_ret
    exact ⟨rfl, below_same (Below.refl _ _) rfl rfl rfl rfl⟩
  · go_enter Try.func23, Try.ntmps23
    go_wp2
    go_ret
    exact ⟨rfl, Below.refl _ _⟩
end Go.Proofs.Ytkcdblpaaldcaaa
