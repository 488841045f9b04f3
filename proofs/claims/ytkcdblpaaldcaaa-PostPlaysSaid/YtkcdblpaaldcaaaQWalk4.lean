/-
  The walks over requests drained, and moved.
-/
import Derived.Test.YtkcdblpaaldcaaaQWalk3
import Derived.Lib.SmallJoins
import Derived.WalkMore
namespace Go.Proofs.Ytkcdblpaaldcaaa
open Go.RowKit Go.Maps Go.Conc
attribute [local go_sem] chan_eq_some

theorem infoParts : ∃ i, Try.prog.info? 31 = some i ∧ i.zero = some (.agg #[.int .i64 0, .int .i64 0]) ∧ i.size = 2 ∧ i.bytes = 16 := by
  obtain ⟨i, h1, h2⟩ := Option.map_eq_some_iff.1 infoAsk
  simp only [Prod.mk.injEq] at h2
  exact ⟨i, h1, h2.1, h2.2.1, h2.2.2⟩
theorem two_new_at (w : World) (x y : Value) (t : TypeId) : ∀ j u, [x, y][j]? = some u → (w.alloc (.cells #[x, y] t)).cell? ((⟨w.heap.size, 0, none⟩ : Addr).add j) = some u := by
  intro j u hj
  match j, hj with
  | 0, hj =>
    simp at hj
    subst hj
    simp [Addr.add]
  | 1, hj =>
    simp at hj
    subst hj
    simp [Addr.add]
theorem two_second (w : World) (o : Obj) (x y : Value) (t : TypeId) : ∀ j u, [x, y][j]? = some u → ((w.alloc o).alloc (.cells #[x, y] t)).cell? ((⟨w.heap.size + 1, 0, none⟩ : Addr).add j) = some u := by
  have := two_new_at (w.alloc o) x y t
  rwa [World.size_alloc] at this
def lenOf : Value → Nat
  | .slice _ n _ => n
  | _ => 0

/-- Requests of a row whose block is new. -/
def AsksB (w : World) (B : Nat) (v : Value) (l : List Req) : Prop := w.ownsRow B 31 2 v l.length (flat l)
theorem AsksB.asks {w : World} {B : Nat} {v : Value} {l : List Req} (h : AsksB w B v l) : Asks w v l := by
  rcases h with ⟨h0, h | ⟨g, cap, cur, rfl, hB, h3, h1, h2, h4, h5⟩⟩
  · exact ⟨h0, .inl h⟩
  · exact ⟨h0, .inr ⟨g, cap, cur, rfl, Nat.zero_le _, h3, h1, h2, h4, h5⟩⟩
theorem AsksB.new {w : World} {B : Nat} {v : Value} {l : List Req} (h : AsksB w B v l) {k : Nat} (hk : v.ownBlock = some k) : B ≤ k := by
  rcases h with ⟨h0, h | ⟨g, cap, cur, rfl, hB, h3, h1, h2, h4, h5⟩⟩
  · rw [h.1] at hk; cases hk
  · simp [Value.ownBlock] at hk; omega
theorem AsksB.kept {S : Nat → Prop} {w w' : World} {B : Nat} {v : Value} {l : List Req} (h : AsksB w B v l) (ht : Turn S w w') (hn : ∀ k, v.ownBlock = some k → ¬ S k) : AsksB w' B v l := by
  rcases h with ⟨h0, h | ⟨g, cap, cur, rfl, hB, h3, h1, h2, h4, h5⟩⟩
  · exact ⟨h0, .inl h⟩
  · exact ⟨h0, .inr ⟨g, cap, cur, rfl, hB, ht.obj h3 (hn g rfl), h1, h2, h4, h5⟩⟩

/-- Where the rounds of draining stand: k are out. -/
structure Draining (w : World) (d : Int) (b c n : Nat) (q : List Req) (sh : Bool) (k : Nat) (v : Value) (w' : World) : Prop where
  str : St w' b c d 1 sh
  chan : Ch w' c n (q.drop k)
  row : AsksB w' w.heap.size v (q.take k)
  turn : Turn (Two b c) w w'

/-- What draining k leaves. -/
def Drains (w : World) (d : Int) (b c n : Nat) (q : List Req) (sh : Bool) (k : Nat) (v : Value) (w' : World) : Prop :=
  LooksD w d b c n (q.drop k) sh w' ∧ AsksB w' w.heap.size v (q.take k)
theorem drain_done {w w1 w2 : World} {d : Int} {b c n k : Nat} {q : List Req} {sh : Bool} {v : Value} (h : BoxD w d b c n q sh) (p : Draining w d b c n q sh k v w1) (hs : St w2 b c d 0 sh) (ht : Turn (fun j => j = b) w1 w2) : Drains w d b c n q sh k v w2 := by
  have hb := h.str.lt
  exact ⟨⟨⟨hs, p.chan.kept ht h.ne, by have := h.room; rw [List.length_drop]; omega, h.few⟩, p.turn.trans ht (fun _ _ z => .inl z)⟩, p.row.kept ht (fun j hj z => by have := p.row.new hj; omega)⟩
theorem drain_next {w wr w2 w3 : World} {d : Int} {b c n k : Nat} {q : List Req} {sh : Bool} {v v' : Value} {x : Req} {o o' : Obj} (h : BoxD w d b c n q sh) (p : Draining w d b c n q sh k v wr) (hx : q[k]? = some x) (hc : Ch w2 c n (q.drop (k + 1))) (ht : Turn (fun j => j = c) wr w2)
    (ho : w3.ownsRow w.heap.size 31 2 v' (k + 1) (flat (q.take k) ++ [.int .i64 x.1, .int .i64 x.2])) (hg : ((w2.alloc o).alloc o').grownBy w3 v.ownBlock) : Draining w d b c n q sh (k + 1) v' w3 := by
  have hkl : k < q.length := (List.getElem?_eq_some_iff.1 hx).1
  have hb := h.str.lt
  have hcl := h.chan.lt
  have t1 : Turn (fun j => w.heap.size ≤ j) w2 w3 := Turn.grown ((((Turn.refl _ _).alloc o).alloc o')) hg (fun j hj _ => p.row.new hj)
  have t2 : Turn (Two b c) w w2 := p.turn.trans ht (fun _ _ z => .inr z)
  refine ⟨(p.str.kept ht (fun z => h.ne z.symm)).kept t1 (by omega), hc.kept t1 (by omega), ?_, t2.trans t1 (fun i hi z => by omega)⟩
  unfold AsksB
  have e : q.take (k + 1) = q.take k ++ [x] := take_next hx
  rw [e, flat_append, List.length_append, List.length_take, Nat.min_eq_left (by omega)]
  exact ho

set_option maxRecDepth 100000 in
set_option maxHeartbeats 2000000 in
theorem drain_some {w : World} {d : Int} {b c n : Nat} {q : List Req} {sh : Bool} (most : Int) (h : BoxD w d b c n q sh) :
    Calls Try.prog 14 #[.pointer (some ⟨b, 0, none⟩), .int .i64 most] w fun r w' => ∃ v, r = .returned v ∧ Drains w d b c n q sh (min q.length most.toNat) v w' := by
  obtain ⟨i0, hi, hz0, hz1, hz2⟩ := infoParts
  have CN := none_some h.str
  have CL := lock_low h.str
  have HH := Lib.hid h
  have hcl := h.chan.lt
  have hbl := h.str.lt
  clear h
  go_enter_defers Try.func14, Try.ntmps14
  go_wp2
  go_step3
  go_wp2_with (first
    | (go_at_call 25; refine CN.mono ?_; rintro e w' ⟨rfl, rfl⟩)
    | (go_at_call 26; refine CL.mono ?_; rintro e w1 ⟨rfl, hs1, ht1⟩; have HA : Hid (Draining w d b c n q sh 0 (.slice none 0 0) w1) := ⟨hs1, by simpa using HH.out.chan.kept ht1 HH.out.ne, by simpa [AsksB, flat] using World.ownsRow_nil _ _ _ _, ht1.mono fun _ _ q => .inl q⟩; clear hs1 ht1))
  go_step3
  go_wp2
  go_loopw [5] (fun u wr => ∃ (k : Nat) (a : Option Addr) (cp : Nat), k ≤ q.length ∧ (k : Int) ≤ max most 0 ∧ u = .slice a k cp ∧ Hid (Draining w d b c n q sh k (.slice a k cp) wr)) (fun u _ => q.length - lenOf u)
  case atStart => exact ⟨0, none, 0, by omega, by omega, rfl, HA⟩
  case round =>
    obtain ⟨k, a, cp, hk, hkm, rfl, HP⟩ := hrel
    have hq := HH.out.room
    have hq2 := HH.out.few
    clear HA
    by_cases h1 : (k : Int) < most
    · obtain ⟨e0, e2, e4, e5⟩ := HP.out.str.cells
      have hbw := HP.out.str.lt
      go_upto_region 8 with (fail)
      by_cases hlt : k < q.length
      · obtain ⟨x, hx⟩ : ∃ x, q[k]? = some x := ⟨q[k], by simp [hlt]⟩
        have hd : q.drop k = x :: q.drop (k + 1) := by
          obtain ⟨h2, h3⟩ := List.getElem?_eq_some_iff.1 hx
          rw [List.drop_eq_getElem_cons h2, h3]
        have hc := HP.out.chan
        rw [hd] at hc
        have HX := Lib.hid hx
        clear hx hd
        refine sel_recv (x := x) rfl hc (by simp [go_sem, execOp, rcase, Act.eval, zReq]) ?_
        intro w2 hc2 ht2
        have HC2 := Lib.hid hc2
        have HT2 := Lib.hid ht2
        have HR := Lib.hid (HP.out.row.kept ht2 (fun j hj z => by have := HP.out.row.new hj; omega))
        have HLk : Hid ((q.take k).length = k) := by show _ = _; rw [List.length_take]; omega
        have hrow : w2.ownsRow w.heap.size 31 2 (.slice a k cp) k (flat (q.take k)) := by have := HR.out; unfold AsksB at this; rw [HLk.out] at this; exact this
        have HRow := Lib.hid hrow
        have hsz := ht2.size
        have hsw := HP.out.turn.size
        clear hrow hc2 ht2 e0 e2 e4 e5 hc
        go_wp2_with (at_builtin; refine wpList_append_own_at _ rfl _ _ 27 rfl w.heap.size 31 i0 _ 2 16 Try.underlying27 hi hz0 hz1 hz2 rfl (by decide) _ _ _ rfl ((HRow.out.alloc _).alloc _) ⟨w2.heap.size + 1, 0, none⟩ 1 1 [.int .i64 x.1, .int .i64 x.2] rfl rfl (two_second _ _ _ _ _) (fun u hu => by simp at hu; rcases hu with rfl | rfl <;> rfl) (by unfold maxLen; omega) (by omega) (by simp; omega) ?_; intro v' w3 hown' hgrow _ _; have HN := Lib.hid (drain_next HH.out HP.out HX.out HC2.out HT2.out hown' hgrow); clear hown' hgrow)
        obtain ⟨a', cp', hv, _⟩ := HN.out.row.asks.slice
        rw [List.length_take, Nat.min_eq_left (by omega)] at hv
        subst hv
        go_roundw
        case rel => exact ⟨k + 1, a', cp', by omega, by omega, rfl, HN⟩
        case measure => simp [lenOf]; omega
      · obtain rfl : k = q.length := by omega
        have hd : q.drop q.length = [] := List.drop_length
        have hc := HP.out.chan
        rw [hd] at hc
        refine sel_none rfl hc (by simp [go_sem, execOp, rcase, Act.eval, zReq]) ?_
        clear hd hc e0 e2 e4 e5
        go_wp2
        refine leaves_cons (f := 27) (args := #[.pointer (some ⟨b, 2, none⟩)]) (by simp) (by simp [go_sem]) ?_
        refine (unlock_low .returning HP.out.str).mono ?_
        rintro e u' w4 ⟨rfl, rfl, hs4, ht4⟩
        rw [show min q.length most.toNat = q.length by omega]
        exact ⟨_, results_tmp (t := 4) rfl _ _ _, _, rfl, (drain_done HH.out HP.out hs4 ht4 :)⟩
    · have h2 : most ≤ (k : Int) := by omega
      go_wp2
      refine leaves_cons (f := 27) (args := #[.pointer (some ⟨b, 2, none⟩)]) (by simp) (by simp [go_sem]) ?_
      refine (unlock_low .returning HP.out.str).mono ?_
      rintro e u' w4 ⟨rfl, rfl, hs4, ht4⟩
      rw [show min q.length most.toNat = k by omega]
      exact ⟨_, results_tmp (t := 4) rfl _ _ _, _, rfl, (drain_done HH.out HP.out hs4 ht4 :)⟩
end Go.Proofs.Ytkcdblpaaldcaaa
