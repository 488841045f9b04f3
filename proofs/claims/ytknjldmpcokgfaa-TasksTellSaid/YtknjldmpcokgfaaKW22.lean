/-
  The walk over a system's tasks by priority.
-/
import Derived.Test.YtknjldmpcokgfaaKW21
namespace Go.Proofs.Ytknjldmpcokgfaa
open Go.RowKit Go.Maps Go.Shelf

/-- All tasks, the higher ones first. -/
def Ranks (L M : List Tk) : Prop := M.Perm L ∧ M.Pairwise (fun x y => x.p ≤ y.p)
/-- A row of tasks of one's own, by priority, that comes back. -/
def PrioBack (L : List TV) (w : World) (e : Ending) (w' : World) : Prop :=
  ∃ (a : Option Addr) (n c : Nat) (M : List TV), e = .returned (.slice a n c) ∧ OwnT w' w.heap.size (.slice a n c) M ∧ AllOk w' M ∧ (∀ x ∈ M, IsI w' x.a1 x.ch ∧ IsI w' x.a2 x.us) ∧ Ranks (L.map TV.tk) (M.map TV.tk) ∧ Below w.heap.size w w'

theorem make_tasks (c : Nat) (hc : c ≤ 1000000) (w : World) : (Instr.makeSlice 26 (.int .i64 0) (.int .i64 (c : Int))).run Try.prog w = .ok (.slice (some ⟨w.heap.size, 0, none⟩) 0 c) (w.alloc (.cells (madeCells #[.int .i64 0, .int .i64 0, .int .i64 0, .int .i64 0, .int .i64 0, .slice none 0 0, .slice none 0 0] (c * 7)) TT)) := by
  obtain ⟨i0, hi, hz0, hz1, hz2⟩ := infoParts
  have h := run_make w 26 TT i0 _ Try.underlying26 hi hz0 .i64 .i64 0 c (by omega) (by omega) (by rw [hz2]; omega) (by omega)
  rw [hz1] at h
  simpa [Value.cells] using h
theorem keepI_grown {w w3 : World} {B : Nat} {v : Value} {l : List TV} (h : OwnT w B v l) (hg : w.grownBy w3 v.ownBlock) : KeepI w w3 := by
  intro b cs T fr hc hT
  refine hg.block b (lt_of_block hc) ?_
  intro z
  rcases h with ⟨_, q | ⟨k', cap', cur', e', hB', h3', _⟩⟩
  · rw [q.1] at z; cases z
  · rw [e'] at z
    simp [Value.ownBlock] at z
    subst z
    rw [hc] at h3'
    simp at h3'
    rcases hT with q | q <;> rw [q] at h3' <;> exact absurd h3'.2.1 (by decide)
def IsAll (w : World) (L : List TV) : Prop := ∀ x ∈ L, IsI w x.a1 x.ch ∧ IsI w x.a2 x.us
theorem IsAll.below {w w' : World} {L : List TV} (h : IsAll w L) (hb : Below w.heap.size w w') : IsAll w' L := fun x hx => ⟨(h x hx).1.below hb, (h x hx).2.below hb⟩
theorem IsAll.kept {w w' : World} {L : List TV} (h : IsAll w L) (hk : KeepI w w') : IsAll w' L := fun x hx => ⟨(h x hx).1.kept hk, (h x hx).2.kept hk⟩
theorem AllOk.kept {w w' : World} {L : List TV} (h : AllOk w L) (hi : IsAll w L) (hk : KeepI w w') : AllOk w' L := fun x hx => (h x hx).kept (hi x hx) hk

theorem OwnT.some_at {w : World} {B n c : Nat} {a : Option Addr} {l : List TV} (h : OwnT w B (.slice a n c) l) (hp : 0 < l.length) : ∃ go, a = some ⟨go, 0, none⟩ ∧ B ≤ go ∧ ∃ cs, w.heap[go]? = some (.cells cs TT (0, 0)) := by
  rcases h with ⟨h0, h | ⟨g, cap, cur, e, hb, h3, h1, h2, h4, h5⟩⟩
  · omega
  · cases e; exact ⟨g, rfl, hb, cur, h3⟩
/-- A system in a box, and a row of one's own. -/
structure PrioAt (w : World) (s r : Int) (a : Option Addr) (n cap : Nat) (v : Value) (R : List TV) (W : World) : Prop where
  low : Below w.heap.size w W
  box : W.heap[w.heap.size]? = some (.cells #[.int .i64 s, .int .i64 r, .slice a n cap] 28 (0, 0))
  own : OwnT W (w.heap.size + 1) v R
  ok : AllOk W R
  ints : IsAll W R
theorem PrioAt.below {w W W' : World} {s r : Int} {a : Option Addr} {n cap : Nat} {v : Value} {R : List TV} (h : PrioAt w s r a n cap v R W) (hb : Below W.heap.size W W') : PrioAt w s r a n cap v R W' :=
  ⟨below_up h.low hb, kept_obj hb h.box, h.own.below hb, h.ok.below hb, h.ints.below hb⟩
theorem prioAt_new {w : World} {s r : Int} {a : Option Addr} {n cap c : Nat} (hc : c ≤ 1000000) : PrioAt w s r a n cap (.slice (some ⟨w.heap.size + 1, 0, none⟩) 0 c) [] ((w.alloc (.cells #[.int .i64 s, .int .i64 r, .slice a n cap] 28)).alloc (.cells (madeCells #[.int .i64 0, .int .i64 0, .int .i64 0, .int .i64 0, .int .i64 0, .slice none 0 0, .slice none 0 0] (c * 7)) TT)) := by
  refine ⟨(by repeat (first | exact Below.refl _ _ | (with_reducible assumption) | refine bw_alloc ?_ _ | refine bw_drew ?_)), ?_, ?_, (fun x hx => by cases hx), (fun x hx => by cases hx)⟩
  · rw [Below.heap_alloc _ _ _ (by simp)]; exact heap_alloc_new w _
  · have := World.ownsRow_made (e := TT) (size := 7) (base := w.heap.size + 1) (w := w.alloc (.cells #[.int .i64 s, .int .i64 r, .slice a n cap] 28)) (madeCells #[.int .i64 0, .int .i64 0, .int .i64 0, .int .i64 0, .int .i64 0, .slice none 0 0, .slice none 0 0] (c * 7)) c (by simp) (by unfold maxLen; omega) (by rw [size_madeCells])
    rwa [World.size_alloc] at this
theorem PrioAt.push {w W w3 : World} {s r : Int} {a : Option Addr} {n cap : Nat} {v v' : Value} {R : List TV} {y : TV} (h : PrioAt w s r a n cap v R W) (hg : W.grownBy w3 v.ownBlock) (ho : OwnT w3 (w.heap.size + 1) v' (R ++ [y])) (hy : y.ok W) (hi : IsI W y.a1 y.ch ∧ IsI W y.a2 y.us) : PrioAt w s r a n cap v' (R ++ [y]) w3 := by
  have hs : w.heap.size + 1 ≤ W.heap.size := lt_of_block h.box
  have hb : Below (w.heap.size + 1) W w3 := (Below.refl _ W).grown hg hs (fun k hk => (h.own.new hk).1)
  have hk := keepI_grown h.own hg
  exact ⟨h.low.trans (hb.mono (by omega)), kept_objB hb (by omega) h.box, ho, (h.ok.kept h.ints hk).append (AllOk.one (hy.kept hi hk)), fun x hx => by
    rcases List.mem_append.1 hx with q | q
    · exact h.ints.kept hk x q
    · simp at q; subst q; exact ⟨hi.1.kept hk, hi.2.kept hk⟩⟩
theorem PrioAt.done {w W w' : World} {s r : Int} {a a' : Option Addr} {n cap cp' : Nat} {R M L : List TV} (h : PrioAt w s r a n cap (.slice a' n cp') R W) (hR : R.map TV.tk = L.map TV.tk) (hp : M.Perm R) (hs : M.Pairwise (fun x y => x.p ≤ y.p)) (ho : OwnT w' (w.heap.size + 1) (.slice a' n cp') M) (hk : KeepI W w') (hb : Below (w.heap.size + 1) W w') :
    PrioBack L w (.returned (.slice a' n cp')) w' := by
  have hin : ∀ x ∈ M, x ∈ R := fun x hx => hp.mem_iff.1 hx
  refine ⟨a', n, cp', M, rfl, ho.low (by omega), fun x hx => h.ok.kept h.ints hk x (hin x hx), fun x hx => h.ints.kept hk x (hin x hx), ⟨?_, ?_⟩, h.low.trans (hb.mono (by omega))⟩
  · rw [← hR]; exact hp.map _
  · rw [List.pairwise_map]; exact hs

set_option maxRecDepth 100000 in
set_option maxHeartbeats 4000000 in
theorem prio_sys {w : World} {a : Option Addr} {n cap : Nat} {L : List TV} (s r : Int) (ha : Tasks w a n cap L) (hn : 0 < n) (h19 : n ≤ 19) (hsm : ∀ x ∈ L, (x.ch.length : Int) ≤ 1000000 ∧ (x.us.length : Int) ≤ 1000000) :
    Calls Try.prog 19 #[.agg #[.int .i64 s, .int .i64 r, .slice a n cap]] w (PrioBack L w) := by
  have HA := Lib.hid ha
  have HS := Lib.hid hsm
  have hz := zeroTask
  have hmk := make_tasks n (by omega)
  clear ha hsm
  go_enter Try.func19, Try.ntmps19
  go_upto_region 2 with fail
  refine gen_world (PrioAt w s r a n cap _ []) (prioAt_new ?_) ?_
  · omega
  intro W1 hw1
  have H1 := Lib.hid hw1
  have e2 : W1.cell? ⟨w.heap.size, 2, none⟩ = some (.slice a n cap) := by rw [blk_cell hw1.box]; rfl
  clear hw1 hmk
  go_wp2_with fail
  clear e2
  go_loopw [3, 13] (fun v u wr => ∃ (k : Nat) (a' : Option Addr) (cp' : Nat) (R : List TV), k ≤ n ∧ u = .int .i64 k ∧ v = .slice a' k cp' ∧ Hid (R.length = k) ∧ Hid (R.map TV.tk = (L.take k).map TV.tk) ∧ Hid (PrioAt w s r a n cap (.slice a' k cp') R wr)) (fun _ u _ => (n - intOf u).toNat)
  case atStart => exact ⟨0, _, _, [], by omega, rfl, rfl, rfl, by show _ = _; simp, H1⟩
  case round =>
    obtain ⟨k, a', cp', R, hk, rfl, rfl, HRL, HRT, HP⟩ := hrel
    clear H1
    by_cases hlt : k < n
    · obtain ⟨x, hx⟩ := nth_of HA.out.len hlt
      obtain ⟨g, o, rfl, ⟨c0, c1, c2, c3, c4, c5, c6⟩⟩ := (HA.out.view.below HP.out.low).at_ hx
      have hk1 : (k : Int) < (n : Int) := by omega
      have hk0 : (0 : Int) ≤ (k : Int) := by omega
      have hxs := HS.out x (List.mem_of_getElem? hx)
      have hxo := (HA.out.ok.at_ hx).below HP.out.low
      have C : Hid (∀ v, Below wr.heap.size wr v → _) := fun v hb => own_any x v (hxo.below hb) hxs.1 hxs.2
      have HSM : Hid (R.length + 1 ≤ 1000000) := by show _ ≤ _; have := HRL.out; omega
      have HNN : Hid (R.length + 1 = k + 1) := by show _ = _; rw [HRL.out]
      have HL2 : Hid (∀ y, (R ++ [y]).length = k + 1) := fun y => by rw [List.length_append, HRL.out]; rfl
      have HT2 : Hid (∀ y : TV, y.tk = x.tk → (R ++ [y]).map TV.tk = (L.take (k + 1)).map TV.tk) := fun y hy => by
        rw [List.take_add_one, hx, List.map_append, List.map_append, HRT.out]; simp [hy]
      clear hx hxs hxo
      go_wp2_with (first
        | (go_at_call 43; (with_reducible refine (C.out _ (by repeat (first | exact Below.refl _ _ | (with_reducible assumption) | refine bw_alloc ?_ _ | refine bw_drew ?_))).mono ?_); rintro e w5 ⟨y, rfl, hy1, hy2, hy3, b5⟩; have H5 := Lib.hid (HP.out.below (below_up ((by repeat (first | exact Below.refl _ _ | (with_reducible assumption) | refine bw_alloc ?_ _ | refine bw_drew ?_)) : Below wr.heap.size wr _) b5)); have HY := Lib.hid hy2; have HI := Lib.hid hy3; have HT := Lib.hid hy1; clear hy1 hy2 hy3 b5)
        | (at_builtin; refine wp_append (m := 1) (l := [y]) rfl _ _ rfl rfl rfl (H5.out.below (by repeat (first | exact Below.refl _ _ | (with_reducible assumption) | refine bw_alloc ?_ _ | refine bw_drew ?_))).own (Nat.le_trans (lt_of_block H5.out.box) ((by repeat (first | exact Below.refl _ _ | (with_reducible assumption) | refine bw_alloc ?_ _ | refine bw_drew ?_)) : Below w5.heap.size w5 _).size) (View.of_at (at_new _ _ _)) rfl HSM.out (fun z => by cases z) (k + 1) HNN.out ?_; intro a3 k3 w3 o3 g3 l3; have HN := Lib.hid ((H5.out.below (by repeat (first | exact Below.refl _ _ | (with_reducible assumption) | refine bw_alloc ?_ _ | refine bw_drew ?_))).push g3 o3 (HY.out.below (by repeat (first | exact Below.refl _ _ | (with_reducible assumption) | refine bw_alloc ?_ _ | refine bw_drew ?_))) ⟨HI.out.1.below (by repeat (first | exact Below.refl _ _ | (with_reducible assumption) | refine bw_alloc ?_ _ | refine bw_drew ?_)), HI.out.2.below (by repeat (first | exact Below.refl _ _ | (with_reducible assumption) | refine bw_alloc ?_ _ | refine bw_drew ?_))⟩); clear o3 g3 l3))
      go_roundw
      case rel => exact ⟨k + 1, a3, k3, R ++ [y], by omega, by go_num, rfl, HL2.out y, HT2.out y HT.out, HN⟩
      case measure => simp [intOf]; omega
    · obtain rfl : k = n := by omega
      have HSL : Hid (R.toArray.size = k) := by show _ = _; simp; exact HRL.out
      have HO : Hid (OwnT wr (w.heap.size + 1) (.slice a' k cp') R) := HP.out.own
      obtain ⟨go, rfl, _⟩ := HO.out.some_at (by rw [HRL.out]; exact hn)
      have C : Hid (Calls Try.prog 44 #[.slice (some ⟨go, 0, none⟩) k cp', .func (.func 45) #[] #[]] wr (SortBack (w.heap.size + 1) go cp' R.toArray wr)) := by
        have := sortf_any (w := wr) (B := w.heap.size + 1) (blk := go) (cap := cp') R.toArray (by rw [HSL.out]; exact HO.out) (by rw [HSL.out]; exact h19)
        rw [HSL.out] at this
        exact this
      have HRT2 : Hid (R.map TV.tk = L.map TV.tk) := by
        have := HRT.out
        rwa [List.take_of_length_le (by rw [HA.out.len]; exact Nat.le_refl _)] at this
      go_wp2_with (go_at_call 44; (with_reducible refine (C.out).mono ?_); rintro e w1 ⟨rfl, M, hm1, hm2, hm3, hm4, hm5⟩; have HD := Lib.hid (HP.out.done HRT2.out (by simpa using hm1) hm2 (by rw [HSL.out] at hm3; exact hm3) hm4 hm5); clear hm1 hm2 hm3 hm4 hm5)
      go_ret
      exact HD.out
end Go.Proofs.Ytknjldmpcokgfaa
