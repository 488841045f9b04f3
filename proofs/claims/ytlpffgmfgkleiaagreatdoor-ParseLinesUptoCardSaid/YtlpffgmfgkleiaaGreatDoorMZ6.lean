/- Texts of this claim, put together: KW17, ZLaw, KOpen, KOpen2, ZOpen, LTied, LTied5, YTied2. -/
import Derived.Test.YtlpffgmfgkleiaaGreatDoorRows
import Derived.Test.YtlpffgmfgkleiaaGreatDoorMZ5
import Derived.ProofKit
import Derived.OpenShut
import Derived.Deep.Slices
import Derived.Lib.SmallJoins
import Derived.Deep.DeepHandedRow
import Derived.LaidMore
import Derived.Lib.LaidTab
import Derived.Stop.Joined
import Derived.Lay
set_option linter.unusedVariables false
set_option linter.unusedSimpArgs false

/-
  The walk over the system that a statement's plain numbers mean.
-/
namespace Go.Proofs.YtlpffgmfgkleiaaGreatDoor
open Go.RowKit Go.Maps

/-- Plain numbers in a box, a system that comes back, plain numbers that are being made. -/
structure CopyAt (w : World) (S R : Int) (a : Option Addr) (n cap : Nat) (v : Value) (M : List NV) (W : World) : Prop where
  low : Below w.heap.size w W
  src : W.heap[w.heap.size]? = some (.cells #[.int .i64 S, .int .i64 R, .slice a n cap] 32 (0, 0))
  res : W.heap[w.heap.size + 1]? = some (.cells #[.int .i64 0, .int .i64 0, .slice none 0 0] 29 (0, 0))
  box : W.heap[w.heap.size + 2]? = some (.cells #[.int .i64 S, .int .i64 R, v] 55 (0, 0))
  own : OwnN W (w.heap.size + 3) v M
theorem CopyAt.below {w W W' : World} {S R : Int} {a : Option Addr} {n cap : Nat} {v : Value} {M : List NV} (h : CopyAt w S R a n cap v M W) (hb : Below W.heap.size W W') : CopyAt w S R a n cap v M W' :=
  ⟨below_up h.low hb, kept_obj hb h.src, kept_obj hb h.res, kept_obj hb h.box, h.own.below hb⟩
theorem copyAt_new {w : World} {S R : Int} {a : Option Addr} {n cap : Nat} : CopyAt w S R a n cap (.slice none 0 0) [] (((w.alloc (.cells #[.int .i64 S, .int .i64 R, .slice a n cap] 32)).alloc (.cells #[.int .i64 0, .int .i64 0, .slice none 0 0] 29)).alloc (.cells #[.int .i64 S, .int .i64 R, .slice none 0 0] 55)) := by
  refine ⟨(by repeat (first | exact Below.refl _ _ | (with_reducible assumption) | refine bw_alloc ?_ _ | refine bw_drew ?_)), ?_, ?_, ?_, OwnN.nil _ _⟩
  · rw [Below.heap_alloc _ _ _ (by simp; omega), Below.heap_alloc _ _ _ (by simp)]; exact heap_alloc_new w _
  · rw [Below.heap_alloc _ _ _ (by simp)]
    have := heap_alloc_new (w.alloc (.cells #[.int .i64 S, .int .i64 R, .slice a n cap] 32)) (.cells #[.int .i64 0, .int .i64 0, .slice none 0 0] 29)
    rwa [World.size_alloc] at this
  · have := heap_alloc_new ((w.alloc (.cells #[.int .i64 S, .int .i64 R, .slice a n cap] 32)).alloc (.cells #[.int .i64 0, .int .i64 0, .slice none 0 0] 29)) (.cells #[.int .i64 S, .int .i64 R, .slice none 0 0] 55)
    rwa [World.size_alloc, World.size_alloc] at this
theorem OwnN.set {w : World} {B : Nat} {v : Value} {l : List NV} (h : OwnN w B v l) {a : Addr} (ha : a.block < B) (u : Value) : OwnN (w.setCell a u) B v l := ownsRow_setCell_below h ha u
theorem CopyAt.push {w W w3 : World} {S R : Int} {a : Option Addr} {n cap : Nat} {v v' : Value} {M M' : List NV} (h : CopyAt w S R a n cap v M W) (hg : W.grownBy w3 v.ownBlock) (ho : OwnN w3 (w.heap.size + 3) v' M') :
    CopyAt w S R a n cap v' M' (w3.setCell ⟨w.heap.size + 2, 2, none⟩ v') ∧ w3.cell? ⟨w.heap.size + 2, 2, none⟩ = some v ∧ w3.frozen? ⟨w.heap.size + 2, 2, none⟩ = false := by
  have hs : w.heap.size + 3 ≤ W.heap.size := lt_of_block h.box
  have hb : Below (w.heap.size + 3) W w3 := (Below.refl _ W).grown hg hs (fun k hk => (h.own.new hk).1)
  have h3 := kept_objB hb (by omega) h.box
  refine ⟨⟨(h.low.trans (hb.mono (by omega))).setCell (p := ⟨w.heap.size + 2, 2, none⟩) (by show _ ≤ _ + 2; omega) _, ?_, ?_, (blk_set h3 _).trans rfl, ho.set (by show _ + 2 < _; omega) _⟩, by rw [blk_cell h3]; rfl, blk_free h3 2⟩
  · rw [blk_far (a := ⟨w.heap.size + 2, 2, none⟩) (by show _ ≠ _ + 2; omega)]; exact kept_objB hb (by omega) h.src
  · rw [blk_far (a := ⟨w.heap.size + 2, 2, none⟩) (by show _ ≠ _ + 2; omega)]; exact kept_objB hb (by omega) h.res
theorem copy_done {w W W5 : World} {s r : Int} {a : Option Addr} {n c : Nat} {L : List TV} (hl : Below w.heap.size w W) (hb : Below W.heap.size W W5) (hres : W5.heap[w.heap.size + 1]? = some (.cells #[.int .i64 0, .int .i64 0, .slice none 0 0] 29 (0, 0))) (hrl : w.heap.size + 1 < W.heap.size)
    (ho : OwnT W5 W.heap.size (.slice a n c) L) (hok : AllOk W5 L) (hi : ∀ x ∈ L, IsI W5 x.a1 x.ch ∧ IsI W5 x.a2 x.us) (hm : Made s r L) (x0 x1 x2 : Value) :
    MadeBack w (.returned (.agg #[.int .i64 s, .int .i64 r, .slice a n c])) (((W5.setCell ⟨w.heap.size + 1, 0, none⟩ x0).setCell ⟨w.heap.size + 1, 1, none⟩ x1).setCell ⟨w.heap.size + 1, 2, none⟩ x2) := by
  have hb2 : Below w.heap.size w (((W5.setCell ⟨w.heap.size + 1, 0, none⟩ x0).setCell ⟨w.heap.size + 1, 1, none⟩ x1).setCell ⟨w.heap.size + 1, 2, none⟩ x2) :=
    (((below_up hl hb).setCell (p := ⟨w.heap.size + 1, 0, none⟩) (Nat.le_succ _) x0).setCell (p := ⟨w.heap.size + 1, 1, none⟩) (Nat.le_succ _) x1).setCell (p := ⟨w.heap.size + 1, 2, none⟩) (Nat.le_succ _) x2
  have ho2 := ((ho.set (a := ⟨w.heap.size + 1, 0, none⟩) hrl x0).set (a := ⟨w.heap.size + 1, 1, none⟩) hrl x1).set (a := ⟨w.heap.size + 1, 2, none⟩) hrl x2
  have hk : ∀ (b : Nat) (cs : Array Value) (T : TypeId) (fr : Nat × Nat), W5.heap[b]? = some (.cells cs T fr) → (T = 2 ∨ T = 3) → (((W5.setCell ⟨w.heap.size + 1, 0, none⟩ x0).setCell ⟨w.heap.size + 1, 1, none⟩ x1).setCell ⟨w.heap.size + 1, 2, none⟩ x2).heap[b]? = W5.heap[b]? := by
    intro b cs T fr hc hT
    have hne : b ≠ w.heap.size + 1 := by
      rintro rfl
      rw [hres] at hc
      simp at hc
      rcases hT with q | q <;> rw [q] at hc <;> exact absurd hc.2.1 (by decide)
    rw [blk_far (a := ⟨w.heap.size + 1, 2, none⟩) hne, blk_far (a := ⟨w.heap.size + 1, 1, none⟩) hne, blk_far (a := ⟨w.heap.size + 1, 0, none⟩) hne]
  exact ⟨s, r, a, n, c, L, rfl, ho2.low (by omega), fun x hx => (hok x hx).kept (hi x hx) hk, fun x hx => ⟨(hi x hx).1.kept hk, (hi x hx).2.kept hk⟩, hm, hb2⟩

set_option maxRecDepth 100000 in
set_option maxHeartbeats 4000000 in
theorem made5_any {w : World} {a : Option Addr} {n cap : Nat} {L : List NV} (S R : Int) (hn : Nums w a n cap L) :
    Calls Tryz.prog 8 #[.agg #[.int .i64 S, .int .i64 R, .slice a n cap]] w (MadeBack w) := by
  have HA := Lib.hid hn
  have hz := zeroSys
  have hn9 := hn.small
  clear hn
  go_enter Tryz.func8, Tryz.ntmps8
  go_wp2_with fail
  refine gen_world (CopyAt w S R a n cap (.slice none 0 0) []) copyAt_new ?_
  intro W1 hw1
  have H1 := Lib.hid hw1
  obtain ⟨m, hm⟩ : ∃ m, m = min n 6 := ⟨_, rfl⟩
  have hm1 : m ≤ n := by omega
  have hm6 : m ≤ 6 := by omega
  have hor : m = n ∨ (m = 6 ∧ 6 < n) := by omega
  have HOR := Lib.hid hor
  clear hm hor hw1
  go_loopw [4] (fun u wr => ∃ (k : Nat) (a' : Option Addr) (cp' : Nat), k ≤ m ∧ u = .int .i64 k ∧ Hid (CopyAt w S R a n cap (.slice a' k cp') (L.take k) wr)) (fun u _ => (m - intOf u).toNat)
  case atStart => exact ⟨0, _, _, by omega, rfl, H1⟩
  case round =>
    obtain ⟨k, a', cp', hk, rfl, HP⟩ := hrel
    clear H1
    have b2 : wr.cell? ⟨w.heap.size + 2, 2, none⟩ = some (.slice a' k cp') := by rw [blk_cell HP.out.box]; rfl
    have s2 : wr.cell? ⟨w.heap.size, 2, none⟩ = some (.slice a n cap) := by rw [blk_cell HP.out.src]; rfl
    have hl2 : w.heap.size + 2 < wr.heap.size := lt_of_block HP.out.box
    have hl0 : w.heap.size < wr.heap.size := lt_of_block HP.out.src
    by_cases hlt : k < m
    · obtain ⟨x, hx⟩ := nth_of HA.out.len (show k < n by omega)
      obtain ⟨g', o', rfl, ⟨c0, c1, c2, c3, c4, c5⟩⟩ := (HA.out.view.below HP.out.low).at_ hx
      have hk1 : (k : Int) < (n : Int) := by omega
      have hk6 : (k : Int) < 6 := by omega
      have hk0 : (0 : Int) ≤ (k : Int) := by omega
      have HTL : Hid ((L.take k).length = k) := by show _ = _; rw [List.length_take, HA.out.len]; omega
      have HSM : Hid ((L.take k).length + 1 ≤ 2000000) := by show _ ≤ _; rw [HTL.out]; omega
      have HNN : Hid ((L.take k).length + 1 = k + 1) := by show _ = _; rw [HTL.out]
      have HTK : Hid (L.take k ++ [x] = L.take (k + 1)) := by show _ = _; rw [List.take_add_one, hx]; rfl
      clear hx
      go_upto_region 5 with fail
      go_region_law (refine nstep_append (m := 1) (l := [x]) rfl (.tmp 22) (.tmp 28) rfl (by rfl) (by rfl) (HP.out.below (by repeat (first | exact Below.refl _ _ | (with_reducible assumption) | refine bw_alloc ?_ _ | refine bw_drew ?_))).own (Nat.le_trans (lt_of_block HP.out.box) ((by repeat (first | exact Below.refl _ _ | (with_reducible assumption) | refine bw_alloc ?_ _ | refine bw_drew ?_)) : Below wr.heap.size wr _).size) (by first | exact NView.of_at (nat_new _ _ _) | exact (NView.of_at (nat_new _ _ _)).below (by repeat (first | exact Below.refl _ _ | (with_reducible assumption) | refine bw_alloc ?_ _ | refine bw_drew ?_))) rfl HSM.out (fun z => by cases z) (k + 1) HNN.out ?_
                     intro a3 k3 w3 o3 g3 l3
                     obtain ⟨hq, z1, z2⟩ := (HP.out.below (by repeat (first | exact Below.refl _ _ | (with_reducible assumption) | refine bw_alloc ?_ _ | refine bw_drew ?_))).push g3 (HTK.out ▸ o3)
                     have HN := Lib.hid hq
                     clear hq o3 g3 l3)
      all_goals
        go_wp2
        go_roundw
        case rel => exact ⟨k + 1, _, _, by omega, by go_num, HN⟩
        case measure => simp [intOf]; omega
    · obtain rfl : m = k := by omega
      have b0 : wr.cell? ⟨w.heap.size + 2, 0, none⟩ = some (.int .i64 S) := by rw [blk_cell HP.out.box]; rfl
      have b1 : wr.cell? ⟨w.heap.size + 2, 1, none⟩ = some (.int .i64 R) := by rw [blk_cell HP.out.box]; rfl
      have HTL : Hid ((L.take m).length = m) := by show _ = _; rw [List.length_take, HA.out.len]; omega
      have HNU : Hid (Nums wr a' m cp' (L.take m)) := by
        obtain ⟨a9, c9, e9, v9, _⟩ := HP.out.own.slice
        simp only [Value.slice.injEq] at e9
        obtain ⟨rfl, _, rfl⟩ := e9
        exact ⟨HTL.out, v9, fun x hx => (HA.out.ok x (List.mem_of_mem_take hx)).below HP.out.low, by omega⟩
      have C := Lib.hid (made_any S R HNU.out)
      have q1 : ¬ ((m : Int) < (n : Int)) ∨ ((m : Int) < (n : Int) ∧ ¬ ((m : Int) < 6)) := by
        rcases HOR.out with h | ⟨h1, h2⟩
        · left; omega
        · right; omega
      rcases q1 with q1 | ⟨q1, q2⟩
      all_goals
        go_wp2_with (go_at_call 23; (with_reducible refine (C.out).mono ?_); rintro e w5 ⟨s5, r5, a5, n5, c5, L5, rfl, ho5, hok5, hi5, hm5, b5⟩; have HR := Lib.hid (kept_obj b5 HP.out.res); have r0 : w5.cell? ⟨w.heap.size + 1, 0, none⟩ = some (.int .i64 0) := (by rw [blk_cell HR.out]; rfl); have r1 : w5.cell? ⟨w.heap.size + 1, 1, none⟩ = some (.int .i64 0) := (by rw [blk_cell HR.out]; rfl); have r2 : w5.cell? ⟨w.heap.size + 1, 2, none⟩ = some (.slice none 0 0) := (by rw [blk_cell HR.out]; rfl); have f0 := blk_free HR.out 0; have f1 := blk_free HR.out 1; have f2 := blk_free HR.out 2; have HD := Lib.hid (copy_done HP.out.low b5 HR.out (lt_of_block HP.out.res) ho5 hok5 hi5 hm5); clear ho5 hok5 hi5 hm5 b5)
        exact bodyPost_ret (v := .agg #[.int .i64 s5, .int .i64 r5, .slice a5 n5 c5]) (by simp [results, Tryz.results8, go_sem, r0, r1, r2]) rfl (HD.out _ _ _)
end Go.Proofs.YtlpffgmfgkleiaaGreatDoor

/-
  The walk over the law of rows of words, and of tasks and systems as texts.
-/
namespace Go.Proofs.YtlpffgmfgkleiaaGreatDoor
open Go.RowKit Go.Maps

abbrev RawT : TypeId := 34
/-- What came in, in a box. -/
structure RawAt (w : World) (x : TV) (S R : Int) (a2 : Option Addr) (n2 c2 : Nat) (S3 R3 : Int) (a3 : Option Addr) (n3 c3 : Nat) (v : World) : Prop where
  low : Below w.heap.size w v
  box : Box v w.heap.size RawT #[.int .i64 x.id, .int .i64 x.c, .int .i64 x.d, .int .i64 x.t, .int .i64 x.p, .slice x.a1 x.ch.length x.c1, .slice x.a2 x.us.length x.c2, .int .i64 S, .int .i64 R, .slice a2 n2 c2, .int .i64 S3, .int .i64 R3, .slice a3 n3 c3]
theorem RawAt.below {w v v' : World} {x : TV} {S R S3 R3 : Int} {a2 a3 : Option Addr} {n2 c2 n3 c3 : Nat} (h : RawAt w x S R a2 n2 c2 S3 R3 a3 n3 c3 v) (hb : Below v.heap.size v v') : RawAt w x S R a2 n2 c2 S3 R3 a3 n3 c3 v' := ⟨below_up h.low hb, kept_obj hb h.box⟩
theorem Words.cut {w : World} {a : Option Addr} {n cap k : Nat} {W : List WV} (h : Words w a n cap W) (hk : k ≤ n) : Words w a k cap (W.take k) := ⟨by rw [List.length_take, h.len]; omega, h.view.take k, Nat.le_trans hk h.le, h.small⟩
theorem Tasks.cut {w : World} {a : Option Addr} {n cap k : Nat} {L : List TV} (h : Tasks w a n cap L) (hk : k ≤ n) : Tasks w a k cap (L.take k) := ⟨by rw [List.length_take, h.len]; omega, h.view.take k, h.ok.take k, Nat.le_trans hk h.le, h.small⟩
theorem words_size {s : ByteArray} (hs : s.size ≤ 1050000) : WordsOk (wordsOf s) := fun x hx => by
  have q := (words_found s).1 x hx
  have h1 := q.in_
  have h2 := q.lo
  unfold WV.till at h1
  unfold I64
  omega
theorem rwords_back (s : ByteArray) (hs : s.size ≤ 1050000) {n : Nat} (hn : (wordsOf s).length = n) (w : World) : Calls Tryz.prog 10 #[.string s] w fun e w' => ∃ (a : Option Addr) (c : Nat), e = .returned (.slice a n c) ∧ Words w' a n c (wordsOf s) ∧ Below w.heap.size w w' :=
  (rwords_any s hs w).mono fun e w' ⟨a, c, h1, h2, h3⟩ => by
    obtain ⟨a', c', e2, hv, hl, hm⟩ := h2.slice
    cases e2
    rw [hn] at h1 hl
    exact ⟨a, c, h1, ⟨hn, hv, hl, hm⟩, h3⟩
theorem MadeBack.ints {w w' : World} {e : Ending} (h : MadeBack w e w') : ∃ (s r : Int) (a : Option Addr) (n c : Nat) (L : List TV), e = .returned (.agg #[.int .i64 s, .int .i64 r, .slice a n c]) ∧ Tasks w' a n c L ∧ (∀ x ∈ L, I64 x.p ∧ I64 x.id) ∧ Below w.heap.size w w' := by
  obtain ⟨s, r, a, n, c, L, he, ho, hok, -, hm, hb⟩ := h
  obtain ⟨a2, cap2, e2, hv, hl2, hmx⟩ := ho.slice
  cases e2
  refine ⟨s, r, a, _, c, L, he, ⟨rfl, hv, hok, hl2, hmx⟩, fun x hx => ?_, hb⟩
  have q := check_pass (check_made hm)
  have z := small_of (q.all x hx) q.s.2
  have z1 := z.id
  have z2 := z.p
  unfold I64
  omega

set_option maxRecDepth 100000 in
set_option maxHeartbeats 8000000 in
theorem law_lines (w : World) (hT : PT w) {W : List WV} (hW : WordsOk W) {a : Option Addr} {n cap : Nat} (hv : Words w a n cap W) (s : ByteArray) (x : TV) (hx : x.ok w) (S R : Int) {a2 : Option Addr} {n2 c2 : Nat} {L : List TV} (hL : Tasks w a2 n2 c2 L) (hLi : ∀ y ∈ L, I64 y.p ∧ I64 y.id) (S3 R3 : Int) {a3 : Option Addr} {n3 c3 : Nat} {L3 : List NV} (hn : Nums w a3 n3 c3 L3) :
    Calls Tryz.prog 3 #[.slice a n cap, .string s, .agg #[.int .i64 x.id, .int .i64 x.c, .int .i64 x.d, .int .i64 x.t, .int .i64 x.p, .slice x.a1 x.ch.length x.c1, .slice x.a2 x.us.length x.c2, .int .i64 S, .int .i64 R, .slice a2 n2 c2, .int .i64 S3, .int .i64 R3, .slice a3 n3 c3]] w fun e w' => e = .returned (.bool true) ∧ Below w.heap.size w w' := by
  have HPT : Hid (PT w) := hT
  have HX := Lib.hid hx
  obtain ⟨s1, hs1⟩ : ∃ t, shortOf s 80 = t := ⟨_, rfl⟩
  have hs1s : s1.size ≤ 80 := by
    rw [← hs1]; unfold shortOf
    split
    · rw [ByteArray.size_extract]; omega
    · omega
  have SH : Hid (∀ v, Calls Tryz.prog 11 #[.string s, .int .i64 80] v fun e w' => e = .returned (.string s1) ∧ v = w') := fun v => by have := short_any s 80 (by omega) v; rwa [hs1] at this
  have MKM : Hid (∀ v, Below w.heap.size w v → Calls Tryz.prog 8 #[.agg #[.int .i64 S3, .int .i64 R3, .slice a3 n3 c3]] v (MadeBack v)) := fun v hb => made5_any S3 R3 (hn.below hb)
  obtain ⟨nw, hnw⟩ : ∃ n, (wordsOf s1).length = n := ⟨_, rfl⟩
  have WB : Hid (∀ v, Calls Tryz.prog 10 #[.string s1] v fun e w' => ∃ (a : Option Addr) (c : Nat), e = .returned (.slice a nw c) ∧ Words w' a nw c (wordsOf s1) ∧ Below v.heap.size v w') := fun v => rwords_back s1 (by omega) hnw v
  have HWS : Hid (WordsOk (wordsOf s1)) := words_size (by omega)
  -- the words, twelve at most
  obtain ⟨k, hkw, hkd⟩ : ∃ k, Words w a k cap (W.take k) ∧ ((12 < n ∧ k = 12) ∨ (¬ 12 < n ∧ k = n)) := by
    by_cases q : 12 < n
    · exact ⟨12, hv.cut (by omega), .inl ⟨q, rfl⟩⟩
    · exact ⟨n, hv.cut (Nat.le_refl _), .inr ⟨q, rfl⟩⟩
  have HKW := Lib.hid hkw
  have HKO : Hid (WordsOk (W.take k)) := fun y hy => hW y (List.mem_of_mem_take hy)
  have aw : 12 < n → ∃ g o, a = some ⟨g, o, none⟩ := fun hl => by
    rcases hv.view with q | ⟨g, o, q, _⟩
    · have := hv.len; rw [q] at this; simp at this; omega
    · exact ⟨g, o, q⟩
  have ncap := hv.le
  obtain ⟨m, hmt, hmd⟩ : ∃ m, Tasks w a2 m c2 (L.take m) ∧ ((5 < n2 ∧ m = 5) ∨ (¬ 5 < n2 ∧ m = n2)) := by
    by_cases q : 5 < n2
    · exact ⟨5, hL.cut (by omega), .inl ⟨q, rfl⟩⟩
    · exact ⟨n2, hL.cut (Nat.le_refl _), .inr ⟨q, rfl⟩⟩
  have HMT := Lib.hid hmt
  have HMI : Hid (∀ y ∈ L.take m, I64 y.p ∧ I64 y.id) := fun y hy => hLi y (List.mem_of_mem_take hy)
  have at2 : 5 < n2 → ∃ g o, a2 = some ⟨g, o, none⟩ := fun hl => by
    rcases hL.view with q | ⟨g, o, q, _⟩
    · have := hL.len; rw [q] at this; simp at this; omega
    · exact ⟨g, o, q⟩
  have ncap2 := hL.le
  have HM5 : Hid (m ≤ 5) := by show _ ≤ _; omega
  generalize W.take k = W1 at HKW HKO hkw
  generalize L.take m = L1 at HMT HMI hmt
  clear hkw hmt hT hx hs1 hs1s hnw hn hv hL hLi hW
  go_enter Tryz.func3, Tryz.ntmps3
  go_upto_region 1 with fail
  refine gen_world (RawAt w x S R a2 n2 c2 S3 R3 a3 n3 c3) ⟨bw_alloc (Below.refl _ _) _, heap_alloc_new w _⟩ ?_
  intro u0 h0
  have H0 := Lib.hid h0
  clear h0
  go_upto_region 2 with (go_at_call 4; (with_reducible refine ((awake_any _).mono ?_)); rintro e u1 ⟨rfl, b1⟩; have H1 := Lib.hid (H0.out.below b1); clear b1)
  clear H0
  go_upto_if 15 with fail
  go_cut [0] from 13 to 18 (fun u wx => u = .slice a k cap ∧ Hid (RawAt w x S R a2 n2 c2 S3 R3 a3 n3 c3 wx))
  case first =>
    rcases hkd with ⟨q1, rfl⟩ | ⟨q1, rfl⟩
    · obtain ⟨g, o, rfl⟩ := aw q1
      have k1 : (12 : Int) < (n : Int) := by omega
      have k2 : (12 : Int) ≤ (cap : Int) := by omega
      have k3 : (12 : Int) ≤ (n : Int) := by omega
      have k4 : 12 ≤ cap := by omega
      clear at2 hmd
      go_wp2_with fail
      go_meet
      exact ⟨rfl, H1⟩
    · have k1 : ¬ (12 : Int) < (k : Int) := by omega
      clear at2 hmd aw
      go_wp2_with fail
      go_meet
      exact ⟨rfl, H1⟩
  case rest =>
    obtain ⟨rfl, H2⟩ := hcut
    clear H1 aw ncap hkd
    have r9 : wc.cell? ⟨w.heap.size, 9, none⟩ = some (.slice a2 n2 c2) := blk_cell H2.out.box 9
    have f9 := blk_free H2.out.box 9
    have hr := lt_of_block H2.out.box
    go_upto_if 22 with fail
    go_cut [0] from 18 to 29 (fun u wx => u = .slice a k cap ∧ Hid (RawAt w x S R a2 m c2 S3 R3 a3 n3 c3 wx))
    case first =>
      rcases hmd with ⟨q1, rfl⟩ | ⟨q1, rfl⟩
      · obtain ⟨g, o, rfl⟩ := at2 q1
        have k1 : (5 : Int) < (n2 : Int) := by omega
        have k2 : (5 : Int) ≤ (c2 : Int) := by omega
        have k3 : (5 : Int) ≤ (n2 : Int) := by omega
        have k4 : 5 ≤ c2 := by omega
        go_wp2_with fail
        go_meet
        exact ⟨rfl, Lib.hid ⟨H2.out.low.setCell (p := ⟨w.heap.size, 9, none⟩) (Nat.le_refl _) _, (blk_set (o := 9) H2.out.box _).trans rfl⟩⟩
      · have k1 : ¬ (5 : Int) < (m : Int) := by omega
        clear at2
        go_wp2_with fail
        go_meet
        exact ⟨rfl, H2⟩
    case rest =>
      obtain ⟨rfl, H3⟩ := hcut
      clear H2 at2 ncap2 hmd r9 f9 hr
      go_wp2_with fail
      go_loopw [8] (fun i wr => ∃ j : Nat, j ≤ m ∧ i = .int .i64 j ∧ Hid (RawAt w x S R a2 m c2 S3 R3 a3 n3 c3 wr)) (fun i _ => (m - intOf i).toNat)
      case atStart => exact ⟨0, by omega, rfl, H3⟩
      case round =>
        obtain ⟨j, hj, rfl, HP⟩ := hrel
        clear H3
        have r9 : wr.cell? ⟨w.heap.size, 9, none⟩ = some (.slice a2 m c2) := blk_cell HP.out.box 9
        have hr := lt_of_block HP.out.box
        by_cases hlt : j < m
        · obtain ⟨y, hy⟩ := nth_of HMT.out.len hlt
          obtain ⟨g, o, rfl, ⟨d0, d1, d2, d3, d4, d5, d6⟩⟩ := (HMT.out.view.below HP.out.low).at_ hy
          have hj1 : (j : Int) < (m : Int) := by omega
          have hj0 : (0 : Int) ≤ (j : Int) := by omega
          have HLT := Lib.hid hlt
          have hwi : IntKind.i64.wrap ((j : Int) + 1) = (j : Int) + 1 := IntWalk.i64_in _ (by have := HM5.out; omega)
          have HY : Hid (y.ok wr) := (HMT.out.ok.at_ hy).below HP.out.low
          obtain ⟨z, hz⟩ : ∃ z, lessOf y = z := ⟨_, rfl⟩
          have HZ : Hid (z.ok wr) := hz ▸ less_ok HY.out
          have CL : Hid (Calls Tryz.prog 5 #[y.val] wr fun e w' => e = .returned z.val ∧ Below wr.heap.size wr w') := hz ▸ less_any y wr HY.out
          unfold TV.val at CL
          obtain ⟨Y, hYY⟩ : ∃ Y, lineText z.tk = Y := ⟨_, rfl⟩
          have HYY := Lib.hid hYY
          clear hy hz hYY
          go_upto_region 10 with (go_at_call 5; (with_reducible refine (CL.out).mono ?_); rintro e u2 ⟨rfl, b2⟩; have P2 := Lib.hid (HP.out.below b2); have Z2 := Lib.hid (HZ.out.below b2); clear b2)
          refine gen_world (fun v => RawAt w x S R (some ⟨g, o, none⟩) m c2 S3 R3 a3 n3 c3 v ∧ z.ok v ∧ Box v u2.heap.size TT #[.int .i64 z.id, .int .i64 z.c, .int .i64 z.d, .int .i64 z.t, .int .i64 z.p, .slice z.a1 z.ch.length z.c1, .slice z.a2 z.us.length z.c2]) ⟨P2.out.below (bw_alloc (Below.refl _ _) _), Z2.out.below (bw_alloc (Below.refl _ _) _), heap_alloc_new u2 _⟩ ?_
          intro u3 ⟨hp3, hz3, hx3⟩
          have P3 := Lib.hid hp3
          have Z3 := Lib.hid hz3
          have X3 := Lib.hid hx3
          clear hp3 hz3 hx3 P2 Z2 CL r9 hr d0 d1 d2 d3 d4 d5 d6 HY HZ HP
          have E1 : Hid (∀ v, Below u3.heap.size u3 v → Calls Tryz.prog 6 #[.agg #[.int .i64 z.id, .int .i64 z.c, .int .i64 z.d, .int .i64 z.t, .int .i64 z.p, .slice z.a1 z.ch.length z.c1, .slice z.a2 z.us.length z.c2]] v fun e w' => e = .returned (.string Y) ∧ Below u3.heap.size u3 w') := fun v hb => by
            have := line_any z v (Z3.out.below hb) (HPT.out.below (below_up P3.out.low hb))
            rw [HYY.out] at this
            exact this.mono fun _ _ ⟨h1, h2⟩ => ⟨h1, below_up hb h2⟩
          have E2 : Hid (∀ v, Below u3.heap.size u3 v → Calls Tryz.prog 7 #[.agg #[.int .i64 z.id, .int .i64 z.c, .int .i64 z.d, .int .i64 z.t, .int .i64 z.p, .slice z.a1 z.ch.length z.c1, .slice z.a2 z.us.length z.c2]] v fun e w' => e = .returned (.string Y) ∧ Below u3.heap.size u3 w') := fun v hb => by
            have := rtext_any z v (Z3.out.below hb)
            rw [HYY.out] at this
            exact this.mono fun _ _ ⟨h1, h2⟩ => ⟨h1, below_up hb h2⟩
          have MK : Hid (∀ v, Below u3.heap.size u3 v → (Below u3.heap.size u3 v ∧ v.cell? ⟨u2.heap.size, 0, none⟩ = some (.int .i64 z.id) ∧ v.cell? ⟨u2.heap.size, 1, none⟩ = some (.int .i64 z.c) ∧ v.cell? ⟨u2.heap.size, 2, none⟩ = some (.int .i64 z.d) ∧ v.cell? ⟨u2.heap.size, 3, none⟩ = some (.int .i64 z.t) ∧ v.cell? ⟨u2.heap.size, 4, none⟩ = some (.int .i64 z.p) ∧ v.cell? ⟨u2.heap.size, 5, none⟩ = some (.slice z.a1 z.ch.length z.c1) ∧ v.cell? ⟨u2.heap.size, 6, none⟩ = some (.slice z.a2 z.us.length z.c2))) := fun v hb => ⟨hb, kept_cell hb (blk_cell X3.out 0), kept_cell hb (blk_cell X3.out 1), kept_cell hb (blk_cell X3.out 2), kept_cell hb (blk_cell X3.out 3), kept_cell hb (blk_cell X3.out 4), kept_cell hb (blk_cell X3.out 5), kept_cell hb (blk_cell X3.out 6)⟩
          have r0 := Below.refl u3.heap.size u3
          go_region_held3 (fun v => Below u3.heap.size u3 v ∧ v.cell? ⟨u2.heap.size, 0, none⟩ = some (.int .i64 z.id) ∧ v.cell? ⟨u2.heap.size, 1, none⟩ = some (.int .i64 z.c) ∧ v.cell? ⟨u2.heap.size, 2, none⟩ = some (.int .i64 z.d) ∧ v.cell? ⟨u2.heap.size, 3, none⟩ = some (.int .i64 z.t) ∧ v.cell? ⟨u2.heap.size, 4, none⟩ = some (.int .i64 z.p) ∧ v.cell? ⟨u2.heap.size, 5, none⟩ = some (.slice z.a1 z.ch.length z.c1) ∧ v.cell? ⟨u2.heap.size, 6, none⟩ = some (.slice z.a2 z.us.length z.c2)) (exact MK.out _ (by repeat (first | exact Below.refl _ _ | (with_reducible assumption) | refine bw_alloc ?_ _ | refine bw_drew ?_))) (first
            | (go_at_call 6; (with_reducible refine (E1.out _ (by repeat (first | exact Below.refl _ _ | (with_reducible assumption) | refine bw_alloc ?_ _ | refine bw_drew ?_))).mono ?_); rintro e wx ⟨rfl, bx⟩)
            | (go_at_call 7; (with_reducible refine (E2.out _ (by repeat (first | exact Below.refl _ _ | (with_reducible assumption) | refine bw_alloc ?_ _ | refine bw_drew ?_))).mono ?_); rintro e wx ⟨rfl, bx⟩))
          all_goals
            go_wp2_with fail
            go_roundw
            case rel => exact ⟨j + 1, by have := HLT.out; omega, by go_num, Lib.hid (P3.out.below (by repeat (first | exact Below.refl _ _ | (with_reducible assumption) | refine bw_alloc ?_ _ | refine bw_drew ?_)))⟩
            case measure => have := HLT.out; simp [intOf]; omega
        · obtain rfl : m = j := by omega
          clear hj hlt
          have p0 : wr.cell? ⟨w.heap.size, 0, none⟩ = some (.int .i64 x.id) := blk_cell HP.out.box 0
          have p1 : wr.cell? ⟨w.heap.size, 1, none⟩ = some (.int .i64 x.c) := blk_cell HP.out.box 1
          have p2 : wr.cell? ⟨w.heap.size, 2, none⟩ = some (.int .i64 x.d) := blk_cell HP.out.box 2
          have p3 : wr.cell? ⟨w.heap.size, 3, none⟩ = some (.int .i64 x.t) := blk_cell HP.out.box 3
          have p4 : wr.cell? ⟨w.heap.size, 4, none⟩ = some (.int .i64 x.p) := blk_cell HP.out.box 4
          have p5 : wr.cell? ⟨w.heap.size, 5, none⟩ = some (.slice x.a1 x.ch.length x.c1) := blk_cell HP.out.box 5
          have p6 : wr.cell? ⟨w.heap.size, 6, none⟩ = some (.slice x.a2 x.us.length x.c2) := blk_cell HP.out.box 6
          obtain ⟨z, hz⟩ : ∃ z, lessOf x = z := ⟨_, rfl⟩
          have HXX : Hid (x.ok wr) := HX.out.below HP.out.low
          have HZ : Hid (z.ok wr) := hz ▸ less_ok HXX.out
          have CL : Hid (Calls Tryz.prog 5 #[x.val] wr fun e w' => e = .returned z.val ∧ Below wr.heap.size wr w') := hz ▸ less_any x wr HXX.out
          unfold TV.val at CL
          obtain ⟨Y, hYY⟩ : ∃ Y, lineText z.tk = Y := ⟨_, rfl⟩
          have HYY := Lib.hid hYY
          clear hz hYY
          go_upto_region 13 with (go_at_call 5; (with_reducible refine (CL.out).mono ?_); rintro e u2 ⟨rfl, b2⟩; have P2 := Lib.hid (HP.out.below b2); have Z2 := Lib.hid (HZ.out.below b2); clear b2)
          refine gen_world (fun v => RawAt w x S R a2 m c2 S3 R3 a3 n3 c3 v ∧ z.ok v ∧ Box v u2.heap.size TT #[.int .i64 z.id, .int .i64 z.c, .int .i64 z.d, .int .i64 z.t, .int .i64 z.p, .slice z.a1 z.ch.length z.c1, .slice z.a2 z.us.length z.c2]) ⟨P2.out.below (bw_alloc (Below.refl _ _) _), Z2.out.below (bw_alloc (Below.refl _ _) _), heap_alloc_new u2 _⟩ ?_
          intro u3 ⟨hp3, hz3, hx3⟩
          have P3 := Lib.hid hp3
          have Z3 := Lib.hid hz3
          have X3 := Lib.hid hx3
          have s0 : u3.cell? ⟨w.heap.size, 10, none⟩ = some (.int .i64 S3) := blk_cell hp3.box 10
          have s1' : u3.cell? ⟨w.heap.size, 11, none⟩ = some (.int .i64 R3) := blk_cell hp3.box 11
          have s2 : u3.cell? ⟨w.heap.size, 12, none⟩ = some (.slice a3 n3 c3) := blk_cell hp3.box 12
          clear hp3 hz3 hx3 P2 Z2 CL p0 p1 p2 p3 p4 p5 p6 HXX HZ HP r9 hr
          go_upto_region 14 with (go_at_call 8; (with_reducible refine (MKM.out _ P3.out.low).mono ?_); rintro y u4 hm; obtain ⟨s', r', a5, n5, c5, M, rfl, hT5, hi5, b4⟩ := hm.ints; have P4 := Lib.hid (P3.out.below b4); have Z4 := Lib.hid (Z3.out.below b4); have X4 := Lib.hid (kept_obj b4 X3.out); have T4 := Lib.hid hT5; have I4 := Lib.hid hi5; clear hT5 hi5 b4 hm)
          refine gen_world (fun v => RawAt w x S R a2 m c2 S3 R3 a3 n3 c3 v ∧ z.ok v ∧ Box v u2.heap.size TT #[.int .i64 z.id, .int .i64 z.c, .int .i64 z.d, .int .i64 z.t, .int .i64 z.p, .slice z.a1 z.ch.length z.c1, .slice z.a2 z.us.length z.c2] ∧ Box v u4.heap.size SysT #[.int .i64 s', .int .i64 r', .slice a5 n5 c5] ∧ Tasks v a5 n5 c5 M) ⟨P4.out.below (bw_alloc (Below.refl _ _) _), Z4.out.below (bw_alloc (Below.refl _ _) _), kept_obj (bw_alloc (Below.refl _ _) _) X4.out, heap_alloc_new u4 _, T4.out.below (bw_alloc (Below.refl _ _) _)⟩ ?_
          intro u5 ⟨hp5, hz5, hx5, hy5, ht5⟩
          have P5 := Lib.hid hp5
          have Z5 := Lib.hid hz5
          have X5 := Lib.hid hx5
          have Y5 := Lib.hid hy5
          have T5 := Lib.hid ht5
          clear hp5 hz5 hx5 hy5 ht5 P4 Z4 X4 T4 P3 Z3 X3 s0 s1' s2 MKM
          have HB : Hid (∀ v, Below u5.heap.size u5 v → Below w.heap.size w v) := fun v hb => below_up P5.out.low hb
          have HMT5 : Hid (∀ v, Below u5.heap.size u5 v → Tasks v a2 m c2 L1) := fun v hb => HMT.out.below (HB.out v hb)
          obtain ⟨T1, hT1⟩ : ∃ T, printText s' r' (M.map TV.tk) = T := ⟨_, rfl⟩
          obtain ⟨T2, hT2⟩ : ∃ T, printText S R (L1.map TV.tk) = T := ⟨_, rfl⟩
          have R1 : Hid (∀ v, Below u5.heap.size u5 v → Calls Tryz.prog 9 #[.slice a k cap] v fun e w' => e = .returned (.bool true) ∧ Below u5.heap.size u5 w') := fun v hb => (reads_any HKO.out v (HKW.out.below (HB.out v hb))).mono fun _ _ ⟨h1, h2⟩ => ⟨h1, below_up hb h2⟩
          have R2 : Hid (∀ v, Below u5.heap.size u5 v → Calls Tryz.prog 10 #[.string s1] v fun e w' => ∃ (a : Option Addr) (c : Nat), e = .returned (.slice a nw c) ∧ Hid (Words w' a nw c (wordsOf s1)) ∧ Below u5.heap.size u5 w') := fun v hb => (WB.out v).mono fun _ _ ⟨a, c, h1, h2, h3⟩ => ⟨a, c, h1, h2, below_up hb h3⟩
          have R3 : Hid (∀ (a : Option Addr) (c : Nat) v, Below u5.heap.size u5 v → Hid (Words v a nw c (wordsOf s1)) → Calls Tryz.prog 9 #[.slice a nw c] v fun e w' => e = .returned (.bool true) ∧ Below u5.heap.size u5 w') := fun a c v hb hw => (reads_any HWS.out v hw.out).mono fun _ _ ⟨h1, h2⟩ => ⟨h1, below_up hb h2⟩
          have E1 : Hid (∀ v, Below u5.heap.size u5 v → Calls Tryz.prog 6 #[.agg #[.int .i64 z.id, .int .i64 z.c, .int .i64 z.d, .int .i64 z.t, .int .i64 z.p, .slice z.a1 z.ch.length z.c1, .slice z.a2 z.us.length z.c2]] v fun e w' => e = .returned (.string Y) ∧ Below u5.heap.size u5 w') := fun v hb => by
            have := line_any z v (Z5.out.below hb) (HPT.out.below (HB.out v hb))
            rw [HYY.out] at this
            exact this.mono fun _ _ ⟨h1, h2⟩ => ⟨h1, below_up hb h2⟩
          have E2 : Hid (∀ v, Below u5.heap.size u5 v → Calls Tryz.prog 7 #[.agg #[.int .i64 z.id, .int .i64 z.c, .int .i64 z.d, .int .i64 z.t, .int .i64 z.p, .slice z.a1 z.ch.length z.c1, .slice z.a2 z.us.length z.c2]] v fun e w' => e = .returned (.string Y) ∧ Below u5.heap.size u5 w') := fun v hb => by
            have := rtext_any z v (Z5.out.below hb)
            rw [HYY.out] at this
            exact this.mono fun _ _ ⟨h1, h2⟩ => ⟨h1, below_up hb h2⟩
          have E3 : Hid (∀ v, Below u5.heap.size u5 v → Calls Tryz.prog 12 #[.agg #[.int .i64 s', .int .i64 r', .slice a5 n5 c5]] v fun e w' => e = .returned (.string T1) ∧ Below u5.heap.size u5 w') := fun v hb => by
            have := print_any s' r' (T5.out.below hb) I4.out (HPT.out.below (HB.out v hb))
            rw [hT1] at this
            exact this.mono fun _ _ ⟨h1, h2⟩ => ⟨h1, below_up hb h2⟩
          have E4 : Hid (∀ v, Below u5.heap.size u5 v → Calls Tryz.prog 13 #[.agg #[.int .i64 s', .int .i64 r', .slice a5 n5 c5]] v fun e w' => e = .returned (.string T1) ∧ Below u5.heap.size u5 w') := fun v hb => by
            have := rprint_any s' r' (T5.out.below hb)
            rw [hT1] at this
            exact this.mono fun _ _ ⟨h1, h2⟩ => ⟨h1, below_up hb h2⟩
          have E5 : Hid (∀ v, Below u5.heap.size u5 v → Calls Tryz.prog 12 #[.agg #[.int .i64 S, .int .i64 R, .slice a2 m c2]] v fun e w' => e = .returned (.string T2) ∧ Below u5.heap.size u5 w') := fun v hb => by
            have := print_any S R (HMT5.out v hb) HMI.out (HPT.out.below (HB.out v hb))
            rw [hT2] at this
            exact this.mono fun _ _ ⟨h1, h2⟩ => ⟨h1, below_up hb h2⟩
          have E6 : Hid (∀ v, Below u5.heap.size u5 v → Calls Tryz.prog 13 #[.agg #[.int .i64 S, .int .i64 R, .slice a2 m c2]] v fun e w' => e = .returned (.string T2) ∧ Below u5.heap.size u5 w') := fun v hb => by
            have := rprint_any S R (HMT5.out v hb)
            rw [hT2] at this
            exact this.mono fun _ _ ⟨h1, h2⟩ => ⟨h1, below_up hb h2⟩
          have MK : Hid (∀ v, Below u5.heap.size u5 v → (Below u5.heap.size u5 v ∧ v.cell? ⟨u2.heap.size, 0, none⟩ = some (.int .i64 z.id) ∧ v.cell? ⟨u2.heap.size, 1, none⟩ = some (.int .i64 z.c) ∧ v.cell? ⟨u2.heap.size, 2, none⟩ = some (.int .i64 z.d) ∧ v.cell? ⟨u2.heap.size, 3, none⟩ = some (.int .i64 z.t) ∧ v.cell? ⟨u2.heap.size, 4, none⟩ = some (.int .i64 z.p) ∧ v.cell? ⟨u2.heap.size, 5, none⟩ = some (.slice z.a1 z.ch.length z.c1) ∧ v.cell? ⟨u2.heap.size, 6, none⟩ = some (.slice z.a2 z.us.length z.c2) ∧ v.cell? ⟨u4.heap.size, 0, none⟩ = some (.int .i64 s') ∧ v.cell? ⟨u4.heap.size, 1, none⟩ = some (.int .i64 r') ∧ v.cell? ⟨u4.heap.size, 2, none⟩ = some (.slice a5 n5 c5) ∧ v.cell? ⟨w.heap.size, 7, none⟩ = some (.int .i64 S) ∧ v.cell? ⟨w.heap.size, 8, none⟩ = some (.int .i64 R) ∧ v.cell? ⟨w.heap.size, 9, none⟩ = some (.slice a2 m c2))) := fun v hb => ⟨hb, kept_cell hb (blk_cell X5.out 0), kept_cell hb (blk_cell X5.out 1), kept_cell hb (blk_cell X5.out 2), kept_cell hb (blk_cell X5.out 3), kept_cell hb (blk_cell X5.out 4), kept_cell hb (blk_cell X5.out 5), kept_cell hb (blk_cell X5.out 6), kept_cell hb (blk_cell Y5.out 0), kept_cell hb (blk_cell Y5.out 1), kept_cell hb (blk_cell Y5.out 2), kept_cell hb (blk_cell P5.out.box 7), kept_cell hb (blk_cell P5.out.box 8), kept_cell hb (blk_cell P5.out.box 9)⟩
          have r0 := Below.refl u5.heap.size u5
          clear hT1 hT2 HMT5 HKW HMT I4 T5 Z5 X5 Y5 WB HYY HMI HKO HWS
          as_aux_lemma =>
            go_region_held3 (fun v => Below u5.heap.size u5 v ∧ v.cell? ⟨u2.heap.size, 0, none⟩ = some (.int .i64 z.id) ∧ v.cell? ⟨u2.heap.size, 1, none⟩ = some (.int .i64 z.c) ∧ v.cell? ⟨u2.heap.size, 2, none⟩ = some (.int .i64 z.d) ∧ v.cell? ⟨u2.heap.size, 3, none⟩ = some (.int .i64 z.t) ∧ v.cell? ⟨u2.heap.size, 4, none⟩ = some (.int .i64 z.p) ∧ v.cell? ⟨u2.heap.size, 5, none⟩ = some (.slice z.a1 z.ch.length z.c1) ∧ v.cell? ⟨u2.heap.size, 6, none⟩ = some (.slice z.a2 z.us.length z.c2) ∧ v.cell? ⟨u4.heap.size, 0, none⟩ = some (.int .i64 s') ∧ v.cell? ⟨u4.heap.size, 1, none⟩ = some (.int .i64 r') ∧ v.cell? ⟨u4.heap.size, 2, none⟩ = some (.slice a5 n5 c5) ∧ v.cell? ⟨w.heap.size, 7, none⟩ = some (.int .i64 S) ∧ v.cell? ⟨w.heap.size, 8, none⟩ = some (.int .i64 R) ∧ v.cell? ⟨w.heap.size, 9, none⟩ = some (.slice a2 m c2)) (exact MK.out _ (by repeat (first | exact Below.refl _ _ | (with_reducible assumption) | refine bw_alloc ?_ _ | refine bw_drew ?_))) (first
              | (go_at_call 9; (with_reducible refine (R1.out _ (by repeat (first | exact Below.refl _ _ | (with_reducible assumption) | refine bw_alloc ?_ _ | refine bw_drew ?_))).mono ?_); rintro e wx ⟨rfl, bx⟩)
              | (go_at_call 11; (with_reducible refine (SH.out _).mono ?_); rintro e wx ⟨rfl, rfl⟩)
              | (go_at_call 10; (with_reducible refine (R2.out _ (by repeat (first | exact Below.refl _ _ | (with_reducible assumption) | refine bw_alloc ?_ _ | refine bw_drew ?_))).mono ?_); rintro e wx ⟨a7, c7, rfl, hw7, bx⟩)
              | (go_at_call 9; (with_reducible refine (R3.out _ _ _ (by repeat (first | exact Below.refl _ _ | (with_reducible assumption) | refine bw_alloc ?_ _ | refine bw_drew ?_)) (by assumption)).mono ?_); rintro e wx ⟨rfl, bx⟩)
              | (go_at_call 6; (with_reducible refine (E1.out _ (by repeat (first | exact Below.refl _ _ | (with_reducible assumption) | refine bw_alloc ?_ _ | refine bw_drew ?_))).mono ?_); rintro e wx ⟨rfl, bx⟩)
              | (go_at_call 7; (with_reducible refine (E2.out _ (by repeat (first | exact Below.refl _ _ | (with_reducible assumption) | refine bw_alloc ?_ _ | refine bw_drew ?_))).mono ?_); rintro e wx ⟨rfl, bx⟩)
              | (go_at_call 12; (with_reducible refine (E3.out _ (by repeat (first | exact Below.refl _ _ | (with_reducible assumption) | refine bw_alloc ?_ _ | refine bw_drew ?_))).mono ?_); rintro e wx ⟨rfl, bx⟩)
              | (go_at_call 13; (with_reducible refine (E4.out _ (by repeat (first | exact Below.refl _ _ | (with_reducible assumption) | refine bw_alloc ?_ _ | refine bw_drew ?_))).mono ?_); rintro e wx ⟨rfl, bx⟩)
              | (go_at_call 12; (with_reducible refine (E5.out _ (by repeat (first | exact Below.refl _ _ | (with_reducible assumption) | refine bw_alloc ?_ _ | refine bw_drew ?_))).mono ?_); rintro e wx ⟨rfl, bx⟩)
              | (go_at_call 13; (with_reducible refine (E6.out _ (by repeat (first | exact Below.refl _ _ | (with_reducible assumption) | refine bw_alloc ?_ _ | refine bw_drew ?_))).mono ?_); rintro e wx ⟨rfl, bx⟩))
            all_goals
              go_wp2_with fail
              go_ret
              exact ⟨rfl, HB.out _ (by repeat (first | exact Below.refl _ _ | (with_reducible assumption) | refine bw_alloc ?_ _ | refine bw_drew ?_))⟩
end Go.Proofs.YtlpffgmfgkleiaaGreatDoor

/-
  Tasks and systems that came in, opened.
-/
namespace Go.Proofs.YtlpffgmfgkleiaaGreatDoor
open Go.ChangeShapes Go.WideShapes Go.ChangeAt Go.RowKit

instance : Inhabited TV := ⟨⟨0, 0, 0, 0, 0, none, [], 0, none, [], 0⟩⟩
section
variable {H : Type} {enc : TypeId × Value → H} {W : World} {base : Nat} {spare : Nat → Bool} {held : Bool}

/-- A row of numbers. -/
theorem open_nums {t e : TypeId} {fuel : Nat} {v : Value} {x : DataW H × List MemPlace} (ht : Tryz.prog.underlying t = some (.slice e)) (he : Tryz.prog.underlying e = some (.int .i64)) (hc : Tryz.prog.cellsOf e = 1)
    (h : DataW.trod enc Tryz.prog W base spare held fuel t [v] = some x) : ∃ (a : Option Addr) (l : List Int) (c : Nat), v = .slice a l.length c ∧ Ints W a l ∧ l.length ≤ c ∧ (c : Int) ≤ 9223372036854775807 ∧ ∀ y ∈ l, I64 y := by
  rcases open_ints ht he hc h with ⟨hcs, _⟩ | ⟨a, len, cap, zs, hcs, _, hl, hm, hz, _, hcell, hw⟩
  · simp at hcs; subst hcs
    exact ⟨none, [], 0, rfl, .inl rfl, Nat.le_refl _, by omega, fun y hy => by cases hy⟩
  · simp at hcs; subst hcs
    have hlz : len ≤ zs.length := by rw [hz]; split <;> omega
    have hlen : (zs.take len).length = len := by rw [List.length_take]; omega
    refine ⟨some a, zs.take len, cap, by rw [hlen], ?_, by omega, by unfold maxLen at hm; omega, fun y hy => i64_of_wf (hw y (List.mem_of_mem_take hy))⟩
    rcases Nat.eq_zero_or_pos len with e | e
    · left; rw [e]; simp
    · right
      have h0 := hcell 0 (by omega)
      rcases a with ⟨b, off, spot⟩
      have hs : spot = none := by
        cases spot with
        | none => rfl
        | some s => simp [World.cell?, Addr.add] at h0; split at h0 <;> simp at h0
      subst hs
      refine ⟨b, off, rfl, fun j u hj => ?_⟩
      rw [List.getElem?_take] at hj
      split at hj
      · obtain ⟨q1, q2⟩ := List.getElem?_eq_some_iff.1 hj
        have := hcell j q1
        rw [addr_at] at this
        rw [this]
        simp [List.getD_eq_getElem?_getD, hj]
      · cases hj

set_option maxRecDepth 100000 in
/-- The cells of a task. -/
theorem open_cells {fuel : Nat} {cs : List Value} {y : DataW H × List MemPlace} (h : DataW.trod enc Tryz.prog W base spare held fuel TT cs = some y) : ∃ x : TV, cs = x.cells ∧ x.ok W ∧ I64 x.p ∧ I64 x.id := by
  obtain ⟨xs, n, _, _, hl, hlen, hf⟩ := DataW.trod_struct Tryz.underlying26 h
  have hl7 : cs.length = 7 := hl.trans (by kernel_rfl)
  have hx7 : xs.length = 7 := hlen
  have k1 : Tryz.prog.cellsOf 3 = 1 := by kernel_rfl
  have k2 : Tryz.prog.cellsOf 2 = 1 := by kernel_rfl
  have k3 : Tryz.prog.cellsOf 23 = 1 := by kernel_rfl
  have k4 : Tryz.prog.cellsOf 24 = 1 := by kernel_rfl
  match cs, hl7, xs, hx7 with
  | [v0, v1, v2, v3, v4, v5, v6], _, [y0, y1, y2, y3, y4, y5, y6], _ =>
    have t0 : DataW.trod enc Tryz.prog W base spare held n 3 [v0] = some y0 := by have q := hf 0 _ rfl; simpa [k1, k2, k3, k4] using q
    have t1 : DataW.trod enc Tryz.prog W base spare held n 2 [v1] = some y1 := by have q := hf 1 _ rfl; simpa [k1, k2, k3, k4] using q
    have t2 : DataW.trod enc Tryz.prog W base spare held n 2 [v2] = some y2 := by have q := hf 2 _ rfl; simpa [k1, k2, k3, k4] using q
    have t3 : DataW.trod enc Tryz.prog W base spare held n 2 [v3] = some y3 := by have q := hf 3 _ rfl; simpa [k1, k2, k3, k4] using q
    have t4 : DataW.trod enc Tryz.prog W base spare held n 3 [v4] = some y4 := by have q := hf 4 _ rfl; simpa [k1, k2, k3, k4] using q
    have t5 : DataW.trod enc Tryz.prog W base spare held n 23 [v5] = some y5 := by have q := hf 5 _ rfl; simpa [k1, k2, k3, k4] using q
    have t6 : DataW.trod enc Tryz.prog W base spare held n 24 [v6] = some y6 := by have q := hf 6 _ rfl; simpa [k1, k2, k3, k4] using q
    obtain ⟨n0, e0, _, w0⟩ := DataW.trod_int Tryz.underlying3 t0
    obtain ⟨n1, e1, _, w1⟩ := DataW.trod_int Tryz.underlying2 t1
    obtain ⟨n2, e2, _, w2⟩ := DataW.trod_int Tryz.underlying2 t2
    obtain ⟨n3, e3, _, w3⟩ := DataW.trod_int Tryz.underlying2 t3
    obtain ⟨n4, e4, _, w4⟩ := DataW.trod_int Tryz.underlying3 t4
    obtain ⟨a1, l1, c1, e5, i5, le5, m5, _⟩ := open_nums (v := v5) Tryz.underlying23 Tryz.underlying2 k2 t5
    obtain ⟨a2, l2, c2, e6, i6, le6, m6, _⟩ := open_nums (v := v6) Tryz.underlying24 Tryz.underlying3 k1 t6
    simp at e0 e1 e2 e3 e4
    subst e0 e1 e2 e3 e4 e5 e6
    exact ⟨⟨n0, n1, n2, n3, n4, a1, l1, c1, a2, l2, c2⟩, rfl, ⟨i5, i6, le5, m5, le6, m6⟩, i64_of_wf w4, i64_of_wf w0⟩

set_option maxRecDepth 100000 in
/-- A task by value. -/
theorem open_task {r : Reach} {b0 : Nat} {v : Value} {d : DataW H} {p : List MemPlace} (hv : Value.okWide Tryz.prog W r b0 TT v) (h : DataW.Trod enc Tryz.prog W base spare held TT v d p) : ∃ x : TV, v = x.val ∧ x.ok W ∧ I64 x.p ∧ I64 x.id := by
  obtain ⟨cs, rfl, _⟩ := okWide_struct Tryz.underlying26 hv
  obtain ⟨fuel, hf⟩ := h
  obtain ⟨x, hx, h1, h2⟩ := open_cells hf
  refine ⟨x, ?_, h1, h2⟩
  simp only [Value.cells] at hx
  unfold TV.val
  congr 1
  apply Array.ext'
  exact hx

set_option maxRecDepth 100000 in
/-- A row of tasks. -/
theorem open_tasks {fuel : Nat} {v : Value} {y : DataW H × List MemPlace} (h : DataW.trod enc Tryz.prog W base spare held fuel 27 [v] = some y) :
    ∃ (a : Option Addr) (n c : Nat) (L : List TV), v = .slice a n c ∧ Tasks W a n c L ∧ ∀ x ∈ L, I64 x.p ∧ I64 x.id := by
  rcases Go.Deep.open_slice Tryz.underlying27 h with ⟨hcs, _⟩ | ⟨a, len, cap, m, n, D, Pl, hcs, hb, hl, hm, hmm, hx, hi⟩
  · simp at hcs; subst hcs
    exact ⟨none, 0, 0, [], rfl, ⟨rfl, .inl rfl, (fun x hx => by cases hx), Nat.le_refl _, by omega⟩, (fun x hx => by cases hx)⟩
  · simp at hcs; subst hcs
    have k7 : Tryz.prog.cellsOf TT = 7 := by kernel_rfl
    have hlm : len ≤ m := by rw [hmm]; split <;> omega
    obtain ⟨O, hO⟩ := Go.Deep.choose_lt (n := len) (p := fun i (x : TV) => (x.ok W ∧ I64 x.p ∧ I64 x.id) ∧ ∀ j u, x.cells[j]? = some u → W.cell? (a.add (i * 7 + j)) = some u) (fun i hil => by
      obtain ⟨cs, hc, htr⟩ := hi i (by omega)
      rw [k7] at hc
      obtain ⟨_, hcl, hat⟩ := World.cells?_some hc
      obtain ⟨x, rfl, h1, h2⟩ := open_cells htr
      refine ⟨x, ⟨h1, h2⟩, fun j u hj => ?_⟩
      have hjl : j < 7 := by
        have := (List.getElem?_eq_some_iff.1 hj).1
        rwa [cells_len] at this
      have := hat j hjl
      rw [Go.Deep.add_add] at this
      rw [this]; exact hj)
    refine ⟨some a, len, cap, (List.range len).map O, rfl, ⟨by simp, ?_, ?_, hl, by unfold maxLen at hm; omega⟩, ?_⟩
    · rcases Nat.eq_zero_or_pos len with z | z
      · subst z; left; rfl
      have z0 := (hO 0 z).2 0 _ rfl
      rcases a with ⟨b, off, spot⟩
      have hs : spot = none := by
        cases spot with
        | none => rfl
        | some s => simp [World.cell?, Addr.add] at z0; split at z0 <;> simp at z0
      subst hs
      refine .inr ⟨b, off, rfl, fun j u hj => ?_⟩
      have hjl : j < len * 7 := by
        have := (List.getElem?_eq_some_iff.1 hj).1
        rwa [flat_len, List.length_map, List.length_range] at this
      have hk : ((List.range len).map O)[j / 7]? = some (O (j / 7)) := by simp [show j / 7 < len by omega]
      have hf := flat_at _ _ _ hk (j % 7) (by omega)
      rw [show j / 7 * 7 + j % 7 = j by omega, hj] at hf
      have := (hO (j / 7) (by omega)).2 (j % 7) u hf.symm
      rw [addr_at, show j / 7 * 7 + j % 7 = j by omega] at this
      exact this
    · intro x hx
      obtain ⟨i, hi, rfl⟩ := List.mem_map.1 hx
      exact (hO i (by simpa using hi)).1.1
    · intro x hx
      obtain ⟨i, hi, rfl⟩ := List.mem_map.1 hx
      exact (hO i (by simpa using hi)).1.2

set_option maxRecDepth 100000 in
/-- A system by value. -/
theorem open_system {r : Reach} {b0 : Nat} {v : Value} {d : DataW H} {p : List MemPlace} (hv : Value.okWide Tryz.prog W r b0 29 v) (h : DataW.Trod enc Tryz.prog W base spare held 29 v d p) :
    ∃ (s r : Int) (a : Option Addr) (n c : Nat) (L : List TV), v = .agg #[.int .i64 s, .int .i64 r, .slice a n c] ∧ Tasks W a n c L ∧ ∀ x ∈ L, I64 x.p ∧ I64 x.id := by
  obtain ⟨v0, v1, v2, y0, y1, y2, n, rfl, _, _, t0, t1, t2⟩ := Go.Joins.open_agg3 Tryz.underlying29 (by kernel_rfl) (by kernel_rfl) hv h
  obtain ⟨n0, e0, _, _⟩ := DataW.trod_int Tryz.underlying3 t0
  obtain ⟨n1, e1, _, _⟩ := DataW.trod_int Tryz.underlying2 t1
  obtain ⟨a, n2, c, L, e2, h2, h3⟩ := open_tasks t2
  simp at e0 e1
  subst e0 e1 e2
  exact ⟨n0, n1, a, n2, c, L, rfl, h2, h3⟩
end
end Go.Proofs.YtlpffgmfgkleiaaGreatDoor

/-
  A system by plain numbers that came in, opened.
-/
namespace Go.Proofs.YtlpffgmfgkleiaaGreatDoor
open Go.ChangeShapes Go.WideShapes Go.ChangeAt Go.RowKit

instance : Inhabited NV := ⟨⟨0, 0, 0, 0, 0, none, [], 0⟩⟩
section
variable {H : Type} {enc : TypeId × Value → H} {W : World} {base : Nat} {spare : Nat → Bool} {held : Bool}

set_option maxRecDepth 100000 in
/-- The cells of a task's plain numbers. -/
theorem open_ncells {fuel : Nat} {cs : List Value} {y : DataW H × List MemPlace} (h : DataW.trod enc Tryz.prog W base spare held fuel 58 cs = some y) : ∃ x : NV, cs = x.cells ∧ x.ok W := by
  obtain ⟨xs, n, _, _, hl, hlen, hf⟩ := DataW.trod_struct Tryz.underlying58 h
  have hl7 : cs.length = 6 := hl.trans (by kernel_rfl)
  have hx7 : xs.length = 6 := hlen
  have k1 : Tryz.prog.cellsOf 3 = 1 := by kernel_rfl
  have k4 : Tryz.prog.cellsOf 24 = 1 := by kernel_rfl
  match cs, hl7, xs, hx7 with
  | [v0, v1, v2, v3, v4, v5], _, [y0, y1, y2, y3, y4, y5], _ =>
    have t0 : DataW.trod enc Tryz.prog W base spare held n 3 [v0] = some y0 := by have q := hf 0 _ rfl; simpa [k1, k4] using q
    have t1 : DataW.trod enc Tryz.prog W base spare held n 3 [v1] = some y1 := by have q := hf 1 _ rfl; simpa [k1, k4] using q
    have t2 : DataW.trod enc Tryz.prog W base spare held n 3 [v2] = some y2 := by have q := hf 2 _ rfl; simpa [k1, k4] using q
    have t3 : DataW.trod enc Tryz.prog W base spare held n 3 [v3] = some y3 := by have q := hf 3 _ rfl; simpa [k1, k4] using q
    have t4 : DataW.trod enc Tryz.prog W base spare held n 3 [v4] = some y4 := by have q := hf 4 _ rfl; simpa [k1, k4] using q
    have t5 : DataW.trod enc Tryz.prog W base spare held n 24 [v5] = some y5 := by have q := hf 5 _ rfl; simpa [k1, k4] using q
    obtain ⟨n0, e0, _, _⟩ := DataW.trod_int Tryz.underlying3 t0
    obtain ⟨n1, e1, _, _⟩ := DataW.trod_int Tryz.underlying3 t1
    obtain ⟨n2, e2, _, _⟩ := DataW.trod_int Tryz.underlying3 t2
    obtain ⟨n3, e3, _, _⟩ := DataW.trod_int Tryz.underlying3 t3
    obtain ⟨n4, e4, _, _⟩ := DataW.trod_int Tryz.underlying3 t4
    obtain ⟨a2, l2, c2, e5, i6, le6, m6, _⟩ := open_nums (v := v5) Tryz.underlying24 Tryz.underlying3 k1 t5
    simp at e0 e1 e2 e3 e4
    subst e0 e1 e2 e3 e4 e5
    exact ⟨⟨n0, n1, n2, n3, n4, a2, l2, c2⟩, rfl, ⟨i6, le6, m6⟩⟩

set_option maxRecDepth 100000 in
/-- A row of tasks' plain numbers. -/
theorem open_nrow {fuel : Nat} {v : Value} {y : DataW H × List MemPlace} (h : DataW.trod enc Tryz.prog W base spare held fuel 30 [v] = some y) :
    ∃ (a : Option Addr) (n c : Nat) (L : List NV), v = .slice a n c ∧ Nums W a n c L := by
  rcases Go.Deep.open_slice Tryz.underlying30 h with ⟨hcs, _⟩ | ⟨a, len, cap, m, n, D, Pl, hcs, hb, hl, hm, hmm, hx, hi⟩
  · simp at hcs; subst hcs
    exact ⟨none, 0, 0, [], rfl, ⟨rfl, .inl rfl, (fun x hx => by cases hx), by omega⟩⟩
  · simp at hcs; subst hcs
    have k7 : Tryz.prog.cellsOf 58 = 6 := by kernel_rfl
    have hlm : len ≤ m := by rw [hmm]; split <;> omega
    obtain ⟨O, hO⟩ := Go.Deep.choose_lt (n := len) (p := fun i (x : NV) => x.ok W ∧ ∀ j u, x.cells[j]? = some u → W.cell? (a.add (i * 6 + j)) = some u) (fun i hil => by
      obtain ⟨cs, hc, htr⟩ := hi i (by omega)
      rw [k7] at hc
      obtain ⟨_, hcl, hat⟩ := World.cells?_some hc
      obtain ⟨x, rfl, h1⟩ := open_ncells htr
      refine ⟨x, h1, fun j u hj => ?_⟩
      have hjl : j < 6 := by
        have := (List.getElem?_eq_some_iff.1 hj).1
        rwa [ncells_len] at this
      have := hat j hjl
      rw [Go.Deep.add_add] at this
      rw [this]; exact hj)
    refine ⟨some a, len, cap, (List.range len).map O, rfl, ⟨by simp, ?_, ?_, by unfold maxLen at hm; omega⟩⟩
    · rcases Nat.eq_zero_or_pos len with z | z
      · subst z; left; rfl
      have z0 := (hO 0 z).2 0 _ rfl
      rcases a with ⟨b, off, spot⟩
      have hs : spot = none := by
        cases spot with
        | none => rfl
        | some s => simp [World.cell?, Addr.add] at z0; split at z0 <;> simp at z0
      subst hs
      refine .inr ⟨b, off, rfl, fun j u hj => ?_⟩
      have hjl : j < len * 6 := by
        have := (List.getElem?_eq_some_iff.1 hj).1
        rwa [nflat_len, List.length_map, List.length_range] at this
      have hk : ((List.range len).map O)[j / 6]? = some (O (j / 6)) := by simp [show j / 6 < len by omega]
      have hf := nflat_at _ _ _ hk (j % 6) (by omega)
      rw [show j / 6 * 6 + j % 6 = j by omega, hj] at hf
      have := (hO (j / 6) (by omega)).2 (j % 6) u hf.symm
      rw [addr_at, show j / 6 * 6 + j % 6 = j by omega] at this
      exact this
    · intro x hx
      obtain ⟨i, hi, rfl⟩ := List.mem_map.1 hx
      exact (hO i (by simpa using hi)).1

set_option maxRecDepth 100000 in
/-- A system by plain numbers, by value. -/
theorem open_nsys {r : Reach} {b0 : Nat} {v : Value} {d : DataW H} {p : List MemPlace} (hv : Value.okWide Tryz.prog W r b0 32 v) (h : DataW.Trod enc Tryz.prog W base spare held 32 v d p) :
    ∃ (s r : Int) (a : Option Addr) (n c : Nat) (L : List NV), v = .agg #[.int .i64 s, .int .i64 r, .slice a n c] ∧ Nums W a n c L := by
  obtain ⟨v0, v1, v2, y0, y1, y2, n, rfl, _, _, t0, t1, t2⟩ := Go.Joins.open_agg3 Tryz.underlying32 (by kernel_rfl) (by kernel_rfl) hv h
  obtain ⟨n0, e0, _, _⟩ := DataW.trod_int Tryz.underlying3 t0
  obtain ⟨n1, e1, _, _⟩ := DataW.trod_int Tryz.underlying3 t1
  obtain ⟨a, n2, c, L, e2, h2⟩ := open_nrow t2
  simp at e0 e1
  subst e0 e1 e2
  exact ⟨n0, n1, a, n2, c, L, rfl, h2⟩
end
end Go.Proofs.YtlpffgmfgkleiaaGreatDoor

/-
  Rows of words, and raw tasks and systems, that came in, opened; a start that fits.
-/
namespace Go.Proofs.YtlpffgmfgkleiaaGreatDoor
open Go.ChangeShapes Go.WideShapes Go.ChangeAt Go.RowKit

instance : Inhabited WV := ⟨⟨0, 0, ⟨#[]⟩⟩⟩
theorem bulk_mem {H : Type} {d : DataW H} : ∀ {l : List (DataW H)}, d ∈ l → Rows.uptoBulk d ≤ Rows.uptoBulkAll l
  | [], h => by cases h
  | x :: l, h => by
    simp only [Rows.uptoBulkAll]
    rcases List.mem_cons.1 h with rfl | h
    · omega
    · have := bulk_mem h; omega
section
variable {H : Type} {enc : TypeId × Value → H} {W : World} {base : Nat} {spare : Nat → Bool} {held : Bool}

set_option maxRecDepth 100000 in
/-- The cells of a word. -/
theorem open_wcells {fuel : Nat} {cs : List Value} {y : DataW H × List MemPlace} (h : DataW.trod enc Tryz.prog W base spare held fuel 66 cs = some y) : ∃ x : WV, cs = x.cells ∧ I64 x.at_ ∧ x.tx.size ≤ Rows.uptoBulk y.1 := by
  obtain ⟨xs, n, _, hy, hl, hlen, hf⟩ := DataW.trod_struct Tryz.underlying66 h
  have hl3 : cs.length = 3 := hl.trans (by kernel_rfl)
  have hx3 : xs.length = 3 := hlen
  have k1 : Tryz.prog.cellsOf 3 = 1 := by kernel_rfl
  have k2 : Tryz.prog.cellsOf 9 = 1 := by kernel_rfl
  match cs, hl3, xs, hx3 with
  | [v0, v1, v2], _, [y0, y1, y2], _ =>
    have t0 : DataW.trod enc Tryz.prog W base spare held n 3 [v0] = some y0 := by have q := hf 0 _ rfl; simpa [k1, k2] using q
    have t1 : DataW.trod enc Tryz.prog W base spare held n 3 [v1] = some y1 := by have q := hf 1 _ rfl; simpa [k1, k2] using q
    have t2 : DataW.trod enc Tryz.prog W base spare held n 9 [v2] = some y2 := by have q := hf 2 _ rfl; simpa [k1, k2] using q
    obtain ⟨n0, e0, _, w0⟩ := DataW.trod_int Tryz.underlying3 t0
    obtain ⟨n1, e1, _, w1⟩ := DataW.trod_int Tryz.underlying3 t1
    obtain ⟨s, e2, d2, _⟩ := DataW.trod_string Tryz.underlying9 t2
    simp at e0 e1 e2
    subst e0 e1 e2
    refine ⟨⟨n0, n1, s⟩, rfl, i64_of_wf w0, ?_⟩
    rw [hy, d2]
    simp only [List.map_cons, List.map_nil, Rows.uptoBulk, Rows.uptoBulkAll]
    have e : s.data.toList.length = s.size := by rw [Array.length_toList]; rfl
    show s.size ≤ _
    omega
set_option maxRecDepth 100000 in
/-- A row of words. -/
theorem open_words {fuel : Nat} {v : Value} {y : DataW H × List MemPlace} (h : DataW.trod enc Tryz.prog W base spare held fuel 22 [v] = some y) :
    ∃ (a : Option Addr) (n c : Nat) (L : List WV), v = .slice a n c ∧ Words W a n c L ∧ ∀ x ∈ L, I64 x.at_ ∧ x.tx.size ≤ Rows.uptoBulk y.1 := by
  rcases Go.Deep.open_slice Tryz.underlying22 h with ⟨hcs, _⟩ | ⟨a, len, cap, m, n, D, Pl, hcs, hb, hl, hm, hmm, hx, hi⟩
  · simp at hcs; subst hcs
    exact ⟨none, 0, 0, [], rfl, ⟨rfl, .inl rfl, Nat.le_refl _, by omega⟩, (fun x hx => by cases hx)⟩
  · simp at hcs; subst hcs
    have k3 : Tryz.prog.cellsOf 66 = 3 := by kernel_rfl
    have hlm : len ≤ m := by rw [hmm]; split <;> omega
    obtain ⟨O, hO⟩ := Go.Deep.choose_lt (n := len) (p := fun i (x : WV) => (I64 x.at_ ∧ x.tx.size ≤ Rows.uptoBulk (D i)) ∧ ∀ j u, x.cells[j]? = some u → W.cell? (a.add (i * 3 + j)) = some u) (fun i hil => by
      obtain ⟨cs, hc, htr⟩ := hi i (by omega)
      rw [k3] at hc
      obtain ⟨_, hcl, hat⟩ := World.cells?_some hc
      obtain ⟨x, rfl, h1⟩ := open_wcells htr
      refine ⟨x, h1, fun j u hj => ?_⟩
      have hjl : j < 3 := by
        have := (List.getElem?_eq_some_iff.1 hj).1
        rwa [wcells_len] at this
      have := hat j hjl
      rw [Go.Deep.add_add] at this
      rw [this]; exact hj)
    refine ⟨some a, len, cap, (List.range len).map O, rfl, ⟨by simp, ?_, hl, by unfold maxLen at hm; omega⟩, ?_⟩
    · rcases Nat.eq_zero_or_pos len with z | z
      · subst z; left; rfl
      have z0 := (hO 0 z).2 0 _ rfl
      rcases a with ⟨b, off, spot⟩
      have hs : spot = none := by
        cases spot with
        | none => rfl
        | some s => simp [World.cell?, Addr.add] at z0; split at z0 <;> simp at z0
      subst hs
      refine .inr ⟨b, off, rfl, fun j u hj => ?_⟩
      have hjl : j < len * 3 := by
        have := (List.getElem?_eq_some_iff.1 hj).1
        rwa [wflat_len, List.length_map, List.length_range] at this
      have hk : ((List.range len).map O)[j / 3]? = some (O (j / 3)) := by simp [show j / 3 < len by omega]
      have hf := wflat_at _ _ _ hk (j % 3) (by omega)
      rw [show j / 3 * 3 + j % 3 = j by omega, hj] at hf
      have := (hO (j / 3) (by omega)).2 (j % 3) u hf.symm
      rw [addr_at, show j / 3 * 3 + j % 3 = j by omega] at this
      exact this
    · intro x hx'
      obtain ⟨i, hi', rfl⟩ := List.mem_map.1 hx'
      have hil : i < len := by simpa using hi'
      have q := (hO i hil).1
      refine ⟨q.1, Nat.le_trans q.2 ?_⟩
      rw [hx]
      simp only [Rows.uptoBulk]
      have : Rows.uptoBulk (D i) ≤ Rows.uptoBulkAll ((List.range len).map D) := bulk_mem (List.mem_map.2 ⟨i, hi', rfl⟩)
      omega
set_option maxRecDepth 100000 in
/-- A system's cells. -/
theorem open_syscells {fuel : Nat} {v0 v1 v2 : Value} {y : DataW H × List MemPlace} (h : DataW.trod enc Tryz.prog W base spare held fuel 29 [v0, v1, v2] = some y) :
    ∃ (s r : Int) (a : Option Addr) (n c : Nat) (L : List TV), v0 = .int .i64 s ∧ v1 = .int .i64 r ∧ v2 = .slice a n c ∧ Tasks W a n c L ∧ ∀ x ∈ L, I64 x.p ∧ I64 x.id := by
  obtain ⟨xs, n, _, _, _, hlen, hf⟩ := DataW.trod_struct Tryz.underlying29 h
  have hx3 : xs.length = 3 := hlen
  have k1 : Tryz.prog.cellsOf 3 = 1 := by kernel_rfl
  have k2 : Tryz.prog.cellsOf 2 = 1 := by kernel_rfl
  have k3 : Tryz.prog.cellsOf 27 = 1 := by kernel_rfl
  match xs, hx3 with
  | [y0, y1, y2], _ =>
    have t0 : DataW.trod enc Tryz.prog W base spare held n 3 [v0] = some y0 := by have q := hf 0 _ rfl; simpa [k1, k2, k3] using q
    have t1 : DataW.trod enc Tryz.prog W base spare held n 2 [v1] = some y1 := by have q := hf 1 _ rfl; simpa [k1, k2, k3] using q
    have t2 : DataW.trod enc Tryz.prog W base spare held n 27 [v2] = some y2 := by have q := hf 2 _ rfl; simpa [k1, k2, k3] using q
    obtain ⟨n0, e0, _, _⟩ := DataW.trod_int Tryz.underlying3 t0
    obtain ⟨n1, e1, _, _⟩ := DataW.trod_int Tryz.underlying2 t1
    obtain ⟨a, n2, c, L, e2, h2, h3⟩ := open_tasks t2
    simp at e0 e1
    exact ⟨n0, n1, a, n2, c, L, e0, e1, e2, h2, h3⟩
set_option maxRecDepth 100000 in
/-- A system's plain numbers' cells. -/
theorem open_nsyscells {fuel : Nat} {v0 v1 v2 : Value} {y : DataW H × List MemPlace} (h : DataW.trod enc Tryz.prog W base spare held fuel 32 [v0, v1, v2] = some y) :
    ∃ (s r : Int) (a : Option Addr) (n c : Nat) (L : List NV), v0 = .int .i64 s ∧ v1 = .int .i64 r ∧ v2 = .slice a n c ∧ Nums W a n c L := by
  obtain ⟨xs, n, _, _, _, hlen, hf⟩ := DataW.trod_struct Tryz.underlying32 h
  have hx3 : xs.length = 3 := hlen
  have k1 : Tryz.prog.cellsOf 3 = 1 := by kernel_rfl
  have k3 : Tryz.prog.cellsOf 30 = 1 := by kernel_rfl
  match xs, hx3 with
  | [y0, y1, y2], _ =>
    have t0 : DataW.trod enc Tryz.prog W base spare held n 3 [v0] = some y0 := by have q := hf 0 _ rfl; simpa [k1, k3] using q
    have t1 : DataW.trod enc Tryz.prog W base spare held n 3 [v1] = some y1 := by have q := hf 1 _ rfl; simpa [k1, k3] using q
    have t2 : DataW.trod enc Tryz.prog W base spare held n 30 [v2] = some y2 := by have q := hf 2 _ rfl; simpa [k1, k3] using q
    obtain ⟨n0, e0, _, _⟩ := DataW.trod_int Tryz.underlying3 t0
    obtain ⟨n1, e1, _, _⟩ := DataW.trod_int Tryz.underlying3 t1
    obtain ⟨a, n2, c, L, e2, h2⟩ := open_nrow t2
    simp at e0 e1
    exact ⟨n0, n1, a, n2, c, L, e0, e1, e2, h2⟩
set_option maxRecDepth 100000 in
/-- Raw ones, by value. -/
theorem open_raw {r : Reach} {b0 : Nat} {v : Value} {d : DataW H} {p : List MemPlace} (hv : Value.okWide Tryz.prog W r b0 34 v) (h : DataW.Trod enc Tryz.prog W base spare held 34 v d p) :
    ∃ (x : TV) (S R : Int) (a2 : Option Addr) (n2 c2 : Nat) (L : List TV) (S3 R3 : Int) (a3 : Option Addr) (n3 c3 : Nat) (L3 : List NV),
      v = .agg #[.int .i64 x.id, .int .i64 x.c, .int .i64 x.d, .int .i64 x.t, .int .i64 x.p, .slice x.a1 x.ch.length x.c1, .slice x.a2 x.us.length x.c2, .int .i64 S, .int .i64 R, .slice a2 n2 c2, .int .i64 S3, .int .i64 R3, .slice a3 n3 c3] ∧
      x.ok W ∧ Tasks W a2 n2 c2 L ∧ (∀ y ∈ L, I64 y.p ∧ I64 y.id) ∧ Nums W a3 n3 c3 L3 := by
  obtain ⟨cs, rfl, _⟩ := okWide_struct Tryz.underlying34 hv
  obtain ⟨fuel, hf0⟩ := h
  simp only [Value.cells] at hf0
  obtain ⟨xs, n, _, _, hl, hlen, hf⟩ := DataW.trod_struct Tryz.underlying34 hf0
  have hl13 : cs.toList.length = 13 := hl.trans (by kernel_rfl)
  have hx3 : xs.length = 3 := hlen
  have k1 : Tryz.prog.cellsOf TT = 7 := by kernel_rfl
  have k2 : Tryz.prog.cellsOf 29 = 3 := by kernel_rfl
  have k3 : Tryz.prog.cellsOf 32 = 3 := by kernel_rfl
  obtain ⟨l, hl'⟩ : ∃ l, cs.toList = l := ⟨_, rfl⟩
  have hcs : cs = l.toArray := by rw [← hl']
  rw [hl'] at hl13 hf
  match l, hl13, xs, hx3 with
  | [v0, v1, v2, v3, v4, v5, v6, v7, v8, v9, v10, v11, v12], _, [y0, y1, y2], _ =>
    have t0 : DataW.trod enc Tryz.prog W base spare held n TT [v0, v1, v2, v3, v4, v5, v6] = some y0 := by have q := hf 0 _ rfl; simpa [k1] using q
    have t1 : DataW.trod enc Tryz.prog W base spare held n 29 [v7, v8, v9] = some y1 := by have q := hf 1 _ rfl; simpa [k2] using q
    have t2 : DataW.trod enc Tryz.prog W base spare held n 32 [v10, v11, v12] = some y2 := by have q := hf 2 _ rfl; simpa [k3] using q
    obtain ⟨x, e0, hx, _⟩ := open_cells t0
    obtain ⟨S, R, a2, n2, c2, L, rfl, rfl, rfl, hL, hLi⟩ := open_syscells t1
    obtain ⟨S3, R3, a3, n3, c3, L3, rfl, rfl, rfl, hL3⟩ := open_nsyscells t2
    refine ⟨x, S, R, a2, n2, c2, L, S3, R3, a3, n3, c3, L3, ?_, hx, hL, hLi, hL3⟩
    rw [hcs]
    simp only [TV.cells, List.cons.injEq, and_true] at e0
    obtain ⟨rfl, rfl, rfl, rfl, rfl, rfl, rfl⟩ := e0
    rfl
/-- A start that fits, at a world that is written out. -/
theorem start_fits {C : Checked} {os : Os} {f : FuncId} {fn : Func} {s : OpenSpec} {conds : List PathCond} {apart : Bool} {laid : List (String × DataW Unit)} (modest : Bool) (w0 : World) (args : Array Value) (hos : w0.os = os)
    (hsh : (w0.forCall (fun _ _ => 0) ⟨#[], args, []⟩).Shaped C.prog)
    (hok : Input.okWideB C.prog (w0.forCall (fun _ _ => 0) ⟨#[], args, []⟩) f ⟨#[], args, []⟩ = true)
    (hrow : s.preRow enc C.prog fn conds apart laid (w0.forCall (fun _ _ => 0) ⟨#[], args, []⟩).memory args) :
    ∃ (w : World) (tape : Tape) (i : Input), w.os = os ∧ (w.forCall tape i).Shaped C.prog ∧ i.vars = [] ∧ Input.okWide C.prog (w.forCall tape i) .any w.heap.size f i ∧
      s.preRow enc C.prog fn conds apart laid (w.forCall tape i).memory i.args ∧ ({ modest := modest } : Assume).holds C.prog (Go.lone (Frame.enter C.prog f i.args .normal) [] (w.forCall tape i)) :=
  ⟨w0, fun _ _ => 0, ⟨#[], args, []⟩, hos, hsh, (Input.okWide_of_okWideB (base := 0) hok).1, (Input.okWide_of_okWideB hok).2, hrow, by
    simp only [Assume.holds]
    exact ⟨by simp, by simp, fun _ => Modest.zero, by simp, by simp⟩⟩
end
end Go.Proofs.YtlpffgmfgkleiaaGreatDoor

/-
  What the listed variables hold where a call begins; a start at which they hold it.
-/
namespace Go.Proofs.YtlpffgmfgkleiaaGreatDoor
open Go.ChangeShapes Go.WideShapes Go.ChangeAt Go.RowKit

theorem tiedOwn : ownKnob Tryz.prog.godebug = none := by kernel_rfl
theorem tiedLaidOut : laidOutB Tryz.prog = true := by kernel_rfl
theorem laidMet_tail {P : Program} {x : String × DataW Unit} {r : List (String × DataW Unit)} {w : World} (h : laidMet P (x :: r) w) : laidMet P r w := by
  obtain ⟨ps, hv, hn, hr⟩ := h
  obtain ⟨g, t, cs, fuel, p, q, h1, h2, h3, h4, h5, h6⟩ := hv
  subst h6
  exact ⟨q, h5, (List.nodup_append.1 hn).2.1, fun b off hp => hr b off (List.mem_append_right _ hp)⟩
theorem powName : Tryz.prog.globalNamed "internal/strconv.uint64pow10" = some 0 := by kernel_rfl
theorem powType : (Tryz.prog.globals[0]?).map (·.type) = some 160 := by kernel_rfl
theorem powCells1 : Tryz.prog.cellsOf 89 = 1 := by kernel_rfl
theorem powCells : Tryz.prog.cellsOf 160 = 20 := by kernel_rfl
theorem pt_of_met {r : List (String × DataW Unit)} {W : World} (h : laidMet Tryz.prog (("internal/strconv.uint64pow10", Rows.laid_internal_strconv_uint64pow10) :: r) W) : PT W :=
  Lib.tabIs_of_head powName powType Tryz.underlying160 Tryz.underlying89 powCells1 powCells h

abbrev tabLaid3 : List (String × DataW Unit) := [("math/bits.deBruijn32tab", Rows.laid_math_bits_deBruijn32tab), ("math/bits.deBruijn64tab", Rows.laid_math_bits_deBruijn64tab), ("internal/strconv.uint64pow10", Rows.laid_internal_strconv_uint64pow10)]
theorem door_met3 (os : Os) (args : Array Value) : laidMetH Tryz.prog tabLaid3 ((World.doorLaid Tryz.prog 400 os).forCall (fun _ _ => 0) ⟨#[], args, []⟩).memory :=
  laidMetH_of_parts3 (fuel := 8) (laidMet_of_run' 8 (by kernel_rfl) (by kernel_rfl)) (by kernel_rfl) (by kernel_rfl)
theorem pt_of_laid3 {W : World} (h : laidMetH Tryz.prog tabLaid3 W) : PT W := by
  rw [MakeChecks.laidMetH_plain _ _ _ (by kernel_rfl)] at h
  exact pt_of_met (laidMet_tail (laidMet_tail h))
end Go.Proofs.YtlpffgmfgkleiaaGreatDoor

/-
  What the listed variables hold where a call begins, with two more tables; a start at which they hold it.
-/
namespace Go.Proofs.YtlpffgmfgkleiaaGreatDoor
open Go.ChangeShapes Go.WideShapes Go.ChangeAt Go.RowKit

abbrev tabLaid5 : List (String × DataW Unit) := [("math/bits.deBruijn32tab", Rows.laid_math_bits_deBruijn32tab), ("math/bits.deBruijn64tab", Rows.laid_math_bits_deBruijn64tab), ("internal/strconv.uint64pow10", Rows.laid_internal_strconv_uint64pow10), ("unicode/utf8.acceptRanges", Rows.laid_unicode_utf8_acceptRanges), ("unicode/utf8.first", Rows.laid_unicode_utf8_first)]
theorem all_shaped5 (os : Os) : (World.laidAll Tryz.prog os tabLaid5).Shaped Tryz.prog := World.shaped_of_ZipB (by kernel_rfl) (by kernel_rfl)
theorem door_met5 (os : Os) (args : Array Value) : laidMetH Tryz.prog tabLaid5 ((World.laidAll Tryz.prog os tabLaid5).forCall (fun _ _ => 0) ⟨#[], args, []⟩).memory := by
  rw [MakeChecks.laidMetH_plain _ _ _ (by kernel_rfl)]
  exact laidMet_laidAll _ (by kernel_rfl) (by kernel_rfl)
theorem pt_of_laid5 {W : World} (h : laidMetH Tryz.prog tabLaid5 W) : PT W := by
  rw [MakeChecks.laidMetH_plain _ _ _ (by kernel_rfl)] at h
  exact pt_of_met (laidMet_tail (laidMet_tail h))
end Go.Proofs.YtlpffgmfgkleiaaGreatDoor

/-
  What the two listed tables hold where a call begins; a start at which they hold it; how bytes are turned, opened.
-/
namespace Go.Proofs.YtlpffgmfgkleiaaGreatDoor
open Go.ChangeShapes Go.WideShapes Go.ChangeAt Go.RowKit

theorem tiedOwn7 : ownKnob Tryz.prog.godebug = none := by kernel_rfl
theorem tiedLaidOut7 : laidOutB Tryz.prog = true := by kernel_rfl
end Go.Proofs.YtlpffgmfgkleiaaGreatDoor
