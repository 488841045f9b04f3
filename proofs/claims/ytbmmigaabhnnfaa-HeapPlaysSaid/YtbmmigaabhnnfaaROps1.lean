/-
  The walks over the document's own heap: a key put, a number lowered, a key dropped, a key's number.
-/
import Derived.Test.YtbmmigaabhnnfaaRMem
namespace Go.Proofs.Ytbmmigaabhnnfaa
open Go.RowKit Go.Maps

theorem con_set {n : Nat} {e : Nat → Int × Int} {c : Int → Option Int} {i : Nat} {x : Int} (hc : Content n e c) (ho : Once n e) (hi : i < n) : Content n (upd e i ((e i).1, x)) (cput c (e i).1 x) := con_upd hc ho hi (Same.refl _ _)
theorem once_upd {n : Nat} {e : Nat → Int × Int} {i : Nat} {x : Int} (ho : Once n e) : Once n (upd e i ((e i).1, x)) := by
  have hk : ∀ k, (upd e i ((e i).1, x) k).1 = (e k).1 := by
    intro k; unfold upd; split
    · rename_i q; rw [q]
    · rfl
  exact fun a b ha hb hab => ho a b ha hb (by rw [← hk a, ← hk b]; exact hab)

set_option maxRecDepth 100000 in
set_option maxHeartbeats 1000000 in
theorem rget_any {w : World} {rb : Nat} {A : Nat → Prop} {n : Nat} {c : Int → Option Int} (hn : (n : Int) ≤ 1000000) (h : Rp w rb A n c) (k : Int) :
    Calls Try.prog 22 #[.pointer (some ⟨rb, 0, none⟩), .int .i64 k] w fun r w' => r = .returned (.agg #[.int .i64 ((c k).getD 0), .bool (c k).isSome]) ∧ Below w.heap.size w w' := by
  obtain ⟨v, e, hv, _⟩ := h.ex
  have hv1 := hv.kept (w' := w.alloc (.cells #[.int .i64 0, .bool false] 45)) (Turn.of_below (S := fun _ => False) ((Below.refl _ _).alloc (Nat.le_refl _) _)) (fun _ _ q => q)
  rcases rat_hv hv1 hn k with ⟨⟨h1, _⟩, hc⟩ | ⟨j, ⟨hj, h1, h2⟩, hc⟩
  · rw [h1]
    have C := Lib.hid hc
    clear hc hv hv1 h h1
    go_enter Try.func22, Try.ntmps22
    go_wp2_with (go_at_call 31; (refine (C.out).mono ?_); rintro r w1 ⟨rfl, rfl⟩)
    exact bodyPost_ret (v := .agg #[.int .i64 0, .bool false]) (by simp [results, Try.results22, go_sem]) rfl ⟨rfl, (Below.refl _ _).alloc (Nat.le_refl _) _⟩
  · rw [h2]
    have C := Lib.hid hc
    obtain ⟨g, cap, rfl, hr⟩ : ∃ g cap, v = .slice (some ⟨g, 0, none⟩) n cap ∧ RRow w g n cap e := by
      rcases hv.row with ⟨_, q⟩ | q
      · omega
      · exact q
    obtain ⟨c0, _⟩ := hv.str.cell
    obtain ⟨_, i1⟩ := hr.cells hj
    have l1 := hv.str.lt
    have l2 := hr.lt
    have hj1 : (j : Int) < (n : Int) := by omega
    have hj0 : (0 : Int) ≤ (j : Int) := by omega
    clear hc hv hv1 h h1 h2 hr
    generalize (e j).2 = y at i1 ⊢
    go_enter Try.func22, Try.ntmps22
    go_wp2_with (go_at_call 31; (refine (C.out).mono ?_); rintro r w1 ⟨rfl, rfl⟩)
    exact bodyPost_ret (v := .agg #[.int .i64 y, .bool true]) (by simp [results, Try.results22, go_sem]) rfl ⟨rfl, (Below.refl _ _).alloc (Nat.le_refl _) _⟩

set_option maxRecDepth 100000 in
set_option maxHeartbeats 1000000 in
theorem rlower_any {w : World} {rb : Nat} {A : Nat → Prop} {n : Nat} {c : Int → Option Int} (hn : (n : Int) ≤ 1000000) (h : Rp w rb A n c) {k x : Int} (hx : I64 x) :
    (c k = none ∨ (∃ y, c k = some y ∧ y ≤ x)) ∧ Calls Try.prog 14 #[.pointer (some ⟨rb, 0, none⟩), .int .i64 k, .int .i64 x] w (fun r w' => r = .returned (.bool false) ∧ w = w') ∨
    (∃ y, c k = some y ∧ x < y) ∧ Calls Try.prog 14 #[.pointer (some ⟨rb, 0, none⟩), .int .i64 k, .int .i64 x] w (fun r w' => r = .returned (.bool true) ∧ RStep w rb A n (cput c k x) w') := by
  obtain ⟨v, e, hv, ha⟩ := h.ex
  rcases rat_hv hv hn k with ⟨⟨h1, _⟩, hc⟩ | ⟨j, ⟨hj, h1, h2⟩, hc⟩
  · refine .inl ⟨.inl h1, ?_⟩
    have C := Lib.hid hc
    clear hc hv ha h h1 hx
    go_enter Try.func14, Try.ntmps14
    go_wp2_with (go_at_call 31; (refine (C.out).mono ?_); rintro r w1 ⟨rfl, rfl⟩)
    go_ret
    exact ⟨rfl, rfl⟩
  · have C := Lib.hid hc
    obtain ⟨g, cap, rfl, hr⟩ : ∃ g cap, v = .slice (some ⟨g, 0, none⟩) n cap ∧ RRow w g n cap e := by
      rcases hv.row with ⟨_, q⟩ | q
      · omega
      · exact q
    obtain ⟨c0, _⟩ := hv.str.cell
    obtain ⟨_, i1⟩ := hr.cells hj
    have z1 := hr.free (j * 2 + 1)
    have hj1 : (j : Int) < (n : Int) := by omega
    have hj0 : (0 : Int) ≤ (j : Int) := by omega
    by_cases hlt : x < (e j).2
    · refine .inr ⟨⟨_, h2, hlt⟩, ?_⟩
      have HR : Hid (RStep w rb A n (cput c k x) (w.setCell ⟨g, j * 2 + 1, none⟩ (.int .i64 x))) := by
        have hne : rb ≠ g := by
          rintro rfl
          have q1 := hv.str
          obtain ⟨_, _, cur, q2, _⟩ := hr
          unfold RStr at q1
          rw [q1] at q2
          simp at q2
        have ht : Turn (fun k => k = g) w (w.setCell ⟨g, j * 2 + 1, none⟩ (.int .i64 x)) := Turn.setCell (S := fun k => k = g) (Turn.refl _ _) (p := ⟨g, j * 2 + 1, none⟩) (fun _ => rfl) _
        refine ⟨A, ⟨_, upd e j ((e j).1, x), ⟨hv.str.kept ht hne, .inr ⟨g, cap, rfl, hr.set1 hj x⟩, once_upd hv.once, fun i hi => ?_, by have := con_set (x := x) hv.con hv.once hj; rw [h1] at this ⊢; exact this⟩, ha⟩, ht.mono fun i _ q => (ha i).2 (.inr (by rw [q]; rfl)), fun _ q => .inl q⟩
        unfold upd
        split
        · exact ⟨(hv.wf j hj).1, hx⟩
        · exact hv.wf i hi
      have hlt2 : ¬ (e j).2 ≤ x := by omega
      clear hc hv ha h h1 h2 hr hx
      generalize (e j).2 = y at i1 hlt hlt2
      go_enter Try.func14, Try.ntmps14
      go_wp2_with (go_at_call 31; (refine (C.out).mono ?_); rintro r w1 ⟨rfl, rfl⟩)
      go_ret
      exact ⟨rfl, HR.out⟩
    · refine .inl ⟨.inr ⟨_, h2, by omega⟩, ?_⟩
      have hle : (e j).2 ≤ x := by omega
      clear hc hv ha h h1 h2 hr hx z1
      generalize (e j).2 = y at i1 hlt hle
      go_enter Try.func14, Try.ntmps14
      go_wp2_with (go_at_call 31; (refine (C.out).mono ?_); rintro r w1 ⟨rfl, rfl⟩)
      go_ret
      exact ⟨rfl, rfl⟩

/-- A row onto which an entry was appended. -/
theorem rput_step {w w3 : World} {rb g cap n : Nat} {v : Value} {A : Nat → Prop} {e : Nat → Int × Int} {c : Int → Option Int} {k x : Int} {o : Obj} (hv : Rv w rb v n e c) (ha : ∀ k, A k ↔ ROwn rb v k) (hk : I64 k) (hx : I64 x) (hc : c k = none) (hnk : ∀ j, j < n → (e j).1 ≠ k)
    (hg : (w.alloc o).grownBy w3 v.ownBlock) (hl : v.ownBlock = some g ∨ (w.alloc o).heap.size ≤ g) (hr : RRow w3 g (n + 1) cap (upd e n (k, x))) :
    RStep w rb A (n + 1) (cput c k x) (w3.setCell ⟨rb, 0, none⟩ (.slice (some ⟨g, 0, none⟩) (n + 1) cap)) ∧ w3.cell? ⟨rb, 0, none⟩ = some v ∧ w3.frozen? ⟨rb, 0, none⟩ = false := by
  have hb : Below w.heap.size w (w.alloc o) := (Below.refl _ _).alloc (Nat.le_refl _) o
  have h1 := hv.kept (Turn.of_below (S := fun _ => False) hb) (fun _ _ q => q)
  have hsv : ¬ v.ownBlock = some rb := by
    intro q
    rcases h1.row with ⟨rfl, _⟩ | ⟨g', cap', rfl, hr'⟩
    · simp [Value.ownBlock] at q
    · simp [Value.ownBlock] at q
      obtain ⟨_, _, cur, hg', _⟩ := hr'
      have := h1.str
      unfold RStr at this
      rw [q, this] at hg'
      simp at hg'
  have ht : Turn (fun k => v.ownBlock = some k) (w.alloc o) w3 := (Turn.refl _ _).grown hg fun k hk _ => hk
  have hs3 := h1.str.kept ht hsv
  have ht3 : Turn (fun k => k = rb) w3 (w3.setCell ⟨rb, 0, none⟩ (.slice (some ⟨g, 0, none⟩) (n + 1) cap)) := Turn.setCell (S := fun k => k = rb) (Turn.refl _ _) (p := ⟨rb, 0, none⟩) (fun _ => rfl) _
  have hsl := hv.str.lt
  have hgs : g ≠ rb := by
    rintro rfl
    rcases hl with q | q
    · exact hsv q
    · rw [World.size_alloc] at q; omega
  have u1 : ∀ i, i < n → upd e n (k, x) i = e i := fun i hi => by unfold upd; rw [if_neg (by omega)]
  have u2 : upd e n (k, x) n = (k, x) := by unfold upd; rw [if_pos rfl]
  refine ⟨⟨ROwn rb (.slice (some ⟨g, 0, none⟩) (n + 1) cap), ⟨_, upd e n (k, x), ⟨hs3.set _, .inr ⟨g, cap, rfl, hr.far (a := ⟨rb, 0, none⟩) hgs _⟩, fun a b ha' hb' hab => ?_, fun i hi => ?_, con_put hv.con hc (Same.refl _ _)⟩, fun _ => Iff.rfl⟩, ?_, fun q hq => ?_⟩, hs3.cell.1, hs3.cell.2⟩
  · by_cases ca : a = n
    · by_cases cb : b = n
      · omega
      · rw [ca, u2, u1 b (by omega)] at hab; exact absurd hab.symm (hnk b (by omega))
    · by_cases cb : b = n
      · rw [cb, u2, u1 a (by omega)] at hab; exact absurd hab (hnk a (by omega))
      · rw [u1 a (by omega), u1 b (by omega)] at hab; exact hv.once a b (by omega) (by omega) hab
  · by_cases q : i = n
    · rw [q, u2]; exact ⟨hk, hx⟩
    · rw [u1 i (by omega)]; exact hv.wf i (by omega)
  · have a : Turn A w (w.alloc o) := Turn.of_below hb
    exact (a.then (ht.mono fun k _ q => (ha k).2 (.inr q))).then (ht3.mono fun k _ q => (ha k).2 (.inl q))
  · rcases hq with rfl | hq
    · exact .inl ((ha _).2 (.inl rfl))
    · have hq : some g = some q := hq
      injection hq with hq
      subst hq
      rcases hl with z | z
      · exact .inl ((ha _).2 (.inr z))
      · rw [World.size_alloc] at z; exact .inr (by omega)

set_option maxRecDepth 100000 in
set_option maxHeartbeats 1000000 in
theorem rput_there {w : World} {rb : Nat} {A : Nat → Prop} {n : Nat} {c : Int → Option Int} (hn : (n : Int) ≤ 1000000) (h : Rp w rb A n c) {k x : Int} (hc : (c k).isSome = true) :
    Calls Try.prog 20 #[.pointer (some ⟨rb, 0, none⟩), .int .i64 k, .int .i64 x] w fun r w' => r = .returned (.bool false) ∧ w = w' := by
  obtain ⟨v, e, hv, ha⟩ := h.ex
  rcases rat_hv hv hn k with ⟨⟨h1, _⟩, _⟩ | ⟨j, ⟨hj, _, _⟩, hc2⟩
  · rw [h1] at hc; cases hc
  · have C := Lib.hid hc2
    have hj0 : (0 : Int) ≤ (j : Int) := by omega
    clear hc2 hc hv ha h
    go_enter Try.func20, Try.ntmps20
    go_wp2_with (go_at_call 31; (refine (C.out).mono ?_); rintro r w1 ⟨rfl, rfl⟩)
    go_ret
    exact ⟨rfl, rfl⟩

set_option maxRecDepth 100000 in
set_option maxHeartbeats 1000000 in
theorem rput_any {w : World} {rb : Nat} {A : Nat → Prop} {n : Nat} {c : Int → Option Int} (hn : (n : Int) + 1 ≤ 1000000) (h : Rp w rb A n c) {k x : Int} (hk : I64 k) (hx : I64 x) (hc : c k = none) :
    Calls Try.prog 20 #[.pointer (some ⟨rb, 0, none⟩), .int .i64 k, .int .i64 x] w fun r w' => r = .returned (.bool true) ∧ RStep w rb A (n + 1) (cput c k x) w' := by
  obtain ⟨i0, hi, hz0, hz1, hz2⟩ := info_parts infoItem
  obtain ⟨v, e, hv, ha⟩ := h.ex
  rcases rat_hv hv (by omega) k with ⟨⟨_, h2⟩, hc2⟩ | ⟨j, ⟨_, _, h2⟩, _⟩
  · have C := Lib.hid hc2
    obtain ⟨xs, hown, hxs⟩ := rrow_owns hv.row
    have HO := Lib.hid hown
    have HXS := Lib.hid hxs
    have HP := Lib.hid (fun w3 g cap o hg hl hr => rput_step (w3 := w3) (g := g) (cap := cap) (o := o) hv ha hk hx hc h2 hg hl hr)
    obtain ⟨c0, _⟩ := hv.str.cell
    have hsl := hv.str.lt
    clear hc2 hown hxs hv ha h h2 hc
    go_enter Try.func20, Try.ntmps20
    go_wp2_with (first
      | (go_at_call 31; (refine (C.out).mono ?_); rintro r w1 ⟨rfl, rfl⟩)
      | (at_builtin; refine wpList_append_own_at _ rfl _ _ 28 rfl 0 38 i0 _ 2 16 Try.underlying28 hi hz0 hz1 hz2 rfl (by decide) _ _ _ rfl (HO.out.alloc _) ⟨w.heap.size, 0, none⟩ 1 1 [.int .i64 k, .int .i64 x] rfl rfl (two_new_at _ _ _ _) (fun u hu => by simp at hu; rcases hu with rfl | rfl <;> rfl) (by unfold maxLen; omega) (by omega) (Nat.zero_le _) ?_; intro v' w3 hown' hgrow _ hloc; obtain ⟨g, cap, rfl, hrow⟩ := rowns_row hown' HXS.out; have HPS := Lib.hid (HP.out w3 g cap _ hgrow (hloc.imp (fun q => q.symm) own_new) hrow); obtain ⟨_, s1, s2⟩ := HPS.out; clear hown' hgrow hloc hrow))
    go_ret
    exact ⟨rfl, HPS.out.1⟩
  · rw [hc] at h2; cases h2

end Go.Proofs.Ytbmmigaabhnnfaa
