/-
  The walk over the document's own heap: all its keys.
-/
import Derived.Test.YtbmmigaabhnnfaaROps4
namespace Go.Proofs.Ytbmmigaabhnnfaa
open Go.RowKit Go.Maps

/-- The keys' row, and the heap of its own from which they are taken. -/
structure RKey (W w : World) (r n q : Nat) (kv : Value) (L : List Int) (c0 : Int → Option Int) : Prop where
  low : Below W.heap.size W w
  row : w.ownsRow W.heap.size 3 1 kv q (L.map (Value.int .i64))
  ex : ∃ A c, Rp w r A (n - q) c ∧ DrainsTo c c0 L ∧ (∀ k, A k → W.heap.size ≤ k) ∧ ∀ k, kv.ownBlock = some k → ¬ A k

theorem rkey_start {w w2 : World} {v : Value} {n : Nat} {e : Nat → Int × Int} {c : Int → Option Int} (hb : Below w.heap.size w w2) (hr : RRowV w2 v n e) (hB : ∀ k, v.ownBlock = some k → w.heap.size ≤ k) (ho : Once n e) (hwf : ∀ i, i < n → I64 (e i).1 ∧ I64 (e i).2) (hc : Content n e c) :
    RKey w (w2.alloc (.cells #[v] 30)) w2.heap.size n 0 (.slice none 0 0) [] c := by
  refine ⟨hb.alloc hb.size _, World.ownsRow_nil _ _ _ _, ROwn w2.heap.size v, c, ⟨v, e, ⟨heap_alloc_new _ _, hr.kept (Turn.of_below (S := fun _ => False) ((Below.refl _ _).alloc (Nat.le_refl _) _)) (fun _ _ q => q), ho, hwf, hc⟩, fun _ => Iff.rfl⟩, rfl, fun k hk => ?_, fun k hk => ?_⟩
  · rcases hk with rfl | hk
    · exact hb.size
    · exact hB k hk
  · cases hk

/-- One more taken; its key is still to be appended. -/
theorem rkey_take {W w : World} {r n q m : Nat} {kv : Value} {L : List Int} {c0 : Int → Option Int} (h : RKey W w r n q kv L c0) (hm : n - q = m + 1) (hn : (n : Int) ≤ 100000) :
    Calls Try.prog 16 #[.pointer (some ⟨r, 0, none⟩)] w fun e w' => ∃ k x, e = .returned (.tuple #[.agg #[.int .i64 k, .int .i64 x], .bool true]) ∧ w'.ownsRow W.heap.size 3 1 kv q (L.map (Value.int .i64)) ∧ W.heap.size ≤ w'.heap.size ∧
      ∀ w4 w3 kv', Below w'.heap.size w' w4 → w3.ownsRow W.heap.size 3 1 kv' (q + 1) (L.map (Value.int .i64) ++ [.int .i64 k]) → w4.grownBy w3 kv.ownBlock → (kv'.ownBlock = kv.ownBlock ∨ kv'.ownBlock = some w4.heap.size) → RKey W w3 r n (q + 1) kv' (L ++ [k]) c0 := by
  obtain ⟨A, c, h1, h2, h3, h4⟩ := h.ex
  rw [hm] at h1
  refine (rtake_any (by omega) h1).mono fun e w' ⟨k, x, a, b, A', d1, d2, d3⟩ => ⟨k, x, a, ?_, Nat.le_trans h.low.size d2.size, fun w4 w3 kv' h0 o1 o2 o3 => ?_⟩
  · refine ⟨h.row.1, ?_⟩
    rcases h.row.2 with q | ⟨g, cap, cur, e1, e2, e3, e4⟩
    · exact .inl q
    · exact .inr ⟨g, cap, cur, e1, e2, d2.obj e3 (h4 g (by rw [e1]; rfl)), e4⟩
  · have hkA : ∀ k, kv.ownBlock = some k → ¬ A' k := fun k hk q => by
      rcases d3 k q with z | z
      · exact h4 k hk z
      · have := (h.row.lt k hk).2; omega
    have ht : Turn (fun k => kv.ownBlock = some k) w4 w3 := (Turn.refl _ _).grown o2 fun k hk _ => hk
    have hA3 := d1.below h0
    have hs0 := h0.size
    have e : n - (q + 1) = m := by omega
    refine ⟨?_, by rw [List.map_append]; exact o1, A', cdel c k, by rw [e]; exact hA3.kept ht (fun k hk z => hkA k z hk), drains_snoc b h2, fun k hk => ?_, fun k hk => ?_⟩
    · have hb1 : Below W.heap.size W w' := h.low.trans (d2.below h.low.size h3)
      have hb2 : Below W.heap.size W w4 := hb1.trans (h0.mono hb1.size)
      exact hb2.grown o2 hb2.size (fun k hk => (h.row.lt k hk).1)
    · rcases d3 k hk with z | z
      · exact h3 k z
      · exact Nat.le_trans h.low.size z
    · rcases o3 with o3 | o3
      · exact hkA k (by rw [← o3]; exact hk)
      · intro z
        rw [o3] at hk
        injection hk with hk
        have := d1.lt z
        omega
theorem rkey_end {W w : World} {r n q : Nat} {kv : Value} {L : List Int} {c0 : Int → Option Int} (h : RKey W w r n q kv L c0) (hq : n - q = 0) : ∃ c', DrainsTo c' c0 L ∧ ∀ k, c' k = none := by
  obtain ⟨A, c, h1, h2, _⟩ := h.ex
  refine ⟨c, h2, fun k => ?_⟩
  rw [hq] at h1
  obtain ⟨v, e, hv, _⟩ := h1.ex
  cases hk : c k with
  | none => rfl
  | some x => obtain ⟨i, hi, _⟩ := (hv.con k x).1 hk; omega
theorem rkey_len {W w : World} {r n q : Nat} {kv : Value} {L : List Int} {c0 : Int → Option Int} (h : RKey W w r n q kv L c0) : ∃ a cap, w.cell? ⟨r, 0, none⟩ = some (.slice a (n - q) cap) := by
  obtain ⟨A, c, h1, _⟩ := h.ex
  obtain ⟨v, e, hv, _⟩ := h1.ex
  obtain ⟨a, cap, rfl⟩ := hv.row.slice
  exact ⟨a, cap, hv.str.cell.1⟩

theorem one_second (w : World) (o : Obj) (x : Value) (T : TypeId) : ∀ j u, [x][j]? = some u → ((w.alloc o).alloc (.cells #[x] T)).cell? ((⟨w.heap.size + 1, 0, none⟩ : Addr).add j) = some u := by
  have h := heap_alloc_new (w.alloc o) (.cells #[x] T)
  rw [World.size_alloc] at h
  intro j u q
  rw [addr_at, blk_cell h, Nat.zero_add]
  rw [← q]; cases j <;> rfl
def lenOf : Value → Nat
  | .slice _ n _ => n
  | _ => 0
theorem lenOf_own {w : World} {B n size : Nat} {T : TypeId} {v : Value} {xs : List Value} (h : w.ownsRow B T size v n xs) : lenOf v = n := by
  rcases h.2 with ⟨h1, h2⟩ | ⟨g, cap, cur, h1, _⟩
  · rw [h1, h2]; rfl
  · rw [h1]; rfl
theorem news_all {w w' : World} {g : Nat} {xs : List Value} (h : ∀ j u, xs[j]? = some u → w.cell? ((⟨g, 0, none⟩ : Addr).add j) = some u) (hb : Below w.heap.size w w') : ∀ j u, xs[j]? = some u → w'.cell? ((⟨g, 0, none⟩ : Addr).add j) = some u := fun j u q => kept_addr (h j u q) hb

set_option maxRecDepth 100000 in
set_option maxHeartbeats 4000000 in
theorem rkeys_core (rb g n cap : Nat) (e : Nat → Int × Int) (c : Int → Option Int) (hn2 : (n : Int) ≤ 100000) (w : World) (h : Rv w rb (.slice (some ⟨g, 0, none⟩) n cap) n e c) (hr : RRow w g n cap e) :
    Calls Try.prog 27 #[.pointer (some ⟨rb, 0, none⟩)] w fun r w' => ∃ kv L c', r = .returned kv ∧ w'.ownsRow w.heap.size 3 1 kv n (L.map (Value.int .i64)) ∧ DrainsTo c' c L ∧ (∀ k, c' k = none) ∧ Below w.heap.size w w' := by
  obtain ⟨i0, hi, hz0, hz1, hz2⟩ := info_parts infoItem
  obtain ⟨i1, hi', hz0', hz1', hz2'⟩ := info_parts infoInt
  obtain ⟨xs, x1, x2, x3, x4⟩ := rrow_news hr
  have X1 := Lib.hid x1
  have X2 := Lib.hid x2
  have X3 := Lib.hid x3
  obtain ⟨c0, _⟩ := h.str.cell
  have hsl := h.str.lt
  have hgl := hr.lt
  have hcap : n ≤ cap := hr.1
  have HS := Lib.hid (fun w2 v hb ho => rkey_start (w := w) (w2 := w2) (v := v) (e := e) hb (rowns_any (n := n) ho x4).1 (rowns_any (n := n) ho x4).2 h.once h.wf h.con)
  have HV := Lib.hid (fun w2 v ho => (rowns_any (w := w2) (B := w.heap.size) (v := v) (n := n) ho x4).1.slice)
  clear x1 x2 x3 x4 h hr
  go_enter Try.func27, Try.ntmps27
  go_wp2_with (at_builtin; go_loud (refine wpList_append_own_at _ rfl _ _ 28 rfl w.heap.size 38 i0 _ 2 16 Try.underlying28 hi hz0 hz1 hz2 rfl (by decide) _ 0 [] rfl (World.ownsRow_made (w := w) #[] 0 (Nat.le_refl _) (by decide) rfl) ⟨g, 0, none⟩ n cap xs rfl X1.out (news_all X2.out ((Below.refl _ _).alloc (Nat.le_refl _) _)) X3.out (by unfold maxLen; omega) (by omega) (by simp) ?_; intro v' w2 hown' hgrow _ hloc; rw [List.nil_append, Nat.zero_add] at hown'; obtain ⟨ra, rc, rfl⟩ := HV.out _ _ hown'; have HK := Lib.hid (HS.out w2 _ (((Below.refl _ _).alloc (Nat.le_refl _) _).grown hgrow (by simp) (fun k hk => Nat.le_of_eq (Option.some.inj hk))) hown'); clear hown' hgrow hloc))
  go_loopw [4] (fun kv wr => ∃ (q : Nat) (L : List Int), q ≤ n ∧ Hid (RKey w wr w2.heap.size n q kv L c)) (fun kv _ => n - lenOf kv)
  case atStart => exact ⟨0, [], by omega, HK⟩
  case round =>
    obtain ⟨q, L, hq, HQ⟩ := hrel
    clear HK c0
    obtain ⟨ca, ccap, cl⟩ := rkey_len HQ.out
    obtain ⟨M, hM⟩ : ∃ M, n - q = M := ⟨_, rfl⟩
    have HL := Lib.hid (lenOf_own HQ.out.row)
    by_cases hql : q < n
    · have C := Lib.hid (rkey_take (m := M - 1) HQ.out (by omega) hn2)
      rw [hM] at cl
      have hM1 : (0 : Int) < (M : Int) := by omega
      have HM := Lib.hid hM
      clear HQ hM
      go_wp2_with (first
        | (go_at_call 16; (with_reducible refine (C.out).mono ?_); rintro e w3 ⟨k, x, rfl, ho, hs, hg⟩; have HO := Lib.hid ho; have HSZ := Lib.hid hs; have HG := Lib.hid hg; clear ho hs hg)
        | (at_builtin; refine wpList_append_own_at _ rfl _ _ 48 rfl w.heap.size 3 i1 (.int .i64 0) 1 8 Try.underlying48 hi' hz0' hz1' hz2' rfl (by decide) _ _ _ rfl ((HO.out.alloc _).alloc _) ⟨w3.heap.size + 1, 0, none⟩ 1 1 [.int .i64 k] rfl rfl (one_second _ _ _ _) (fun x hx => by simp at hx; subst hx; rfl) (by unfold maxLen; omega) (by omega) (by have := HSZ.out; simp; omega) ?_; intro v' w4 hown' hgrow _ hloc; have HN := Lib.hid (HG.out _ w4 v' (((Below.refl _ _).alloc (Nat.le_refl _) _).alloc (by simp) _) hown' hgrow hloc); clear hown' hgrow hloc))
      go_roundw
      case rel => exact ⟨q + 1, L ++ [k], by omega, HN⟩
      case measure => have h1 := HL.out; have h2 := lenOf_own HN.out.row; omega
    · obtain rfl : q = n := by omega
      obtain rfl : M = 0 := by omega
      rw [hM] at cl
      have HE := Lib.hid (rkey_end HQ.out hM)
      have HR := Lib.hid HQ.out.row
      have HW := Lib.hid HQ.out.low
      clear HQ hM
      go_wp2
      go_ret
      obtain ⟨c', e1, e2⟩ := HE.out
      exact ⟨_, L, c', rfl, HR.out, e1, e2, HW.out⟩

set_option maxRecDepth 100000 in
set_option maxHeartbeats 4000000 in
theorem rkeys_nil (rb : Nat) (e : Nat → Int × Int) (c : Int → Option Int) (w : World) (h : Rv w rb (.slice none 0 0) 0 e c) :
    Calls Try.prog 27 #[.pointer (some ⟨rb, 0, none⟩)] w fun r w' => ∃ kv L c', r = .returned kv ∧ w'.ownsRow w.heap.size 3 1 kv 0 (L.map (Value.int .i64)) ∧ DrainsTo c' c L ∧ (∀ k, c' k = none) ∧ Below w.heap.size w w' := by
  obtain ⟨i0, hi, hz0, hz1, hz2⟩ := info_parts infoItem
  obtain ⟨c0, _⟩ := h.str.cell
  have hsl := h.str.lt
  have hb0 : Below w.heap.size w (w.alloc (.cells #[] 38)) := (Below.refl _ _).alloc (Nat.le_refl _) _
  have hown : (w.alloc (.cells #[] 38)).ownsRow w.heap.size 38 2 (.slice (some ⟨w.heap.size, 0, none⟩) 0 0) 0 [] := World.ownsRow_made (w := w) #[] 0 (Nat.le_refl _) (by decide) rfl
  have hra := rowns_any (e := e) hown (fun i hi => by omega)
  have HK := rkey_start (w := w) hb0 hra.1 hra.2 h.once h.wf h.con
  rw [World.size_alloc] at HK
  have HK := Lib.hid HK
  clear h hb0 hown hra
  go_enter Try.func27, Try.ntmps27
  go_wp2
  go_loopw [4] (fun kv wr => Hid (RKey w wr (w.heap.size + 1) 0 0 kv [] c)) (fun kv _ => lenOf kv)
  case atStart => exact HK
  case round =>
    have HQ := hrel
    clear HK c0
    obtain ⟨ca, ccap, cl⟩ := rkey_len HQ.out
    rw [Nat.sub_self] at cl
    have HE := Lib.hid (rkey_end HQ.out rfl)
    have HR := Lib.hid HQ.out.row
    have HW := Lib.hid HQ.out.low
    clear HQ hrel
    go_wp2
    go_ret
    obtain ⟨c', e1, e2⟩ := HE.out
    exact ⟨_, [], c', rfl, HR.out, e1, e2, HW.out⟩

/-- All keys, as the callers see them. -/
theorem rkeys_any {w : World} {rb : Nat} {A : Nat → Prop} {n : Nat} {c : Int → Option Int} (hn : (n : Int) ≤ 100000) (h : Rp w rb A n c) :
    Calls Try.prog 27 #[.pointer (some ⟨rb, 0, none⟩)] w fun r w' => ∃ a cap L c', r = .returned (.slice a n cap) ∧ L.length = n ∧ Reads w' w'.heap.size a L ∧ DrainsTo c' c L ∧ (∀ k, c' k = none) ∧ Below w.heap.size w w' := by
  obtain ⟨v, e, hv, _⟩ := h.ex
  have hc : Calls Try.prog 27 #[.pointer (some ⟨rb, 0, none⟩)] w fun r w' => ∃ kv L c', r = .returned kv ∧ w'.ownsRow w.heap.size 3 1 kv n (L.map (Value.int .i64)) ∧ DrainsTo c' c L ∧ (∀ k, c' k = none) ∧ Below w.heap.size w w' := by
    rcases hv.row with ⟨rfl, rfl⟩ | ⟨g, cap, rfl, hr⟩
    · exact rkeys_nil rb e c w hv
    · exact rkeys_core rb g n cap e c hn w hv hr
  refine hc.mono fun r w' ⟨kv, L, c', a, b, d1, d2, d3⟩ => ?_
  have hl : L.length = n := by have := b.1; simpa using this
  rcases b.2 with ⟨rfl, q⟩ | ⟨g2, cap2, cur, rfl, _, hh, h1, _, h3, h4⟩
  · subst q
    obtain rfl : L = [] := List.eq_nil_of_length_eq_zero hl
    exact ⟨none, 0, [], c', a, rfl, .inl rfl, d1, d2, d3⟩
  · refine ⟨_, cap2, L, c', a, hl, .inr ⟨g2, 0, rfl, lt_of_block hh, fun k hk => ?_⟩, d1, d2, d3⟩
    rw [Nat.zero_add, blk_cell hh]
    have e1 : cur[k]? = (cur.toList.take (n * 1))[k]? := by rw [List.getElem?_take_of_lt (by omega)]; simp
    rw [e1, h4, List.getElem?_map, List.getElem?_eq_getElem hk, List.getD_eq_getElem?_getD, List.getElem?_eq_getElem hk]; rfl

end Go.Proofs.Ytbmmigaabhnnfaa
