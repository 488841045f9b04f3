/-
  The walk over the document's own heap: a key dropped.
-/
import Derived.Test.YtbmmigaabhnnfaaROps1
import Derived.Deep.CutBlock
import Derived.Deep.CutRange
import Derived.Deep.DeepCutAuto
import Derived.Deep.RegionLaw
import Derived.Deep.RegionHeld3
import Derived.Deep.AppendLies
import Derived.Maps.AppendAt
namespace Go.Proofs.Ytbmmigaabhnnfaa
open Go.RowKit Go.Maps

/-- An append onto a row of the call's own, which may be empty, at a step of a region whose order is drawn. -/
theorem step_append_any {P : Program} {w : World} {ops : Array Oper} {o : Oper} {a : Act} {K : Act → World → Prop} {Q : Exit → Act → World → Prop} {E : Prop} (hgd : o.guard = none) (s x : Operand) (t : TypeId)
    (ho : o.op = .call { callee := .builtin .append, args := #[s, x], argTypes := #[t, t] })
    (base : Nat) (e : TypeId) (i : TypeInfo) (z : Value) (size bytes : Nat) (ht : P.underlying t = some (.slice e)) (hi : P.info? e = some i) (hz : i.zero = some z)
    (hsize : i.size = size) (hby : i.bytes = bytes) (hzs : z.cells.size = size) (hsz : 0 < size)
    (v : Value) (n : Nat) (xs : List Value) (hs : a.eval s = v) (hown : w.ownsRow base e size v n xs)
    (ad : Addr) (m c : Nat) (news : List Value) (hx : a.eval x = .slice (some ad) m c) (hl : news.length = m * size) (hnews : ∀ j u, news[j]? = some u → w.cell? (ad.add j) = some u) (h1 : ∀ u ∈ news, u.oneCell' = true)
    (h63 : n + m ≤ maxLen) (hbytes : (n + m) * bytes ≤ 140737488355328) (hbase : base ≤ w.heap.size)
    (h : ∀ v' w', w'.ownsRow base e size v' (n + m) (xs ++ news) → w.grownBy w' v.ownBlock → K (a.put o.dst v') w') :
    if Region.wanted o (yielded ops a.tmps) = true then Oper.wp P o a w K Q else E := by
  have hw : Region.wanted o (yielded ops a.tmps) = true := by simp [Region.wanted, hgd]
  rw [if_pos hw]
  obtain ⟨v', w', hr, h2, h3, _, _⟩ := run_append_own_at (P := P) w base t o.type e i z size bytes ht hi hz hsize hby hzs hsz v n xs hown ad m c news hl hnews h1 h63 hbytes hbase
  unfold Oper.wp execOp
  simp only [ho, resolve, invoke, builtin, Sem.run_bind, Sem.run_pure, Result.andThen_ok, List.map_toArray, List.map_cons, List.map_nil, hs, hx, hr]
  exact h v' w' h2 h3

/-- A row without the one at j. -/
def rcut (e : Nat → Int × Int) (j i : Nat) : Int × Int := if i < j then e i else e (i + 1)
theorem rcut_lo {e : Nat → Int × Int} {j i : Nat} (h : i < j) : rcut e j i = e i := if_pos h
theorem rcut_hi {e : Nat → Int × Int} {j i : Nat} (h : ¬ i < j) : rcut e j i = e (i + 1) := if_neg h
theorem rcut_hr {e : Nat → Int × Int} {m j : Nat} (hj : j < m + 1) (x : Int × Int) : (∃ k, k < m ∧ rcut e j k = x) ↔ ∃ k, k < m + 1 ∧ k ≠ j ∧ e k = x := by
  constructor
  · rintro ⟨k, hk, h⟩
    by_cases q : k < j
    · rw [rcut_lo q] at h; exact ⟨k, by omega, by omega, h⟩
    · rw [rcut_hi q] at h; exact ⟨k + 1, by omega, by omega, h⟩
  · rintro ⟨k, hk, hne, h⟩
    by_cases q : k < j
    · exact ⟨k, by omega, by rw [rcut_lo q]; exact h⟩
    · refine ⟨k - 1, by omega, ?_⟩
      rw [rcut_hi (by omega), show k - 1 + 1 = k by omega]; exact h
theorem rcut_once {e : Nat → Int × Int} {m j : Nat} (ho : Once (m + 1) e) : Once m (rcut e j) := by
  intro a b ha hb h
  by_cases q : a < j
  · by_cases q' : b < j
    · rw [rcut_lo q, rcut_lo q'] at h; exact ho a b (by omega) (by omega) h
    · rw [rcut_lo q, rcut_hi q'] at h; have := ho a (b + 1) (by omega) (by omega) h; omega
  · by_cases q' : b < j
    · rw [rcut_hi q, rcut_lo q'] at h; have := ho (a + 1) b (by omega) (by omega) h; omega
    · rw [rcut_hi q, rcut_hi q'] at h; have := ho (a + 1) (b + 1) (by omega) (by omega) h; omega
theorem rcut_wf {e : Nat → Int × Int} {m j : Nat} (h : ∀ i, i < m + 1 → I64 (e i).1 ∧ I64 (e i).2) : ∀ i, i < m → I64 (rcut e j i).1 ∧ I64 (rcut e j i).2 := by
  intro i hi
  by_cases q : i < j
  · rw [rcut_lo q]; exact h i (by omega)
  · rw [rcut_hi q]; exact h (i + 1) (by omega)
theorem rcut_cells {xs : List Value} {e : Nat → Int × Int} {m j : Nat} (hj : j < m + 1) (hl : xs.length = (m + 1) * 2) (hx : ∀ i, i < m + 1 → xs[i * 2]? = some (.int .i64 (e i).1) ∧ xs[i * 2 + 1]? = some (.int .i64 (e i).2)) :
    ∀ i, i < m → (xs.take (j * 2) ++ xs.drop ((j + 1) * 2))[i * 2]? = some (.int .i64 (rcut e j i).1) ∧ (xs.take (j * 2) ++ xs.drop ((j + 1) * 2))[i * 2 + 1]? = some (.int .i64 (rcut e j i).2) := by
  intro i hi
  have hlt : (xs.take (j * 2)).length = j * 2 := by rw [List.length_take]; omega
  by_cases q : i < j
  · rw [rcut_lo q, List.getElem?_append_left (by omega), List.getElem?_append_left (by omega), List.getElem?_take_of_lt (by omega), List.getElem?_take_of_lt (by omega)]
    exact hx i (by omega)
  · rw [rcut_hi q, List.getElem?_append_right (by omega), List.getElem?_append_right (by omega), List.getElem?_drop, List.getElem?_drop, hlt,
      show (j + 1) * 2 + (i * 2 - j * 2) = (i + 1) * 2 by omega, show (j + 1) * 2 + (i * 2 + 1 - j * 2) = (i + 1) * 2 + 1 by omega]
    exact hx (i + 1) (by omega)
theorem rowns_any {w : World} {B n : Nat} {v : Value} {e : Nat → Int × Int} {xs : List Value} (h : w.ownsRow B 38 2 v n xs) (hx : ∀ i, i < n → xs[i * 2]? = some (.int .i64 (e i).1) ∧ xs[i * 2 + 1]? = some (.int .i64 (e i).2)) :
    RRowV w v n e ∧ ∀ k, v.ownBlock = some k → B ≤ k := by
  rcases h.2 with ⟨h1, h0⟩ | ⟨g, cap, cur, rfl, hB, h3, h1, h2, h4, h5⟩
  · exact ⟨.inl ⟨h1, h0⟩, fun k hk => by rw [h1] at hk; cases hk⟩
  · refine ⟨.inr ⟨g, cap, rfl, h1, h2, cur, h3, h4, fun i hi => ?_⟩, fun k hk => ?_⟩
    · have e1 : ∀ j, j < n * 2 → cur[j]? = xs[j]? := fun j hj => by
        rw [← h5, List.getElem?_take_of_lt hj]; simp
      rw [e1 _ (by omega), e1 _ (by omega)]
      exact hx i hi
    · have hk : some g = some k := hk
      injection hk with hk; omega

theorem addr_at (g o t : Nat) : (⟨g, o, none⟩ : Addr).add t = ⟨g, o + t, none⟩ := by
  unfold Addr.add; split <;> simp_all
theorem news_take {w w' : World} {g : Nat} {xs : List Value} (h : ∀ j u, xs[j]? = some u → w.cell? ((⟨g, 0, none⟩ : Addr).add j) = some u) (hb : Below w.heap.size w w') (k : Nat) : ∀ j u, (xs.take k)[j]? = some u → w'.cell? ((⟨g, 0, none⟩ : Addr).add j) = some u := by
  intro j u q
  rw [List.getElem?_take] at q
  split at q
  · exact kept_addr (h j u q) hb
  · cases q
theorem news_drop {w w' : World} {g : Nat} {xs : List Value} (h : ∀ j u, xs[j]? = some u → w.cell? ((⟨g, 0, none⟩ : Addr).add j) = some u) (hb : Below w.heap.size w w') (k : Nat) : ∀ j u, (xs.drop k)[j]? = some u → w'.cell? ((⟨g, k, none⟩ : Addr).add j) = some u := by
  intro j u q
  rw [List.getElem?_drop] at q
  have := kept_addr (h _ u q) hb
  rw [addr_at] at this ⊢
  rw [Nat.zero_add] at this
  exact this
theorem news_none {w : World} {a : Addr} {xs : List Value} (hl : xs.length = 0) : ∀ j u, xs[j]? = some u → w.cell? (a.add j) = some u := by
  intro j u q
  rw [List.getElem?_eq_none (by omega)] at q
  cases q

/-- A row that was cut, in the heap. -/
theorem rdrop_step {w w3 : World} {rb g cap m j : Nat} {v2 : Value} {A : Nat → Prop} {e : Nat → Int × Int} {c : Int → Option Int} {xs : List Value} (hv : Rv w rb (.slice (some ⟨g, 0, none⟩) (m + 1) cap) (m + 1) e c) (ha : ∀ k, A k ↔ ROwn rb (.slice (some ⟨g, 0, none⟩) (m + 1) cap) k) (hj : j < m + 1)
    (hl : xs.length = (m + 1) * 2) (hx : ∀ i, i < m + 1 → xs[i * 2]? = some (.int .i64 (e i).1) ∧ xs[i * 2 + 1]? = some (.int .i64 (e i).2))
    (hb : Below w.heap.size w w3) (ho : w3.ownsRow w.heap.size 38 2 v2 m (xs.take (j * 2) ++ xs.drop ((j + 1) * 2))) :
    ∃ a cap2, v2 = .slice a m cap2 ∧ RStep w rb A m (cdel c (e j).1) (w3.setCell ⟨rb, 0, none⟩ v2) ∧ w3.cell? ⟨rb, 0, none⟩ = some (.slice (some ⟨g, 0, none⟩) (m + 1) cap) ∧ w3.frozen? ⟨rb, 0, none⟩ = false := by
  obtain ⟨hr, hB⟩ := rowns_any ho (rcut_cells hj hl hx)
  obtain ⟨a, cap2, rfl⟩ := hr.slice
  have hs3 : RStr w3 rb (.slice (some ⟨g, 0, none⟩) (m + 1) cap) := hv.str.kept (Turn.of_below (S := fun _ => False) hb) (fun q => q)
  have hsl := hv.str.lt
  have ht3 : Turn (fun k => k = rb) w3 (w3.setCell ⟨rb, 0, none⟩ (.slice a m cap2)) := Turn.setCell (S := fun k => k = rb) (Turn.refl _ _) (p := ⟨rb, 0, none⟩) (fun _ => rfl) _
  refine ⟨a, cap2, rfl, ⟨ROwn rb (.slice a m cap2), ⟨_, rcut e j, ⟨hs3.set _, hr.kept ht3 (fun k hk q => by have := hB k hk; omega), rcut_once hv.once, rcut_wf hv.wf, con_del hv.con hv.once hj (rcut_hr hj)⟩, fun _ => Iff.rfl⟩, ?_, fun q hq => ?_⟩, hs3.cell.1, hs3.cell.2⟩
  · have a : Turn A w w3 := Turn.of_below hb
    exact a.then (ht3.mono fun k _ q => (ha k).2 (.inl q))
  · rcases hq with rfl | hq
    · exact .inl ((ha _).2 (.inl rfl))
    · exact .inr (hB q hq)

set_option maxRecDepth 100000 in
set_option maxHeartbeats 4000000 in
theorem rdrop_any {w : World} {rb : Nat} {A : Nat → Prop} {n : Nat} {c : Int → Option Int} (hn : (n : Int) ≤ 1000000) (h : Rp w rb A n c) (k : Int) :
    c k = none ∧ Calls Try.prog 18 #[.pointer (some ⟨rb, 0, none⟩), .int .i64 k] w (fun r w' => r = .returned (.bool false) ∧ w = w') ∨
    (∃ m, n = m + 1 ∧ (c k).isSome = true ∧ Calls Try.prog 18 #[.pointer (some ⟨rb, 0, none⟩), .int .i64 k] w (fun r w' => r = .returned (.bool true) ∧ RStep w rb A m (cdel c k) w')) := by
  obtain ⟨i0, hi, hz0, hz1, hz2⟩ := info_parts infoItem
  obtain ⟨v, e, hv, ha⟩ := h.ex
  rcases rat_hv hv hn k with ⟨⟨h1, _⟩, hc⟩ | ⟨j, ⟨hj, h1, h2⟩, hc⟩
  · refine .inl ⟨h1, ?_⟩
    have C := Lib.hid hc
    clear hc hv ha h h1
    go_enter Try.func18, Try.ntmps18
    go_wp2_with (go_at_call 31; (refine (C.out).mono ?_); rintro r w1 ⟨rfl, rfl⟩)
    go_ret
    exact ⟨rfl, rfl⟩
  · right
    obtain ⟨m, rfl⟩ : ∃ m, n = m + 1 := ⟨n - 1, by omega⟩
    refine ⟨m, rfl, by rw [h2]; rfl, ?_⟩
    have C := Lib.hid hc
    obtain ⟨g, cap, rfl, hr⟩ : ∃ g cap, v = .slice (some ⟨g, 0, none⟩) (m + 1) cap ∧ RRow w g (m + 1) cap e := by
      rcases hv.row with ⟨_, q⟩ | q
      · omega
      · exact q
    obtain ⟨c0, _⟩ := hv.str.cell
    obtain ⟨xs, x1, x2, x3, x4⟩ := rrow_news hr
    have HP := Lib.hid (fun w3 v2 hb ho => rdrop_step (w3 := w3) (v2 := v2) hv ha hj x1 x4 hb ho)
    rw [h1] at HP
    have l1 := hv.str.lt
    have l2 := hr.lt
    have hcap : m + 1 ≤ cap := hr.1
    have hj1 : (j : Int) < (m : Int) + 1 := by omega
    have hj0 : (0 : Int) ≤ (j : Int) := by omega
    have hj2 : (j : Int) + 1 ≤ (m : Int) + 1 := by omega
    have hj3 : j ≤ cap := by omega
    have hj4 : j + 1 ≤ m + 1 := by omega
    clear hc hv ha h h1 h2 hr x4
    by_cases hcj : cap = j + 1
    · have X1 := Lib.hid x1
      have X2 := Lib.hid x2
      have X3 := Lib.hid x3
      have HF : Hid ((m : Int) + 1 ≤ 1000000 ∧ m + 1 ≤ cap ∧ rb < w.heap.size ∧ g < w.heap.size ∧ (j : Int) + 1 ≤ (m : Int) + 1 ∧ j ≤ cap ∧ j + 1 ≤ m + 1 ∧ cap = j + 1) := ⟨by omega, hcap, l1, l2, hj2, hj3, hj4, hcj⟩
      clear x1 x2 x3 hn hcap l1 l2 hj2 hj3 hj4 hcj
      go_enter Try.func18, Try.ntmps18
      go_upto_region 4 with (go_at_call 31; (refine (C.out).mono ?_); rintro r w1 ⟨rfl, rfl⟩)
      obtain ⟨hn, hcap, l1, l2, hj2, hj3, hj4, hcj⟩ := HF.out
      obtain ⟨j', hjj⟩ : ∃ j', j' = j + 1 := ⟨_, rfl⟩
      have hjw : IntKind.i64.wrap ((j : Int) + 1) = (j' : Int) := by rw [IntWalk.i64_in _ (by omega)]; omega
      have hj5 : (0 : Int) ≤ (j' : Int) := by omega
      have hj6 : (j' : Int) ≤ (m : Int) + 1 := by omega
      have hj7 : cap = j' := by omega
      have hj8 : m + 1 - j' = 0 := by omega
      have HJ := Lib.hid hjj
      clear hjj hcj hj4 hj2
      subst hj7
      go_region_law (first
        | (refine step_append_any rfl (.tmp 12) (.tmp 18) 28 rfl w.heap.size 38 i0 _ 2 16 Try.underlying28 hi hz0 hz1 hz2 rfl (by omega) _ 0 [] (by rfl) ((World.ownsRow_made (w := w) #[] 0 (Nat.le_refl _) (by decide) rfl).drew)
            ⟨g, 0, none⟩ j cap (xs.take (j * 2)) (by rfl) (by have := X1.out; rw [List.length_take]; omega) (news_take X2.out (((Below.refl _ _).alloc (Nat.le_refl _) _).drew) _) (fun u hu => X3.out u (List.mem_of_mem_take hu)) (by unfold maxLen; omega) (by omega) (by simp) ?_
           intro v1 w2 hown hgrow
           have hb2 : Below w.heap.size w w2 := (((Below.refl _ _).alloc (Nat.le_refl _) _).drew).grown hgrow (by simp) (by intro k hk; simp [Value.ownBlock] at hk; omega)
           have c2 := kept_cell hb2 c0)
        | (refine step_append_any rfl (.tmp 19) (.tmp 26) 28 rfl w.heap.size 38 i0 _ 2 16 Try.underlying28 hi hz0 hz1 hz2 rfl (by omega) v1 _ _ (by rfl) hown
            ⟨g, 0, none⟩ 0 0 [] (by rfl) rfl (news_none rfl) (fun u hu => by cases hu) (by have := HJ.out; unfold maxLen; omega) (by have := HJ.out; omega) (by have := hb2.size; omega) ?_
           intro v2 w3 hown2 hgrow2
           have hb3 : Below w.heap.size w w3 := hb2.grown hgrow2 hb2.size (fun k hk => (hown.lt k hk).1)
           rw [List.nil_append, show 0 + j + 0 = m by (have := HJ.out; omega), show ([] : List Value) = xs.drop ((j + 1) * 2) from (List.drop_eq_nil_of_le (by have := X1.out; have := HJ.out; omega)).symm] at hown2
           obtain ⟨ra, rc, rfl, hstep, s1, s2⟩ := HP.out w3 v2 hb3 hown2
           have HS := Lib.hid hstep
           clear hstep))
      all_goals
        go_wp2
        go_ret
        exact ⟨rfl, HS.out⟩
    · have X1 := Lib.hid x1
      have X2 := Lib.hid x2
      have X3 := Lib.hid x3
      have HF : Hid ((m : Int) + 1 ≤ 1000000 ∧ m + 1 ≤ cap ∧ rb < w.heap.size ∧ g < w.heap.size ∧ (j : Int) + 1 ≤ (m : Int) + 1 ∧ j ≤ cap ∧ j + 1 ≤ m + 1 ∧ ¬ cap = j + 1) := ⟨by omega, hcap, l1, l2, hj2, hj3, hj4, hcj⟩
      clear x1 x2 x3 hn hcap l1 l2 hj2 hj3 hj4 hcj
      go_enter Try.func18, Try.ntmps18
      go_upto_region 4 with (go_at_call 31; (refine (C.out).mono ?_); rintro r w1 ⟨rfl, rfl⟩)
      obtain ⟨hn, hcap, l1, l2, hj2, hj3, hj4, hcj⟩ := HF.out
      obtain ⟨j', hjj⟩ : ∃ j', j' = j + 1 := ⟨_, rfl⟩
      have hjw : IntKind.i64.wrap ((j : Int) + 1) = (j' : Int) := by rw [IntWalk.i64_in _ (by omega)]; omega
      have hj5 : (0 : Int) ≤ (j' : Int) := by omega
      have hj6 : (j' : Int) ≤ (m : Int) + 1 := by omega
      have hj7 : ¬ cap = j' := by omega
      have hj8 : j' ≤ cap := by omega
      have HJ := Lib.hid hjj
      clear hjj hcj hj4 hj2
      go_region_law (first
        | (refine step_append_any rfl (.tmp 12) (.tmp 18) 28 rfl w.heap.size 38 i0 _ 2 16 Try.underlying28 hi hz0 hz1 hz2 rfl (by omega) _ 0 [] (by rfl) ((World.ownsRow_made (w := w) #[] 0 (Nat.le_refl _) (by decide) rfl).drew)
            ⟨g, 0, none⟩ j cap (xs.take (j * 2)) (by rfl) (by have := X1.out; rw [List.length_take]; omega) (news_take X2.out (((Below.refl _ _).alloc (Nat.le_refl _) _).drew) _) (fun u hu => X3.out u (List.mem_of_mem_take hu)) (by unfold maxLen; omega) (by omega) (by simp) ?_
           intro v1 w2 hown hgrow
           have hb2 : Below w.heap.size w w2 := (((Below.refl _ _).alloc (Nat.le_refl _) _).drew).grown hgrow (by simp) (by intro k hk; simp [Value.ownBlock] at hk; omega)
           have c2 := kept_cell hb2 c0)
        | (refine step_append_any rfl (.tmp 19) (.tmp 26) 28 rfl w.heap.size 38 i0 _ 2 16 Try.underlying28 hi hz0 hz1 hz2 rfl (by omega) v1 _ _ (by rfl) hown
            ⟨g, j' * 2, none⟩ (m + 1 - j') (cap - j') (xs.drop (j' * 2)) (by rfl) (by have := X1.out; rw [List.length_drop]; omega) (news_drop X2.out hb2 _) (fun u hu => X3.out u (List.mem_of_mem_drop hu)) (by have := HJ.out; unfold maxLen; omega) (by have := HJ.out; omega) (by have := hb2.size; omega) ?_
           intro v2 w3 hown2 hgrow2
           have hb3 : Below w.heap.size w w3 := hb2.grown hgrow2 hb2.size (fun k hk => (hown.lt k hk).1)
           rw [List.nil_append, show 0 + j + (m + 1 - j') = m by (have := HJ.out; omega), HJ.out] at hown2
           obtain ⟨ra, rc, rfl, hstep, s1, s2⟩ := HP.out w3 v2 hb3 hown2
           have HS := Lib.hid hstep
           clear hstep))
      all_goals
        go_wp2
        go_ret
        exact ⟨rfl, HS.out⟩

end Go.Proofs.Ytbmmigaabhnnfaa
