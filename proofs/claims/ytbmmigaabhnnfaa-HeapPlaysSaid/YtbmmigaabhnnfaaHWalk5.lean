/-
  The walk over a key that is taken away.
-/
import Derived.Test.YtbmmigaabhnnfaaHWalk4
namespace Go.Proofs.Ytbmmigaabhnnfaa
open Go.RowKit Go.Maps

theorem step_delete {P : Program} {w : World} {ops : Array Oper} {o : Oper} {a : Act} {K : Act → World → Prop} {Q : Exit → Act → World → Prop} {E : Prop} (hgd : o.guard = none) (m x : Operand) (t k : TypeId)
    (ho : o.op = .call { callee := .builtin .delete, args := #[m, x], argTypes := #[t, k] }) (mv kv : Value) (hm : a.eval m = mv) (hx : a.eval x = kv) (R : World → Prop)
    (hd : ∃ w', (Builtin.delete_ #[t, k] o.type #[mv, kv]).run P w = .ok (.tuple #[]) w' ∧ R w') (h : ∀ w', R w' → K (a.put o.dst (.tuple #[])) w') :
    if Region.wanted o (yielded ops a.tmps) = true then Oper.wp P o a w K Q else E := by
  have hw : Region.wanted o (yielded ops a.tmps) = true := by simp [Region.wanted, hgd]
  rw [if_pos hw]
  obtain ⟨w', hr, hR⟩ := hd
  unfold Oper.wp execOp
  simp only [ho, resolve, invoke, builtin, Sem.run_bind, Sem.run_pure, Result.andThen_ok, List.map_toArray, List.map_cons, List.map_nil, hm, hx, hr]
  exact h w' hR

theorem del_v (N : Nat) (mv : Value) (f : Int → Option Int) (key : Int) (hk : I64 key) (w : World) (hm : MapV w mv N f) (ty : TypeId) :
    ∃ w', (Builtin.delete_ #[58, 3] ty #[mv, .int .i64 key]).run Try.prog w = .ok (.tuple #[]) w' ∧ MapV w' mv N (fdel f key) ∧ Turn (fun k => mBlock mv = some k) w w' := by
  have hkey := keyOf_int_mk Try.underlying3 hk.wf
  rcases hm with rfl | ⟨bm, rfl, D, hown, hf⟩
  · exact ⟨w, drop_nil lawK Try.underlying58 hkey ty, .inl rfl, Turn.refl _ _⟩
  · obtain ⟨w', h1, h2, h3⟩ := hown.drop lawK Try.underlying58 hkey ty
    exact ⟨w', h1, .inr ⟨bm, rfl, _, h2, hf.del key⟩, turned_turn h3 fun _ => rfl⟩

theorem zeroEnt (w : World) : (zeroValue 64).run Try.prog w = .ok (.agg #[.int .i64 0, .int .i64 0]) w := by kernel_rfl
theorem clear_one {w : World} {g n cap : Nat} {e : Nat → Int × Int} (hr : Row w g n cap e) {m : Nat} (hm : m < n) (c : Nat) (ty : TypeId) :
    (Builtin.clear_ #[59] ty #[.slice (some ⟨g, m * 2, none⟩) 1 c]).run Try.prog w = .ok (.tuple #[]) (setE w g m (0, 0)) := by
  obtain ⟨c0, c1⟩ := hr.cells hm
  have f0 := hr.free (m * 2)
  have f1 := hr.free (m * 2 + 1)
  simp [Builtin.clear_, run_underlying Try.underlying59, zeroEnt, Builtin.zeroCells, storeCells, Value.cells, setE, go_sem, c0, c1, f0, f1]

/-- A row of which the last one has taken the place of the one at i. -/
theorem cut_rest {m : Nat} {e : Nat → Int × Int} {i : Nat} (hi : i < m + 1) (x : Int × Int) : (∃ k, k < m ∧ sw e i m k = x) ↔ ∃ k, k < m + 1 ∧ k ≠ i ∧ e k = x := by
  constructor
  · rintro ⟨k, hk, rfl⟩
    by_cases c : k = i
    · exact ⟨m, by omega, by omega, by simp [sw, c]⟩
    · exact ⟨k, by omega, c, by simp [sw, c]; intro q; omega⟩
  · rintro ⟨k, hk, hne, rfl⟩
    by_cases c : k = m
    · exact ⟨i, by omega, by simp [sw, c]⟩
    · exact ⟨k, by omega, by simp [sw, hne]; intro q; omega⟩

/-- What is left when the one at i is gone. -/
structure Gone (w : World) (sb g cap : Nat) (mv : Value) (m N : Nat) (e : Nat → Int × Int) (i : Nat) (w' : World) (e' : Nat → Int × Int) (f' : Int → Option Int) : Prop where
  hm : Hm w' sb g cap mv m N e' f'
  rest : ∀ x, (∃ k, k < m ∧ e' k = x) ↔ ∃ k, k < m + 1 ∧ k ≠ i ∧ e k = x
  turn : Turn (fun k => k = sb ∨ Two2 g mv k) w w'
  ord : Ord (m + 1) e → Ord m e'
def GonePost (w : World) (sb g cap : Nat) (mv : Value) (m N : Nat) (e : Nat → Int × Int) (i : Nat) (r : Ending) (w' : World) : Prop :=
  r = .returned (.tuple #[]) ∧ ∃ e' f', Gone w sb g cap mv m N e i w' e' f'

/-- Behind the cut, ahead of the way up and down. -/
structure CutSt (w : World) (sb g cap : Nat) (mv : Value) (m N : Nat) (e : Nat → Int × Int) (i : Nat) (v : World) (f' : Int → Option Int) : Prop where
  hm : Hm v sb g cap mv m N (sw e i m) f'
  turn : Turn (fun k => k = sb ∨ Two2 g mv k) w v

theorem places_cut {m : Nat} {e : Nat → Int × Int} {f : Int → Option Int} (h : Places (m + 1) e f) (ho : Once (m + 1) e) : Places m e (fdel f (e m).1) := by
  intro k x
  unfold fdel
  by_cases c : k = (e m).1
  · rw [if_pos c]
    constructor
    · intro h; cases h
    · rintro ⟨i, hi, h1, rfl⟩
      have := ho i m (by omega) (by omega) (by rw [h1, c])
      omega
  · rw [if_neg c, h k x]
    constructor
    · rintro ⟨i, hi, h1, rfl⟩
      refine ⟨i, ?_, h1, rfl⟩
      have : i ≠ m := by rintro rfl; exact c h1.symm
      omega
    · rintro ⟨i, hi, h1, rfl⟩
      exact ⟨i, by omega, h1, rfl⟩

theorem gone_last {w v : World} {sb g cap : Nat} {mv : Value} {m N : Nat} {e : Nat → Int × Int} {f' : Int → Option Int} (h : CutSt w sb g cap mv m N e m v f') : Gone w sb g cap mv m N e m v (sw e m m) f' :=
  ⟨h.hm, cut_rest (by omega), h.turn, fun q => cut_ord q⟩
theorem gone_mid {w v w1 w2 : World} {sb g cap : Nat} {mv : Value} {m N : Nat} {e : Nat → Int × Int} {i : Nat} {f' f1 f2 : Int → Option Int} {e1 e2 : Nat → Int × Int} (h : CutSt w sb g cap mv m N e i v f') (hi : i < m)
    (hu : UpDone v sb g cap mv m N (sw e i m) i w1 e1 f1) (hd : DownDone w1 sb g cap mv m N e1 i w2 e2 f2) : Gone w sb g cap mv m N e i w2 e2 f2 := by
  refine ⟨hd.hm, fun x => ((hu.same.trans hd.same).1 x).symm.trans (cut_rest (by omega) x), (h.turn.then (hu.turn.mono fun k _ q => .inr q)).then (hd.turn.mono fun k _ q => .inr q), fun q => hd.down ?_⟩
  have hmid := cut_mid (i := i) q
  by_cases c : i = 0 ∨ lt2 (sw e i m i) (sw e i m (par i)) = false
  · rw [hu.stay c]; exact mid_down hmid c
  · have c0 : 0 < i := by omega
    have c1 : lt2 (sw e i m i) (sw e i m (par i)) = true := by
      cases hh : lt2 (sw e i m i) (sw e i m (par i)) with
      | true => rfl
      | false => exact absurd (.inr hh) c
    exact ord_down (hu.up (mid_up hmid c0 c1))

/-- Behind the entry's deletion. -/
structure CutTwo (w : World) (sb g cap : Nat) (mv : Value) (m N : Nat) (e : Nat → Int × Int) (i : Nat) (v : World) : Prop where
  str : Str v sb (.slice (some ⟨g, 0, none⟩) (m + 1) cap) mv
  row : Row v g (m + 1) cap (sw e i m)
  map : ∃ f', MapV v mv N f' ∧ Places m (sw e i m) f'
  once : Once m (sw e i m)
  wf : ∀ k, k < m + 1 → I64 (sw e i m k).1 ∧ I64 (sw e i m k).2
  turn : Turn (Two2 g mv) w v
theorem once_less {m : Nat} {e : Nat → Int × Int} (h : Once (m + 1) e) : Once m e := fun i j hi hj => h i j (by omega) (by omega)
theorem cut_two {w w1 v : World} {sb g cap : Nat} {mv : Value} {m N : Nat} {e : Nat → Int × Int} {i : Nat} {f1 : Int → Option Int} (h : Hm w1 sb g cap mv (m + 1) N (sw e i m) f1) (ht : Turn (Two2 g mv) w w1)
    (h2 : MapV v mv N (fdel f1 (sw e i m m).1)) (h3 : Turn (fun k => mBlock mv = some k) w1 v) : CutTwo w sb g cap mv m N e i v :=
  ⟨h.str.kept h3 h.map_ne.1, h.row.kept h3 h.map_ne.2, ⟨_, h2, places_cut h.loc h.once⟩, once_less h.once, h.wf, ht.then (h3.mono fun k _ q => .inr q)⟩
theorem cut_str {w v : World} {sb g cap : Nat} {mv : Value} {m N : Nat} {e : Nat → Int × Int} {i : Nat} (h : CutTwo w sb g cap mv m N e i v) : Str (setE v g m (0, 0)) sb (.slice (some ⟨g, 0, none⟩) (m + 1) cap) mv := by
  have hne : sb ≠ g := by
    have h1 := h.str
    obtain ⟨_, _, cur, h2, _⟩ := h.row
    rintro rfl
    unfold Str at h1
    rw [h1] at h2
    simp at h2
  exact (h.str.far (a := ⟨g, m * 2, none⟩) hne _).far (a := ⟨g, m * 2 + 1, none⟩) hne _
/-- .. and behind the clearing of its place. -/
theorem cut_three {w v : World} {sb g cap : Nat} {mv : Value} {m N : Nat} {e : Nat → Int × Int} {i : Nat} (h : CutTwo w sb g cap mv m N e i v) :
    CutSt w sb g cap mv m N e i ((setE v g m (0, 0)).setCell ⟨sb, 1, none⟩ (.slice (some ⟨g, 0, none⟩) m cap)) (h.map.choose) := by
  obtain ⟨f1, f2⟩ := h.map.choose_spec
  generalize h.map.choose = f' at f1 f2 ⊢
  have hne : sb ≠ g := by
    have h1 := h.str
    obtain ⟨_, _, cur, h2, _⟩ := h.row
    rintro rfl
    unfold Str at h1
    rw [h1] at h2
    simp at h2
  have hs : Str (setE v g m (0, 0)) sb (.slice (some ⟨g, 0, none⟩) (m + 1) cap) mv := (h.str.far (a := ⟨g, m * 2, none⟩) hne _).far (a := ⟨g, m * 2 + 1, none⟩) hne _
  have hr := ((h.row.set (show m < m + 1 by omega) (0, 0)).less (show m ≤ m + 1 by omega)).congr (e' := sw e i m) (fun k hk => by unfold upd; rw [if_neg (by omega)])
  have ht : Turn (fun k => k = g) v (setE v g m (0, 0)) := Turn.setE (S := fun k => k = g) (g := g) (Turn.refl _ v) (fun _ => rfl) m (0, 0)
  obtain ⟨_, _, cur, hg, _⟩ := h.row
  have hm1 := f1.kept ht (fun k hk q => f1.ne_cells hg (q ▸ hk))
  have ht2 : Turn (fun k => k = sb) (setE v g m (0, 0)) ((setE v g m (0, 0)).setCell ⟨sb, 1, none⟩ (.slice (some ⟨g, 0, none⟩) m cap)) := Turn.setCell (S := fun k => k = sb) (Turn.refl _ _) (p := ⟨sb, 1, none⟩) (fun _ => rfl) _
  refine ⟨⟨hs.set _, hr.far (by exact fun q => hne q.symm) _, hm1.kept ht2 (fun _ hk q => hm1.ne_cells hs (q ▸ hk)), f2, h.once, fun k hk => h.wf k (by omega)⟩, ?_⟩
  exact (((h.turn.mono fun k _ q => .inr q).then (ht.mono fun k _ q => .inr (.inl q))).then (ht2.mono fun k _ q => .inl q))

set_option maxRecDepth 1000000 in
set_option maxHeartbeats 4000000 in
theorem remove_any (sb g m cap N : Nat) (mv : Value) (e : Nat → Int × Int) (f : Int → Option Int) (i : Nat) (hi : i < m + 1) (hn : (m : Int) + 1 ≤ 1000000) (hN : N < maxLen) (w : World) (h : Hm w sb g cap mv (m + 1) N e f) :
    Calls Try.prog 32 #[.pointer (some ⟨sb, 0, none⟩), .int .i64 i] w (GonePost w sb g cap mv m N e i) := by
  obtain ⟨c0, c1, c2⟩ := h.str.cells
  have CS := Lib.hid (swap_any sb g (m + 1) cap N mv e f i m hi (by omega) (by omega) hN w h)
  have q1 : IntKind.i64.wrap (((m + 1 : Nat) : Int) - 1) = (m : Int) := by rw [IntWalk.i64_in _ (by omega)]; omega
  have q2 : ((m + 1 : Nat) : Int) - 1 = (m : Int) := by omega
  have hmc : Hid (m + 1 ≤ cap) := h.row.1
  clear h
  go_enter Try.func32, Try.ntmps32
  go_upto_region 2 with (go_at_call 38; (with_reducible refine (CS.out).mono ?_); rintro r w1 ⟨rfl, hm1, ht1⟩; have HM1 := Lib.hid hm1; have HT1 := Lib.hid ht1; clear hm1 ht1 CS)
  obtain ⟨c0, c1, c2⟩ := HM1.out.str.cells
  obtain ⟨m0, m1⟩ := HM1.out.row.cells (show m < m + 1 by omega)
  have hmn : (m : Int) < (((m + 1 : Nat)) : Int) := by omega
  have hm0 : (0 : Int) ≤ (m : Int) := by omega
  have hmn2 : (m : Int) < (m : Int) + 1 := by omega
  have HD := Lib.hid (fun ty => del_v N mv _ (sw e i m m).1 (HM1.out.wf m (by omega)).1 w1.drew (show MapV w1.drew mv N _ from HM1.out.map) ty)
  have HC := Lib.hid (fun v h2 h3 => cut_two (v := v) HM1.out HT1.out h2 h3)
  clear HM1 HT1 q1 q2
  generalize (sw e i m m).1 = key at m0 HD HC
  generalize (sw e i m m).2 = num at m1
  go_region_law (refine step_delete rfl (.tmp 18) (.tmp 26) 58 3 rfl mv (.int .i64 key) (by rfl) (by rfl) (fun w' => CutTwo w sb g cap mv m N e i w') (by obtain ⟨w2, h1, h2, h3⟩ := HD.out _; exact ⟨w2, h1, HC.out w2 h2 (Turn.of_same h3 rfl rfl rfl rfl)⟩) ?_; intro w2 hc2)
  all_goals
    have HC2 := Lib.hid hc2
    obtain ⟨c0, c1, c2⟩ := hc2.str.cells
    have hcl := fun ty => clear_one hc2.row (show m < m + 1 by omega) (cap - m) ty
    have hcm : ¬ cap = m := by have := hmc.out; omega
    have hcm2 : m ≤ cap := by have := hmc.out; omega
    clear hc2 m0 m1 HD HC
    go_upto_region 4 with (fail)
    have hs4 := cut_str HC2.out
    obtain ⟨c0, c1, c2⟩ := hs4.cells
    have z1 := hs4.free 1
    clear hs4
    go_upto_region 5 with (fail)
    refine gen_world (fun v => CutSt w sb g cap mv m N e i v HC2.out.map.choose) (cut_three HC2.out) ?_
    intro v hv
    have HV := Lib.hid hv
    clear c0 c1 c2 z1 hcl hv hcm
    generalize HC2.out.map.choose = f' at HV
    clear HC2
    by_cases him : i < m
    · have C1 := Lib.hid (up_any sb g m cap N mv (sw e i m) f' i him (by omega) hN v HV.out.hm)
      have C2 := Lib.hid (fun w1 e1 f1 h => down_any sb g m cap N mv e1 f1 i him (by omega) hN w1 h)
      have HG := Lib.hid (fun w1 w2 f1 f2 e1 e2 hu hd => gone_mid (w1 := w1) (w2 := w2) (f1 := f1) (f2 := f2) (e1 := e1) (e2 := e2) HV.out him hu hd)
      clear HV
      go_wp2_with (first | (go_at_call 30; (with_reducible refine (C1.out).mono ?_); rintro r w3 ⟨rfl, e1, f1, hu⟩; have HU := Lib.hid hu; have CD := Lib.hid (C2.out w3 e1 f1 hu.hm); clear hu) | (go_at_call 39; (with_reducible refine (CD.out).mono ?_); rintro r w4 ⟨rfl, e2, f2, hd⟩; have HX := Lib.hid (HG.out w3 w4 f1 f2 e1 e2 HU.out hd); clear hd))
      go_end0
      exact ⟨rfl, e2, f2, HX.out⟩
    · obtain rfl : i = m := by omega
      go_wp2
      go_end0
      exact ⟨rfl, _, _, gone_last HV.out⟩

end Go.Proofs.Ytbmmigaabhnnfaa
