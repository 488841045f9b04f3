/-
  The walks over what is wrong with a system.
-/
import Derived.Test.YtknjldmpcokgfaaKW7
import Derived.Test.YtknjldmpcokgfaaKW5
import Derived.Maps.Views
namespace Go.Proofs.Ytknjldmpcokgfaa
open Go.RowKit Go.Maps

theorem lawK : Keyed Try.prog 3 := int_keyed Try.underlying3
theorem zeroK (w : World) : (zeroValue 3).run Try.prog w = .ok (.int .i64 0) w := by kernel_rfl

/-- What the entries read as. -/
def IsF (D : DataW Unit) (f : Int → Option Int) : Prop :=
  ∀ k : Int, Maps.has D (.int .i64 k) = (f k).isSome ∧ D.atKey (.int .i64 k) (.lit (.int .i64 0)) = .lit (.int .i64 ((f k).getD 0))
/-- A block is a map of at most N entries, that are f. -/
def MapIs (w : World) (bm N : Nat) (f : Int → Option Int) : Prop := ∃ D : DataW Unit, w.ownsMap Try.prog 3 (plainElem Try.prog 3) bm N D ∧ IsF D f
/-- One entry set; one struck. -/
def fput (f : Int → Option Int) (k v : Int) (x : Int) : Option Int := if x = k then some v else f x
def fdel (f : Int → Option Int) (k : Int) (x : Int) : Option Int := if x = k then none else f x

theorem IsF.put {D : DataW Unit} {f : Int → Option Int} (h : IsF D f) (hD : IsMap D) (k v : Int) : IsF (D.put (.int .i64 k) (.lit (.int .i64 v))) (fput f k v) := by
  intro x
  unfold fput
  by_cases e : x = k
  · subst e
    rw [if_pos rfl, has_put_same hD (by trivial), atKey_put_same hD (by trivial)]
    exact ⟨rfl, rfl⟩
  · rw [if_neg e, has_put_other (by simp [e]), atKey_put_other (by simp [e])]
    exact h x
theorem IsF.del {D : DataW Unit} {f : Int → Option Int} (h : IsF D f) (k : Int) : IsF (D.del (.int .i64 k)) (fdel f k) := by
  intro x
  unfold fdel
  by_cases e : x = k
  · subst e
    rw [if_pos rfl, has_del_same, atKey_del_same]
    exact ⟨rfl, rfl⟩
  · rw [if_neg e, has_del_other (by simp [e]), atKey_del_other (by simp [e])]
    exact h x

theorem owns_tight {w : World} {bm n m : Nat} {D : DataW Unit} {R : Value → Option (DataW Unit × List MemPlace)} {P : Program} {k : TypeId} (h : w.ownsMap P k R bm n D) (hm : Maps.size D ≤ m) : w.ownsMap P k R bm m D := by
  obtain ⟨es, clock, hb, F, hs, rfl⟩ := h
  refine ⟨es, clock, hb, F, ?_, rfl⟩
  have : Maps.size (DataW.map ((es.toList.map (WideElems.rg P k R)).foldr DataW.insert [])) = es.size := by simp [Maps.size, length_sorted]
  omega

/-- Behind a store. -/
theorem MapIs.stored {w' : World} {bm N : Nat} {D : DataW Unit} {f : Int → Option Int} {k v : Int} (hf : IsF D f) (ht : Tidy D) (hs : Maps.size D ≤ N)
    (h : w'.ownsMap Try.prog 3 (plainElem Try.prog 3) bm (N + 1) (D.put (.int .i64 k) (.lit (.int .i64 v)))) : MapIs w' bm (if (f k).isSome then N else N + 1) (fput f k v) := by
  refine ⟨_, ?_, hf.put ht.isMap k v⟩
  split
  · rename_i hk
    refine owns_tight h ?_
    rw [size_put ht, if_pos ((hf k).1.trans hk)]; exact hs
  · exact h

theorem MapIs.lt {w : World} {bm N : Nat} {f : Int → Option Int} (h : MapIs w bm N f) : bm < w.heap.size := by
  obtain ⟨D, h, _⟩ := h; exact h.lt
theorem MapIs.obj {w : World} {bm N : Nat} {f : Int → Option Int} (h : MapIs w bm N f) : ∃ es clock, w.heap[bm]? = some (.map es clock) := by
  obtain ⟨D, ⟨es, clock, hb, _⟩, _⟩ := h; exact ⟨es, clock, hb⟩
theorem MapIs.ne_cells {w : World} {bm N b : Nat} {f : Int → Option Int} {cs : Array Value} {T : TypeId} {fr : Nat × Nat} (h : MapIs w bm N f) (hb : w.heap[b]? = some (.cells cs T fr)) : b ≠ bm := by
  obtain ⟨es, clock, h⟩ := h.obj
  rintro rfl
  rw [h] at hb; cases hb
theorem MapIs.ext {w : World} {bm N : Nat} {f f' : Int → Option Int} (h : MapIs w bm N f) (he : ∀ k, f k = f' k) : MapIs w bm N f' := by
  obtain ⟨D, h, hf⟩ := h
  exact ⟨D, h, fun k => by rw [← he]; exact hf k⟩
theorem MapIs.mono {w : World} {bm N M : Nat} {f : Int → Option Int} (h : MapIs w bm N f) (hm : N ≤ M) : MapIs w bm M f := by
  obtain ⟨D, h, hf⟩ := h
  exact ⟨D, h.mono hm, hf⟩


theorem I64.wf {x : Int} (h : I64 x) : (Lit.int .i64 x).wf = true := by
  unfold I64 at h
  simp [Lit.wf, IntKind.min, IntKind.max, IntKind.signed, IntKind.bits]; omega
theorem new_map (w : World) : MapIs (w.alloc (.map #[] 0)) w.heap.size 0 (fun _ => none) := ⟨.map [], World.ownsMap_made w _ _ _, fun _ => ⟨rfl, rfl⟩⟩
theorem MapIs.below {w w' : World} {bm N : Nat} {f : Int → Option Int} (h : MapIs w bm N f) (hb : Below w.heap.size w w') : MapIs w' bm N f := by
  obtain ⟨D, ⟨es, clock, hm, r⟩, hf⟩ := h
  exact ⟨D, ⟨es, clock, kept_obj hb hm, r⟩, hf⟩

/-- What is wrong with the tasks of a system. -/
def firstOf (s : Int) : Int → List Int → List TV → Int
  | _, _, [] => 0
  | last, seen, x :: l => if rightOf x s ≠ 0 then rightOf x s else if x.id ≤ last then 10 else if x.p ∈ seen then 14 else firstOf s x.id (x.p :: seen) l
def sysBad (s r : Int) (L : List TV) : Prop := ¬ (0 ≤ s ∧ s ≤ 256 ∧ 0 ≤ r ∧ r ≤ 1000) ∨ L.length = 0
instance (s r : Int) (L : List TV) : Decidable (sysBad s r L) := by unfold sysBad; infer_instance
def checkOf (s r : Int) (L : List TV) : Int := if sysBad s r L then 1 else if 64 < L.length then 15 else firstOf s 0 [] L
theorem first_drop {s last : Int} {seen : List Int} {L : List TV} {k : Nat} {x : TV} (hx : L[k]? = some x) :
    firstOf s last seen (L.drop k) = if rightOf x s ≠ 0 then rightOf x s else if x.id ≤ last then 10 else if x.p ∈ seen then 14 else firstOf s x.id (x.p :: seen) (L.drop (k + 1)) := by
  obtain ⟨h2, h3⟩ := List.getElem?_eq_some_iff.1 hx
  rw [List.drop_eq_getElem_cons h2, h3, firstOf]

/-- The keys of a map. -/
def Seen (w : World) (bm N : Nat) (seen : List Int) : Prop := ∃ f, MapIs w bm N f ∧ ∀ k, (f k).isSome = decide (k ∈ seen)
/-- Where the rounds stand. -/
structure Rounds (w : World) (s r : Int) (a : Option Addr) (n cap bm N : Nat) (seen : List Int) (v : World) : Prop where
  low : Below w.heap.size w v
  s0 : v.cell? ⟨w.heap.size, 0, none⟩ = some (.int .i64 s)
  s2 : v.cell? ⟨w.heap.size, 2, none⟩ = some (.slice a n cap)
  map : Seen v bm N seen
  new : w.heap.size ≤ bm
theorem Rounds.below {w v v' : World} {s r : Int} {a : Option Addr} {n cap bm N : Nat} {seen : List Int} (h : Rounds w s r a n cap bm N seen v) (hb : Below v.heap.size v v') : Rounds w s r a n cap bm N seen v' := by
  obtain ⟨f, hm, hf⟩ := h.map
  exact ⟨below_up h.low hb, kept_cell hb h.s0, kept_cell hb h.s2, ⟨f, hm.below hb, hf⟩, h.new⟩
theorem rounds_new {w : World} {s r : Int} {a : Option Addr} {n cap : Nat} {T : TypeId} : Rounds w s r a n cap (w.heap.size + 1) 0 [] ((w.alloc (.cells #[.int .i64 s, .int .i64 r, .slice a n cap] T)).alloc (.map #[] 0)) := by
  refine ⟨(by repeat (first | exact Below.refl _ _ | (with_reducible assumption) | refine bw_alloc ?_ _ | refine bw_drew ?_)), (new_first w _ _ _ 0).trans rfl, (new_first w _ _ _ 2).trans rfl, ⟨fun _ => none, ?_, fun k => by simp⟩, by omega⟩
  have := new_map (w.alloc (.cells #[.int .i64 s, .int .i64 r, .slice a n cap] T))
  rwa [World.size_alloc] at this
/-- What a store into the map leaves. -/
theorem Rounds.put {w v v' : World} {s r : Int} {a : Option Addr} {n cap bm N : Nat} {seen : List Int} {D : DataW Unit} {f : Int → Option Int} {k y : Int} (h : Rounds w s r a n cap bm N seen v) (hD : v.ownsMap Try.prog 3 (plainElem Try.prog 3) bm N D) (hf : IsF D f) (hs : ∀ k, (f k).isSome = decide (k ∈ seen))
    (h1 : v'.ownsMap Try.prog 3 (plainElem Try.prog 3) bm (N + 1) (D.put (.int .i64 k) (.lit (.int .i64 y)))) (ht : v.mapTurned v' bm) : Rounds w s r a n cap bm (N + 1) (k :: seen) v' := by
  have hm := (MapIs.stored (w' := v') (bm := bm) (N := N) (k := k) (v := y) hf (hD.tidy lawK) hD.size_le h1).mono (M := N + 1) (by split <;> omega)
  have hg : v.grownBy v' (some bm) := World.mapTurned.grown ht
  obtain ⟨es, clock, hb, _⟩ := hD
  have hne : ∀ o x, v.cell? ⟨w.heap.size, o, none⟩ = some x → w.heap.size ≠ bm := by
    rintro o x hx rfl
    rw [World.cell?] at hx
    simp [hb] at hx
  have hk : ∀ o x, v.cell? ⟨w.heap.size, o, none⟩ = some x → v'.cell? ⟨w.heap.size, o, none⟩ = some x := by
    intro o x hx
    rw [← hx]
    exact World.cell?_of_block (hg.block _ (block_of_cell hx) (fun e => hne o x hx (Option.some.inj e)))
  refine ⟨h.low.grown hg h.low.size (fun k hk => by cases hk; exact h.new), hk _ _ h.s0, hk _ _ h.s2, ⟨_, hm, fun x => ?_⟩, h.new⟩
  unfold fput
  by_cases e : x = k
  · subst e; simp
  · rw [if_neg e, hs]; simp [e]

set_option maxRecDepth 100000 in
set_option maxHeartbeats 8000000 in
theorem first_any {w : World} {a : Option Addr} {n cap : Nat} {L : List TV} (s r : Int) (ha : Tasks w a n cap L) (hw : ∀ x ∈ L, I64 x.p ∧ I64 x.id) (hn64 : n ≤ 64) :
    Calls Try.prog 38 #[.agg #[.int .i64 s, .int .i64 r, .slice a n cap]] w fun e w' => e = .returned (.int .i64 (firstOf s 0 [] L)) ∧ Below w.heap.size w w' := by
  have HA := Lib.hid ha
  have HW := Lib.hid hw
  generalize hR : firstOf s 0 [] L = R
  have HR := Lib.hid hR
  have hmm := @run_makeMap Try.prog
  have hn : (n : Int) ≤ 9223372036854775807 := by omega
  clear ha hw hR
  go_enter Try.func38, Try.ntmps38
  go_wp2
  go_step3
  go_wp2
  go_step3
  go_wp2
  refine gen_world (Rounds w s r a n cap (w.heap.size + 1) 0 []) rounds_new ?_
  intro W1 hw1
  have H1 := Lib.hid hw1
  clear hw1 hmm
  generalize w.heap.size + 1 = bm at H1 ⊢
  go_loopw [3, 4, 14] (fun v t u wr => ∃ (k : Nat) (last : Int) (seen : List Int), k ≤ n ∧ u = .int .i64 k ∧ t = .int .i64 last ∧ v = .int .i64 0 ∧ Hid (firstOf s last seen (L.drop k) = R) ∧ Hid (Rounds w s r a n cap bm k seen wr)) (fun _ _ u _ => (n - intOf u).toNat)
  case atStart => exact ⟨0, 0, [], by omega, rfl, rfl, rfl, by show _ = _; rw [List.drop_zero]; exact HR.out, H1⟩
  case round =>
    obtain ⟨k, last, seen, hk, rfl, rfl, rfl, HS, HP⟩ := hrel
    obtain ⟨f, ⟨D, hown, hf⟩, hs⟩ := HP.out.map
    have e0 := HP.out.s0
    have e2 := HP.out.s2
    have e9 := block_of_cell e0
    by_cases hlt : k < n
    · obtain ⟨x, hx⟩ := nth_of HA.out.len hlt
      obtain ⟨g, o, rfl, ⟨c0, c1, c2, c3, c4, c5, c6⟩⟩ := (HA.out.view.below HP.out.low).at_ hx
      have hk1 : (k : Int) < (n : Int) := by omega
      have hk0 : (0 : Int) ≤ (k : Int) := by omega
      have hwf := HW.out x (List.mem_of_getElem? hx)
      have hkey := keyOf_int_mk Try.underlying3 hwf.1.wf
      have hwv : (Lit.int .i64 x.id).wf = true := hwf.2.wf
      have hh : Maps.has D (.int .i64 x.p) = decide (x.p ∈ seen) := by rw [(hf x.p).1, hs]
      have hF := first_drop (s := s) (last := last) (seen := seen) hx
      rw [HS.out] at hF
      have HX := Lib.hid ((HA.out.ok.at_ hx).below HP.out.low)
      have RX := Lib.hid (fun v (hb : Below wr.heap.size wr v) => right_any x s v (HX.out.below hb))
      unfold TV.val at RX
      clear hx hwf
      by_cases h1 : rightOf x s = 0
      rotate_left
      · rw [if_pos h1] at hF
        have d1 : (rightOf x s == 0) = false := by rw [beq_eq_false_iff_ne]; exact h1
        have d2 : (rightOf x s != 0) = true := by rw [bne, d1]; rfl
        have HF := Lib.hid hF
        generalize rightOf x s = q at *
        clear hF h1 hs hf
        go_wp2_with (first
            | (at_lookup; refine wpList_lookup_own_ok_int _ rfl _ _ 78 rfl 3 3 .i64 lawK Try.underlying78 Try.underlying3 (zeroK _) bm k D rfl (hown.alloc _) _ _ rfl hkey ?_; rw [hh]; intro c _ _)
            | (go_at_call 10; (with_reducible refine (RX.out _ (by repeat (first | exact Below.refl _ _ | (with_reducible assumption) | refine bw_alloc ?_ _ | refine bw_drew ?_))).mono ?_); rintro e wx ⟨rfl, bx⟩; have BX := Lib.hid (bw_alloc (Below.refl _ wr) (.cells #[.int .i64 x.id, .int .i64 x.c, .int .i64 x.d, .int .i64 x.t, .int .i64 x.p, .slice x.a1 x.ch.length x.c1, .slice x.a2 x.us.length x.c2] 25)); have k0 := kept_cell (v := .int .i64 x.id) bx ((atB_new _ x _).c0); have k4 := kept_cell (v := .int .i64 x.p) bx ((atB_new _ x _).c4); have HB := Lib.hid (below_up BX.out bx); clear bx BX))
        rw [Exit.noGoto_ret]
        go_ret
        rw [HF.out]
        exact ⟨rfl, (HP.out.below HB.out).low⟩
      rw [if_neg (fun z => z h1)] at hF
      rw [h1] at RX
      by_cases h2 : x.id ≤ last
      · rw [if_pos h2] at hF
        have d1 : decide (x.id ≤ last) = true := decide_eq_true h2
        have HF := Lib.hid hF
        clear hF h1 hs hf
        go_wp2_with (first
            | (at_lookup; refine wpList_lookup_own_ok_int _ rfl _ _ 78 rfl 3 3 .i64 lawK Try.underlying78 Try.underlying3 (zeroK _) bm k D rfl (hown.alloc _) _ _ rfl hkey ?_; rw [hh]; intro c _ _)
            | (go_at_call 10; (with_reducible refine (RX.out _ (by repeat (first | exact Below.refl _ _ | (with_reducible assumption) | refine bw_alloc ?_ _ | refine bw_drew ?_))).mono ?_); rintro e wx ⟨rfl, bx⟩; have BX := Lib.hid (bw_alloc (Below.refl _ wr) (.cells #[.int .i64 x.id, .int .i64 x.c, .int .i64 x.d, .int .i64 x.t, .int .i64 x.p, .slice x.a1 x.ch.length x.c1, .slice x.a2 x.us.length x.c2] 25)); have k0 := kept_cell (v := .int .i64 x.id) bx ((atB_new _ x _).c0); have k4 := kept_cell (v := .int .i64 x.p) bx ((atB_new _ x _).c4); have HB := Lib.hid (below_up BX.out bx); clear bx BX))
        rw [Exit.noGoto_ret]
        go_ret
        rw [HF.out]
        exact ⟨rfl, (HP.out.below HB.out).low⟩
      rw [if_neg h2] at hF
      have d1 : decide (x.id ≤ last) = false := decide_eq_false h2
      by_cases h3 : x.p ∈ seen
      · rw [if_pos h3] at hF
        rw [decide_eq_true h3] at hh
        have HF := Lib.hid hF
        clear hF h1 hs hf h3
        go_wp2_with (first
            | (at_lookup; refine wpList_lookup_own_ok_int _ rfl _ _ 78 rfl 3 3 .i64 lawK Try.underlying78 Try.underlying3 (zeroK _) bm k D rfl (hown.alloc _) _ _ rfl hkey ?_; rw [hh]; intro c _ _)
            | (go_at_call 10; (with_reducible refine (RX.out _ (by repeat (first | exact Below.refl _ _ | (with_reducible assumption) | refine bw_alloc ?_ _ | refine bw_drew ?_))).mono ?_); rintro e wx ⟨rfl, bx⟩; have BX := Lib.hid (bw_alloc (Below.refl _ wr) (.cells #[.int .i64 x.id, .int .i64 x.c, .int .i64 x.d, .int .i64 x.t, .int .i64 x.p, .slice x.a1 x.ch.length x.c1, .slice x.a2 x.us.length x.c2] 25)); have k0 := kept_cell (v := .int .i64 x.id) bx ((atB_new _ x _).c0); have k4 := kept_cell (v := .int .i64 x.p) bx ((atB_new _ x _).c4); have HB := Lib.hid (below_up BX.out bx); clear bx BX))
        rw [Exit.noGoto_ret]
        go_ret
        rw [HF.out]
        exact ⟨rfl, (HP.out.below HB.out).low⟩
      · rw [if_neg h3] at hF
        rw [decide_eq_false h3] at hh
        have HF : Hid (firstOf s x.id (x.p :: seen) (L.drop (k + 1)) = R) := hF.symm
        have HS3 := Lib.hid hs
        have HF3 := Lib.hid hf
        have HN3 : k < maxLen := by unfold maxLen; omega
        have HPUT : Hid (∀ v v', Below wr.heap.size wr v → v.ownsMap Try.prog 3 (plainElem Try.prog 3) bm k D → v'.ownsMap Try.prog 3 (plainElem Try.prog 3) bm (k + 1) (D.put (.int .i64 x.p) (.lit (.int .i64 x.id))) → v.mapTurned v' bm → Rounds w s r (some ⟨g, o, none⟩) n cap bm (k + 1) (x.p :: seen) v') :=
          fun v v' hb ho h1 h2 => (HP.out.below hb).put ho hf hs h1 h2
        have HOWN : Hid (∀ v, Below wr.heap.size wr v → v.ownsMap Try.prog 3 (plainElem Try.prog 3) bm k D) := fun v hb => by
          obtain ⟨es, clock, hm, q⟩ := hown
          exact ⟨es, clock, kept_obj hb hm, q⟩
        clear hF h1 hs hf h3
        go_wp2_with (first
            | (at_mapUpdate; refine wpList_mapUpdate_in _ rfl _ _ _ 78 rfl 3 3 lawK Try.underlying78 _ bm k D rfl (HOWN.out _ HB.out) HN3 _ _ _ rfl rfl hkey _ [] (plainElem_int Try.underlying3 hwv) ?_; intro w5 hown1 hturn1; have H5 := Lib.hid (HPUT.out _ _ HB.out (HOWN.out _ HB.out) hown1 hturn1); clear hown1 hturn1)
            | (at_lookup; refine wpList_lookup_own_ok_int _ rfl _ _ 78 rfl 3 3 .i64 lawK Try.underlying78 Try.underlying3 (zeroK _) bm k D rfl (hown.alloc _) _ _ rfl hkey ?_; rw [hh]; intro c _ _)
            | (go_at_call 10; (with_reducible refine (RX.out _ (by repeat (first | exact Below.refl _ _ | (with_reducible assumption) | refine bw_alloc ?_ _ | refine bw_drew ?_))).mono ?_); rintro e wx ⟨rfl, bx⟩; have BX := Lib.hid (bw_alloc (Below.refl _ wr) (.cells #[.int .i64 x.id, .int .i64 x.c, .int .i64 x.d, .int .i64 x.t, .int .i64 x.p, .slice x.a1 x.ch.length x.c1, .slice x.a2 x.us.length x.c2] 25)); have k0 := kept_cell (v := .int .i64 x.id) bx ((atB_new _ x _).c0); have k4 := kept_cell (v := .int .i64 x.p) bx ((atB_new _ x _).c4); have HB := Lib.hid (below_up BX.out bx); clear bx BX))
        go_roundw
        case rel => exact ⟨k + 1, x.id, x.p :: seen, by omega, by go_num, rfl, rfl, HF, H5⟩
        case measure => simp [intOf]; omega
    · obtain rfl : n = k := by omega
      have HF : Hid (R = 0) := by
        show _ = _
        rw [← HS.out, List.drop_of_length_le (by rw [HA.out.len]; exact Nat.le_refl _), firstOf]
      go_wp2_with fail
      go_ret
      rw [HF.out]
      exact ⟨rfl, HP.out.low⟩

set_option maxRecDepth 100000 in
set_option maxHeartbeats 4000000 in
theorem check_any {w : World} {a : Option Addr} {n cap : Nat} {L : List TV} (s r : Int) (ha : Tasks w a n cap L) (hw : ∀ x ∈ L, I64 x.p ∧ I64 x.id) :
    Calls Try.prog 12 #[.agg #[.int .i64 s, .int .i64 r, .slice a n cap]] w fun e w' => e = .returned (.int .i64 (checkOf s r L)) ∧ Below w.heap.size w w' := by
  have hl := ha.len
  have hn : (n : Int) ≤ 9223372036854775807 := by have := ha.le; have := ha.small; omega
  by_cases h1 : 0 ≤ s ∧ s ≤ 256
  rotate_left
  · have hr : checkOf s r L = 1 := by unfold checkOf; rw [if_pos]; unfold sysBad; omega
    rw [hr]
    have C := Lib.hid (fun w => within_no s 0 256 h1 w)
    clear hr h1 ha hw hl
    go_enter Try.func12, Try.ntmps12
    go_wp2_with (go_at_call 32; (with_reducible refine (C.out _).mono ?_); rintro e w1 ⟨rfl, rfl⟩)
    go_ret
    exact ⟨rfl, (by repeat (first | exact Below.refl _ _ | (with_reducible assumption) | refine bw_alloc ?_ _ | refine bw_drew ?_))⟩
  have C := Lib.hid (fun w => within_yes s 0 256 h1.1 h1.2 w)
  by_cases h2 : 0 ≤ r ∧ r ≤ 1000
  rotate_left
  · have hr : checkOf s r L = 1 := by unfold checkOf; rw [if_pos]; unfold sysBad; omega
    rw [hr]
    have D := Lib.hid (fun w => within64_no r 0 1000 h2 w)
    clear hr h1 h2 ha hw hl
    go_enter Try.func12, Try.ntmps12
    go_wp2_with (first
      | (go_at_call 32; (with_reducible refine (C.out _).mono ?_); rintro e w1 ⟨rfl, rfl⟩)
      | (go_at_call 37; (with_reducible refine (D.out _).mono ?_); rintro e w1 ⟨rfl, rfl⟩))
    go_ret
    exact ⟨rfl, (by repeat (first | exact Below.refl _ _ | (with_reducible assumption) | refine bw_alloc ?_ _ | refine bw_drew ?_))⟩
  have D := Lib.hid (fun w => within64_yes r 0 1000 h2.1 h2.2 w)
  by_cases h3 : n = 0
  · have hr : checkOf s r L = 1 := by unfold checkOf; rw [if_pos]; unfold sysBad; omega
    rw [hr]
    have d1 : ((n : Int) == 0) = true := by rw [beq_iff_eq]; omega
    clear hr h1 h2 h3 ha hw hl
    go_enter Try.func12, Try.ntmps12
    go_wp2_with (first
      | (go_at_call 32; (with_reducible refine (C.out _).mono ?_); rintro e w1 ⟨rfl, rfl⟩)
      | (go_at_call 37; (with_reducible refine (D.out _).mono ?_); rintro e w1 ⟨rfl, rfl⟩))
    go_ret
    exact ⟨rfl, (by repeat (first | exact Below.refl _ _ | (with_reducible assumption) | refine bw_alloc ?_ _ | refine bw_drew ?_))⟩
  have hr : checkOf s r L = if 64 < L.length then 15 else firstOf s 0 [] L := by unfold checkOf; rw [if_neg]; unfold sysBad; omega
  rw [hr]
  have d1 : ((n : Int) == 0) = false := by rw [beq_eq_false_iff_ne]; omega
  by_cases h4 : 64 < n
  · rw [if_pos (by omega)]
    have h5 : (64 : Int) < (n : Int) := by omega
    clear hr h1 h2 h3 ha hw hl
    go_enter Try.func12, Try.ntmps12
    go_wp2_with (first
      | (go_at_call 32; (with_reducible refine (C.out _).mono ?_); rintro e w1 ⟨rfl, rfl⟩)
      | (go_at_call 37; (with_reducible refine (D.out _).mono ?_); rintro e w1 ⟨rfl, rfl⟩))
    go_ret
    exact ⟨rfl, (by repeat (first | exact Below.refl _ _ | (with_reducible assumption) | refine bw_alloc ?_ _ | refine bw_drew ?_))⟩
  · rw [if_neg (by omega)]
    have h5 : ¬ (64 : Int) < (n : Int) := by omega
    have F : Hid (∀ v, Below w.heap.size w v → _) := fun v hb => first_any s r (ha.below hb) hw (by omega)
    clear hr h1 h2 h3 ha hw hl
    go_enter Try.func12, Try.ntmps12
    go_wp2_with (first
      | (go_at_call 32; (with_reducible refine (C.out _).mono ?_); rintro e w1 ⟨rfl, rfl⟩)
      | (go_at_call 37; (with_reducible refine (D.out _).mono ?_); rintro e w1 ⟨rfl, rfl⟩)
      | (go_at_call 38; (with_reducible refine (F.out _ (by repeat (first | exact Below.refl _ _ | (with_reducible assumption) | refine bw_alloc ?_ _ | refine bw_drew ?_))).mono ?_); rintro e w1 ⟨rfl, b1⟩; have B1 := Lib.hid b1; clear b1))
    go_ret
    exact ⟨rfl, below_up (by repeat (first | exact Below.refl _ _ | (with_reducible assumption) | refine bw_alloc ?_ _ | refine bw_drew ?_)) B1.out⟩
end Go.Proofs.Ytknjldmpcokgfaa
