/- Texts of this claim, put together: KW5, KW9, KW10, KChk, KW18, KW19, KW20, KW21, KW22. -/
import Derived.Test.YtlglncnhhgofoaaM4
import Derived.Maps.Views
import Derived.Shelf.SlSortCmp.InsertionK
set_option linter.unusedVariables false
set_option linter.unusedSimpArgs false

/-
  The walks over whether two rows of tasks, and two systems, are the same.
-/
namespace Go.Proofs.Ytlglncnhhgofoaa
open Go.RowKit Go.Maps

theorem row_step {L M : List TV} {k : Nat} {x y : TV} (h : (L.take k).map TV.tk = (M.take k).map TV.tk) (hx : L[k]? = some x) (hy : M[k]? = some y) (e : x.tk = y.tk) : (L.take (k + 1)).map TV.tk = (M.take (k + 1)).map TV.tk := by
  rw [List.take_add_one, List.take_add_one, List.map_append, List.map_append, h, hx, hy]
  simp [e]
theorem row_end {L M : List TV} {k : Nat} (h : (L.take k).map TV.tk = (M.take k).map TV.tk) (hl : L.length = k) (hm : M.length = k) : L.map TV.tk = M.map TV.tk := by
  rwa [List.take_of_length_le (by omega), List.take_of_length_le (by omega)] at h
theorem row_not {L M : List TV} {k : Nat} {x y : TV} (hx : L[k]? = some x) (hy : M[k]? = some y) (e : ¬ x.tk = y.tk) : ¬ L.map TV.tk = M.map TV.tk := by
  intro h
  have h1 : (L.map TV.tk)[k]? = some x.tk := by simp [hx]
  have h2 : (M.map TV.tk)[k]? = some y.tk := by simp [hy]
  rw [h, h2] at h1; exact e (Option.some.inj h1).symm
theorem row_len {L M : List TV} (h : ¬ L.length = M.length) : ¬ L.map TV.tk = M.map TV.tk := by
  intro z
  have := congrArg List.length z
  simp at this; exact h this

/-- A system by value. -/
abbrev sysV (s r : Int) (a : Option Addr) (n cap : Nat) : Value := .agg #[.int .i64 s, .int .i64 r, .slice a n cap]
end Go.Proofs.Ytlglncnhhgofoaa

/-
  The walks over what is wrong with a system.
-/
namespace Go.Proofs.Ytlglncnhhgofoaa
open Go.RowKit Go.Maps

theorem lawK : Keyed Try.prog 3 := int_keyed Try.underlying3
theorem zeroK (w : World) : (zeroValue 3).run Try.prog w = .ok (.int .i64 0) w := by kernel_rfl

/-- What the entries read as. -/
def IsF (D : DataW Unit) (f : Int → Option Int) : Prop :=
  ∀ k : Int, Maps.has D (.int .i64 k) = (f k).isSome ∧ D.atKey (.int .i64 k) (.lit (.int .i64 0)) = .lit (.int .i64 ((f k).getD 0))
/-- A block is a map of at most N entries, that are f. -/
def MapIs (w : World) (bm N : Nat) (f : Int → Option Int) : Prop := ∃ D : DataW Unit, w.ownsMap Try.prog 3 (plainElem Try.prog 3) bm N D ∧ IsF D f
/-- One entry set; one struck. -/
def fput (f : Int → Option Int) (k v : Int) (x : Int) : Option Int := if x = k then some v else f x
def fdel (f : Int → Option Int) (k : Int) (x : Int) : Option Int := if x = k then none else f x

theorem IsF.put {D : DataW Unit} {f : Int → Option Int} (h : IsF D f) (hD : IsMap D) (k v : Int) : IsF (D.put (.int .i64 k) (.lit (.int .i64 v))) (fput f k v) := by
  intro x
  unfold fput
  by_cases e : x = k
  · subst e
    rw [if_pos rfl, has_put_same hD (by trivial), atKey_put_same hD (by trivial)]
    exact ⟨rfl, rfl⟩
  · rw [if_neg e, has_put_other (by simp [e]), atKey_put_other (by simp [e])]
    exact h x
theorem IsF.del {D : DataW Unit} {f : Int → Option Int} (h : IsF D f) (k : Int) : IsF (D.del (.int .i64 k)) (fdel f k) := by
  intro x
  unfold fdel
  by_cases e : x = k
  · subst e
    rw [if_pos rfl, has_del_same, atKey_del_same]
    exact ⟨rfl, rfl⟩
  · rw [if_neg e, has_del_other (by simp [e]), atKey_del_other (by simp [e])]
    exact h x

theorem owns_tight {w : World} {bm n m : Nat} {D : DataW Unit} {R : Value → Option (DataW Unit × List MemPlace)} {P : Program} {k : TypeId} (h : w.ownsMap P k R bm n D) (hm : Maps.size D ≤ m) : w.ownsMap P k R bm m D := by
  obtain ⟨es, clock, hb, F, hs, rfl⟩ := h
  refine ⟨es, clock, hb, F, ?_, rfl⟩
  have : Maps.size (DataW.map ((es.toList.map (WideElems.rg P k R)).foldr DataW.insert [])) = es.size := by simp [Maps.size, length_sorted]
  omega

/-- Behind a store. -/
theorem MapIs.stored {w' : World} {bm N : Nat} {D : DataW Unit} {f : Int → Option Int} {k v : Int} (hf : IsF D f) (ht : Tidy D) (hs : Maps.size D ≤ N)
    (h : w'.ownsMap Try.prog 3 (plainElem Try.prog 3) bm (N + 1) (D.put (.int .i64 k) (.lit (.int .i64 v)))) : MapIs w' bm (if (f k).isSome then N else N + 1) (fput f k v) := by
  refine ⟨_, ?_, hf.put ht.isMap k v⟩
  split
  · rename_i hk
    refine owns_tight h ?_
    rw [size_put ht, if_pos ((hf k).1.trans hk)]; exact hs
  · exact h

theorem MapIs.lt {w : World} {bm N : Nat} {f : Int → Option Int} (h : MapIs w bm N f) : bm < w.heap.size := by
  obtain ⟨D, h, _⟩ := h; exact h.lt
theorem MapIs.obj {w : World} {bm N : Nat} {f : Int → Option Int} (h : MapIs w bm N f) : ∃ es clock, w.heap[bm]? = some (.map es clock) := by
  obtain ⟨D, ⟨es, clock, hb, _⟩, _⟩ := h; exact ⟨es, clock, hb⟩
theorem MapIs.ne_cells {w : World} {bm N b : Nat} {f : Int → Option Int} {cs : Array Value} {T : TypeId} {fr : Nat × Nat} (h : MapIs w bm N f) (hb : w.heap[b]? = some (.cells cs T fr)) : b ≠ bm := by
  obtain ⟨es, clock, h⟩ := h.obj
  rintro rfl
  rw [h] at hb; cases hb
theorem MapIs.ext {w : World} {bm N : Nat} {f f' : Int → Option Int} (h : MapIs w bm N f) (he : ∀ k, f k = f' k) : MapIs w bm N f' := by
  obtain ⟨D, h, hf⟩ := h
  exact ⟨D, h, fun k => by rw [← he]; exact hf k⟩
theorem MapIs.mono {w : World} {bm N M : Nat} {f : Int → Option Int} (h : MapIs w bm N f) (hm : N ≤ M) : MapIs w bm M f := by
  obtain ⟨D, h, hf⟩ := h
  exact ⟨D, h.mono hm, hf⟩


theorem I64.wf {x : Int} (h : I64 x) : (Lit.int .i64 x).wf = true := by
  unfold I64 at h
  simp [Lit.wf, IntKind.min, IntKind.max, IntKind.signed, IntKind.bits]; omega
theorem new_map (w : World) : MapIs (w.alloc (.map #[] 0)) w.heap.size 0 (fun _ => none) := ⟨.map [], World.ownsMap_made w _ _ _, fun _ => ⟨rfl, rfl⟩⟩
theorem MapIs.below {w w' : World} {bm N : Nat} {f : Int → Option Int} (h : MapIs w bm N f) (hb : Below w.heap.size w w') : MapIs w' bm N f := by
  obtain ⟨D, ⟨es, clock, hm, r⟩, hf⟩ := h
  exact ⟨D, ⟨es, clock, kept_obj hb hm, r⟩, hf⟩

/-- What is wrong with the tasks of a system. -/
def firstOf (s : Int) : Int → List Int → List TV → Int
  | _, _, [] => 0
  | last, seen, x :: l => if rightOf x s ≠ 0 then rightOf x s else if x.id ≤ last then 10 else if x.p ∈ seen then 14 else firstOf s x.id (x.p :: seen) l
def sysBad (s r : Int) (L : List TV) : Prop := ¬ (0 ≤ s ∧ s ≤ 256 ∧ 0 ≤ r ∧ r ≤ 1000) ∨ L.length = 0
instance (s r : Int) (L : List TV) : Decidable (sysBad s r L) := by unfold sysBad; infer_instance
def checkOf (s r : Int) (L : List TV) : Int := if sysBad s r L then 1 else if 64 < L.length then 15 else firstOf s 0 [] L
theorem first_drop {s last : Int} {seen : List Int} {L : List TV} {k : Nat} {x : TV} (hx : L[k]? = some x) :
    firstOf s last seen (L.drop k) = if rightOf x s ≠ 0 then rightOf x s else if x.id ≤ last then 10 else if x.p ∈ seen then 14 else firstOf s x.id (x.p :: seen) (L.drop (k + 1)) := by
  obtain ⟨h2, h3⟩ := List.getElem?_eq_some_iff.1 hx
  rw [List.drop_eq_getElem_cons h2, h3, firstOf]

/-- The keys of a map. -/
def Seen (w : World) (bm N : Nat) (seen : List Int) : Prop := ∃ f, MapIs w bm N f ∧ ∀ k, (f k).isSome = decide (k ∈ seen)
/-- Where the rounds stand. -/
structure Rounds (w : World) (s r : Int) (a : Option Addr) (n cap bm N : Nat) (seen : List Int) (v : World) : Prop where
  low : Below w.heap.size w v
  s0 : v.cell? ⟨w.heap.size, 0, none⟩ = some (.int .i64 s)
  s2 : v.cell? ⟨w.heap.size, 2, none⟩ = some (.slice a n cap)
  map : Seen v bm N seen
  new : w.heap.size ≤ bm
theorem Rounds.below {w v v' : World} {s r : Int} {a : Option Addr} {n cap bm N : Nat} {seen : List Int} (h : Rounds w s r a n cap bm N seen v) (hb : Below v.heap.size v v') : Rounds w s r a n cap bm N seen v' := by
  obtain ⟨f, hm, hf⟩ := h.map
  exact ⟨below_up h.low hb, kept_cell hb h.s0, kept_cell hb h.s2, ⟨f, hm.below hb, hf⟩, h.new⟩
theorem rounds_new {w : World} {s r : Int} {a : Option Addr} {n cap : Nat} {T : TypeId} : Rounds w s r a n cap (w.heap.size + 1) 0 [] ((w.alloc (.cells #[.int .i64 s, .int .i64 r, .slice a n cap] T)).alloc (.map #[] 0)) := by
  refine ⟨(by repeat (first | exact Below.refl _ _ | (with_reducible assumption) | refine bw_alloc ?_ _ | refine bw_drew ?_)), (new_first w _ _ _ 0).trans rfl, (new_first w _ _ _ 2).trans rfl, ⟨fun _ => none, ?_, fun k => by simp⟩, by omega⟩
  have := new_map (w.alloc (.cells #[.int .i64 s, .int .i64 r, .slice a n cap] T))
  rwa [World.size_alloc] at this
/-- What a store into the map leaves. -/
theorem Rounds.put {w v v' : World} {s r : Int} {a : Option Addr} {n cap bm N : Nat} {seen : List Int} {D : DataW Unit} {f : Int → Option Int} {k y : Int} (h : Rounds w s r a n cap bm N seen v) (hD : v.ownsMap Try.prog 3 (plainElem Try.prog 3) bm N D) (hf : IsF D f) (hs : ∀ k, (f k).isSome = decide (k ∈ seen))
    (h1 : v'.ownsMap Try.prog 3 (plainElem Try.prog 3) bm (N + 1) (D.put (.int .i64 k) (.lit (.int .i64 y)))) (ht : v.mapTurned v' bm) : Rounds w s r a n cap bm (N + 1) (k :: seen) v' := by
  have hm := (MapIs.stored (w' := v') (bm := bm) (N := N) (k := k) (v := y) hf (hD.tidy lawK) hD.size_le h1).mono (M := N + 1) (by split <;> omega)
  have hg : v.grownBy v' (some bm) := World.mapTurned.grown ht
  obtain ⟨es, clock, hb, _⟩ := hD
  have hne : ∀ o x, v.cell? ⟨w.heap.size, o, none⟩ = some x → w.heap.size ≠ bm := by
    rintro o x hx rfl
    rw [World.cell?] at hx
    simp [hb] at hx
  have hk : ∀ o x, v.cell? ⟨w.heap.size, o, none⟩ = some x → v'.cell? ⟨w.heap.size, o, none⟩ = some x := by
    intro o x hx
    rw [← hx]
    exact World.cell?_of_block (hg.block _ (block_of_cell hx) (fun e => hne o x hx (Option.some.inj e)))
  refine ⟨h.low.grown hg h.low.size (fun k hk => by cases hk; exact h.new), hk _ _ h.s0, hk _ _ h.s2, ⟨_, hm, fun x => ?_⟩, h.new⟩
  unfold fput
  by_cases e : x = k
  · subst e; simp
  · rw [if_neg e, hs]; simp [e]

set_option maxRecDepth 100000 in
set_option maxHeartbeats 8000000 in
theorem first_any {w : World} {a : Option Addr} {n cap : Nat} {L : List TV} (s r : Int) (ha : Tasks w a n cap L) (hw : ∀ x ∈ L, I64 x.p ∧ I64 x.id) (hn64 : n ≤ 64) :
    Calls Try.prog 53 #[.agg #[.int .i64 s, .int .i64 r, .slice a n cap]] w fun e w' => e = .returned (.int .i64 (firstOf s 0 [] L)) ∧ Below w.heap.size w w' := by
  have HA := Lib.hid ha
  have HW := Lib.hid hw
  generalize hR : firstOf s 0 [] L = R
  have HR := Lib.hid hR
  have hmm := @run_makeMap Try.prog
  have hn : (n : Int) ≤ 9223372036854775807 := by omega
  clear ha hw hR
  go_enter Try.func53, Try.ntmps53
  go_wp2
  go_step3
  go_wp2
  go_step3
  go_wp2
  refine gen_world (Rounds w s r a n cap (w.heap.size + 1) 0 []) rounds_new ?_
  intro W1 hw1
  have H1 := Lib.hid hw1
  clear hw1 hmm
  generalize w.heap.size + 1 = bm at H1 ⊢
  go_loopw [3, 4, 14] (fun v t u wr => ∃ (k : Nat) (last : Int) (seen : List Int), k ≤ n ∧ u = .int .i64 k ∧ t = .int .i64 last ∧ v = .int .i64 0 ∧ Hid (firstOf s last seen (L.drop k) = R) ∧ Hid (Rounds w s r a n cap bm k seen wr)) (fun _ _ u _ => (n - intOf u).toNat)
  case atStart => exact ⟨0, 0, [], by omega, rfl, rfl, rfl, by show _ = _; rw [List.drop_zero]; exact HR.out, H1⟩
  case round =>
    obtain ⟨k, last, seen, hk, rfl, rfl, rfl, HS, HP⟩ := hrel
    obtain ⟨f, ⟨D, hown, hf⟩, hs⟩ := HP.out.map
    have e0 := HP.out.s0
    have e2 := HP.out.s2
    have e9 := block_of_cell e0
    by_cases hlt : k < n
    · obtain ⟨x, hx⟩ := nth_of HA.out.len hlt
      obtain ⟨g, o, rfl, ⟨c0, c1, c2, c3, c4, c5, c6⟩⟩ := (HA.out.view.below HP.out.low).at_ hx
      have hk1 : (k : Int) < (n : Int) := by omega
      have hk0 : (0 : Int) ≤ (k : Int) := by omega
      have hwf := HW.out x (List.mem_of_getElem? hx)
      have hkey := keyOf_int_mk Try.underlying3 hwf.1.wf
      have hwv : (Lit.int .i64 x.id).wf = true := hwf.2.wf
      have hh : Maps.has D (.int .i64 x.p) = decide (x.p ∈ seen) := by rw [(hf x.p).1, hs]
      have hF := first_drop (s := s) (last := last) (seen := seen) hx
      rw [HS.out] at hF
      have HX := Lib.hid ((HA.out.ok.at_ hx).below HP.out.low)
      have RX := Lib.hid (fun v (hb : Below wr.heap.size wr v) => right_any x s v (HX.out.below hb))
      unfold TV.val at RX
      clear hx hwf
      by_cases h1 : rightOf x s = 0
      rotate_left
      · rw [if_pos h1] at hF
        have d1 : (rightOf x s == 0) = false := by rw [beq_eq_false_iff_ne]; exact h1
        have d2 : (rightOf x s != 0) = true := by rw [bne, d1]; rfl
        have HF := Lib.hid hF
        generalize rightOf x s = q at *
        clear hF h1 hs hf
        go_wp2_with (first
            | (at_lookup; refine wpList_lookup_own_ok_int _ rfl _ _ 116 rfl 3 3 .i64 lawK Try.underlying116 Try.underlying3 (zeroK _) bm k D rfl (hown.alloc _) _ _ rfl hkey ?_; rw [hh]; intro c _ _)
            | (go_at_call 76; (with_reducible refine (RX.out _ (by repeat (first | exact Below.refl _ _ | (with_reducible assumption) | refine bw_alloc ?_ _ | refine bw_drew ?_))).mono ?_); rintro e wx ⟨rfl, bx⟩; have BX := Lib.hid (bw_alloc (Below.refl _ wr) (.cells #[.int .i64 x.id, .int .i64 x.c, .int .i64 x.d, .int .i64 x.t, .int .i64 x.p, .slice x.a1 x.ch.length x.c1, .slice x.a2 x.us.length x.c2] 36)); have k0 := kept_cell (v := .int .i64 x.id) bx ((atB_new _ x _).c0); have k4 := kept_cell (v := .int .i64 x.p) bx ((atB_new _ x _).c4); have HB := Lib.hid (below_up BX.out bx); clear bx BX))
        rw [Exit.noGoto_ret]
        go_ret
        rw [HF.out]
        exact ⟨rfl, (HP.out.below HB.out).low⟩
      rw [if_neg (fun z => z h1)] at hF
      rw [h1] at RX
      by_cases h2 : x.id ≤ last
      · rw [if_pos h2] at hF
        have d1 : decide (x.id ≤ last) = true := decide_eq_true h2
        have HF := Lib.hid hF
        clear hF h1 hs hf
        go_wp2_with (first
            | (at_lookup; refine wpList_lookup_own_ok_int _ rfl _ _ 116 rfl 3 3 .i64 lawK Try.underlying116 Try.underlying3 (zeroK _) bm k D rfl (hown.alloc _) _ _ rfl hkey ?_; rw [hh]; intro c _ _)
            | (go_at_call 76; (with_reducible refine (RX.out _ (by repeat (first | exact Below.refl _ _ | (with_reducible assumption) | refine bw_alloc ?_ _ | refine bw_drew ?_))).mono ?_); rintro e wx ⟨rfl, bx⟩; have BX := Lib.hid (bw_alloc (Below.refl _ wr) (.cells #[.int .i64 x.id, .int .i64 x.c, .int .i64 x.d, .int .i64 x.t, .int .i64 x.p, .slice x.a1 x.ch.length x.c1, .slice x.a2 x.us.length x.c2] 36)); have k0 := kept_cell (v := .int .i64 x.id) bx ((atB_new _ x _).c0); have k4 := kept_cell (v := .int .i64 x.p) bx ((atB_new _ x _).c4); have HB := Lib.hid (below_up BX.out bx); clear bx BX))
        rw [Exit.noGoto_ret]
        go_ret
        rw [HF.out]
        exact ⟨rfl, (HP.out.below HB.out).low⟩
      rw [if_neg h2] at hF
      have d1 : decide (x.id ≤ last) = false := decide_eq_false h2
      by_cases h3 : x.p ∈ seen
      · rw [if_pos h3] at hF
        rw [decide_eq_true h3] at hh
        have HF := Lib.hid hF
        clear hF h1 hs hf h3
        go_wp2_with (first
            | (at_lookup; refine wpList_lookup_own_ok_int _ rfl _ _ 116 rfl 3 3 .i64 lawK Try.underlying116 Try.underlying3 (zeroK _) bm k D rfl (hown.alloc _) _ _ rfl hkey ?_; rw [hh]; intro c _ _)
            | (go_at_call 76; (with_reducible refine (RX.out _ (by repeat (first | exact Below.refl _ _ | (with_reducible assumption) | refine bw_alloc ?_ _ | refine bw_drew ?_))).mono ?_); rintro e wx ⟨rfl, bx⟩; have BX := Lib.hid (bw_alloc (Below.refl _ wr) (.cells #[.int .i64 x.id, .int .i64 x.c, .int .i64 x.d, .int .i64 x.t, .int .i64 x.p, .slice x.a1 x.ch.length x.c1, .slice x.a2 x.us.length x.c2] 36)); have k0 := kept_cell (v := .int .i64 x.id) bx ((atB_new _ x _).c0); have k4 := kept_cell (v := .int .i64 x.p) bx ((atB_new _ x _).c4); have HB := Lib.hid (below_up BX.out bx); clear bx BX))
        rw [Exit.noGoto_ret]
        go_ret
        rw [HF.out]
        exact ⟨rfl, (HP.out.below HB.out).low⟩
      · rw [if_neg h3] at hF
        rw [decide_eq_false h3] at hh
        have HF : Hid (firstOf s x.id (x.p :: seen) (L.drop (k + 1)) = R) := hF.symm
        have HS3 := Lib.hid hs
        have HF3 := Lib.hid hf
        have HN3 : k < maxLen := by unfold maxLen; omega
        have HPUT : Hid (∀ v v', Below wr.heap.size wr v → v.ownsMap Try.prog 3 (plainElem Try.prog 3) bm k D → v'.ownsMap Try.prog 3 (plainElem Try.prog 3) bm (k + 1) (D.put (.int .i64 x.p) (.lit (.int .i64 x.id))) → v.mapTurned v' bm → Rounds w s r (some ⟨g, o, none⟩) n cap bm (k + 1) (x.p :: seen) v') :=
          fun v v' hb ho h1 h2 => (HP.out.below hb).put ho hf hs h1 h2
        have HOWN : Hid (∀ v, Below wr.heap.size wr v → v.ownsMap Try.prog 3 (plainElem Try.prog 3) bm k D) := fun v hb => by
          obtain ⟨es, clock, hm, q⟩ := hown
          exact ⟨es, clock, kept_obj hb hm, q⟩
        clear hF h1 hs hf h3
        go_wp2_with (first
            | (at_mapUpdate; refine wpList_mapUpdate_in _ rfl _ _ _ 116 rfl 3 3 lawK Try.underlying116 _ bm k D rfl (HOWN.out _ HB.out) HN3 _ _ _ rfl rfl hkey _ [] (plainElem_int Try.underlying3 hwv) ?_; intro w5 hown1 hturn1; have H5 := Lib.hid (HPUT.out _ _ HB.out (HOWN.out _ HB.out) hown1 hturn1); clear hown1 hturn1)
            | (at_lookup; refine wpList_lookup_own_ok_int _ rfl _ _ 116 rfl 3 3 .i64 lawK Try.underlying116 Try.underlying3 (zeroK _) bm k D rfl (hown.alloc _) _ _ rfl hkey ?_; rw [hh]; intro c _ _)
            | (go_at_call 76; (with_reducible refine (RX.out _ (by repeat (first | exact Below.refl _ _ | (with_reducible assumption) | refine bw_alloc ?_ _ | refine bw_drew ?_))).mono ?_); rintro e wx ⟨rfl, bx⟩; have BX := Lib.hid (bw_alloc (Below.refl _ wr) (.cells #[.int .i64 x.id, .int .i64 x.c, .int .i64 x.d, .int .i64 x.t, .int .i64 x.p, .slice x.a1 x.ch.length x.c1, .slice x.a2 x.us.length x.c2] 36)); have k0 := kept_cell (v := .int .i64 x.id) bx ((atB_new _ x _).c0); have k4 := kept_cell (v := .int .i64 x.p) bx ((atB_new _ x _).c4); have HB := Lib.hid (below_up BX.out bx); clear bx BX))
        go_roundw
        case rel => exact ⟨k + 1, x.id, x.p :: seen, by omega, by go_num, rfl, rfl, HF, H5⟩
        case measure => simp [intOf]; omega
    · obtain rfl : n = k := by omega
      have HF : Hid (R = 0) := by
        show _ = _
        rw [← HS.out, List.drop_of_length_le (by rw [HA.out.len]; exact Nat.le_refl _), firstOf]
      go_wp2_with fail
      go_ret
      rw [HF.out]
      exact ⟨rfl, HP.out.low⟩

set_option maxRecDepth 100000 in
set_option maxHeartbeats 4000000 in
theorem check_any {w : World} {a : Option Addr} {n cap : Nat} {L : List TV} (s r : Int) (ha : Tasks w a n cap L) (hw : ∀ x ∈ L, I64 x.p ∧ I64 x.id) :
    Calls Try.prog 33 #[.agg #[.int .i64 s, .int .i64 r, .slice a n cap]] w fun e w' => e = .returned (.int .i64 (checkOf s r L)) ∧ Below w.heap.size w w' := by
  have hl := ha.len
  have hn : (n : Int) ≤ 9223372036854775807 := by have := ha.le; have := ha.small; omega
  by_cases h1 : 0 ≤ s ∧ s ≤ 256
  rotate_left
  · have hr : checkOf s r L = 1 := by unfold checkOf; rw [if_pos]; unfold sysBad; omega
    rw [hr]
    have C := Lib.hid (fun w => within_no s 0 256 h1 w)
    clear hr h1 ha hw hl
    go_enter Try.func33, Try.ntmps33
    go_wp2_with (go_at_call 51; (with_reducible refine (C.out _).mono ?_); rintro e w1 ⟨rfl, rfl⟩)
    go_ret
    exact ⟨rfl, (by repeat (first | exact Below.refl _ _ | (with_reducible assumption) | refine bw_alloc ?_ _ | refine bw_drew ?_))⟩
  have C := Lib.hid (fun w => within_yes s 0 256 h1.1 h1.2 w)
  by_cases h2 : 0 ≤ r ∧ r ≤ 1000
  rotate_left
  · have hr : checkOf s r L = 1 := by unfold checkOf; rw [if_pos]; unfold sysBad; omega
    rw [hr]
    have D := Lib.hid (fun w => within64_no r 0 1000 h2 w)
    clear hr h1 h2 ha hw hl
    go_enter Try.func33, Try.ntmps33
    go_wp2_with (first
      | (go_at_call 51; (with_reducible refine (C.out _).mono ?_); rintro e w1 ⟨rfl, rfl⟩)
      | (go_at_call 52; (with_reducible refine (D.out _).mono ?_); rintro e w1 ⟨rfl, rfl⟩))
    go_ret
    exact ⟨rfl, (by repeat (first | exact Below.refl _ _ | (with_reducible assumption) | refine bw_alloc ?_ _ | refine bw_drew ?_))⟩
  have D := Lib.hid (fun w => within64_yes r 0 1000 h2.1 h2.2 w)
  by_cases h3 : n = 0
  · have hr : checkOf s r L = 1 := by unfold checkOf; rw [if_pos]; unfold sysBad; omega
    rw [hr]
    have d1 : ((n : Int) == 0) = true := by rw [beq_iff_eq]; omega
    clear hr h1 h2 h3 ha hw hl
    go_enter Try.func33, Try.ntmps33
    go_wp2_with (first
      | (go_at_call 51; (with_reducible refine (C.out _).mono ?_); rintro e w1 ⟨rfl, rfl⟩)
      | (go_at_call 52; (with_reducible refine (D.out _).mono ?_); rintro e w1 ⟨rfl, rfl⟩))
    go_ret
    exact ⟨rfl, (by repeat (first | exact Below.refl _ _ | (with_reducible assumption) | refine bw_alloc ?_ _ | refine bw_drew ?_))⟩
  have hr : checkOf s r L = if 64 < L.length then 15 else firstOf s 0 [] L := by unfold checkOf; rw [if_neg]; unfold sysBad; omega
  rw [hr]
  have d1 : ((n : Int) == 0) = false := by rw [beq_eq_false_iff_ne]; omega
  by_cases h4 : 64 < n
  · rw [if_pos (by omega)]
    have h5 : (64 : Int) < (n : Int) := by omega
    clear hr h1 h2 h3 ha hw hl
    go_enter Try.func33, Try.ntmps33
    go_wp2_with (first
      | (go_at_call 51; (with_reducible refine (C.out _).mono ?_); rintro e w1 ⟨rfl, rfl⟩)
      | (go_at_call 52; (with_reducible refine (D.out _).mono ?_); rintro e w1 ⟨rfl, rfl⟩))
    go_ret
    exact ⟨rfl, (by repeat (first | exact Below.refl _ _ | (with_reducible assumption) | refine bw_alloc ?_ _ | refine bw_drew ?_))⟩
  · rw [if_neg (by omega)]
    have h5 : ¬ (64 : Int) < (n : Int) := by omega
    have F : Hid (∀ v, Below w.heap.size w v → _) := fun v hb => first_any s r (ha.below hb) hw (by omega)
    clear hr h1 h2 h3 ha hw hl
    go_enter Try.func33, Try.ntmps33
    go_wp2_with (first
      | (go_at_call 51; (with_reducible refine (C.out _).mono ?_); rintro e w1 ⟨rfl, rfl⟩)
      | (go_at_call 52; (with_reducible refine (D.out _).mono ?_); rintro e w1 ⟨rfl, rfl⟩)
      | (go_at_call 53; (with_reducible refine (F.out _ (by repeat (first | exact Below.refl _ _ | (with_reducible assumption) | refine bw_alloc ?_ _ | refine bw_drew ?_))).mono ?_); rintro e w1 ⟨rfl, b1⟩; have B1 := Lib.hid b1; clear b1))
    go_ret
    exact ⟨rfl, below_up (by repeat (first | exact Below.refl _ _ | (with_reducible assumption) | refine bw_alloc ?_ _ | refine bw_drew ?_)) B1.out⟩
end Go.Proofs.Ytlglncnhhgofoaa

/-
  The walk over what is wrong with a system, by the document's own words.
-/
namespace Go.Proofs.Ytlglncnhhgofoaa
open Go.RowKit Go.Maps

/-- A system in a box. -/
structure SysB (w : World) (g : Nat) (s r : Int) (a : Option Addr) (n cap : Nat) (v : World) : Prop where
  low : Below w.heap.size w v
  s0 : v.cell? ⟨g, 0, none⟩ = some (.int .i64 s)
  s1 : v.cell? ⟨g, 1, none⟩ = some (.int .i64 r)
  s2 : v.cell? ⟨g, 2, none⟩ = some (.slice a n cap)
theorem SysB.below {w v v' : World} {g : Nat} {s r : Int} {a : Option Addr} {n cap : Nat} (h : SysB w g s r a n cap v) (hb : Below v.heap.size v v') : SysB w g s r a n cap v' :=
  ⟨below_up h.low hb, kept_cell hb h.s0, kept_cell hb h.s1, kept_cell hb h.s2⟩
theorem sysB_new {w : World} {s r : Int} {a : Option Addr} {n cap : Nat} {T : TypeId} : SysB w w.heap.size s r a n cap (w.alloc (.cells #[.int .i64 s, .int .i64 r, .slice a n cap] T)) :=
  ⟨(by repeat (first | exact Below.refl _ _ | (with_reducible assumption) | refine bw_alloc ?_ _ | refine bw_drew ?_)), by rw [World.cell?_alloc_new]; rfl, by rw [World.cell?_alloc_new]; rfl, by rw [World.cell?_alloc_new]; rfl⟩

theorem right_id {x : TV} {s : Int} (h : rightOf x s = 0) : 1 ≤ x.id := by
  unfold rightOf at h
  by_cases g : idBad x
  · rw [if_pos g] at h; omega
  · unfold idBad at g; omega
/-- The priorities ahead, the last one first; the last number ahead. -/
def seenOf (L : List TV) : List Int := (L.map TV.p).reverse
def lastOf (L : List TV) (k : Nat) : Int := match k with
  | 0 => 0
  | k + 1 => (L[k]?.map TV.id).getD 0
theorem seen_next {L : List TV} {k : Nat} {x : TV} (hx : L[k]? = some x) : seenOf (L.take (k + 1)) = x.p :: seenOf (L.take k) := by
  unfold seenOf
  rw [List.take_add_one, hx]
  simp
theorem seen_mem {L : List TV} {j k : Nat} {x : TV} (hx : L[j]? = some x) (hj : j < k) : x.p ∈ seenOf (L.take k) := by
  unfold seenOf
  rw [List.mem_reverse, List.mem_map]
  exact ⟨x, List.mem_of_getElem? (i := j) (by rw [List.getElem?_take, if_pos hj]; exact hx), rfl⟩
theorem seen_not {L : List TV} {k : Nat} {p : Int} (h : ∀ j y, j < k → L[j]? = some y → ¬ y.p = p) : ¬ p ∈ seenOf (L.take k) := by
  unfold seenOf
  rw [List.mem_reverse, List.mem_map]
  rintro ⟨y, hy, rfl⟩
  obtain ⟨j, hj⟩ := List.mem_iff_getElem?.1 hy
  rw [List.getElem?_take] at hj
  split at hj
  · rename_i q; exact h j y q hj rfl
  · cases hj

set_option maxRecDepth 100000 in
set_option maxHeartbeats 8000000 in
theorem rcheck_any {w : World} {a : Option Addr} {n cap : Nat} {L : List TV} (s r : Int) (ha : Tasks w a n cap L) :
    Calls Try.prog 19 #[.agg #[.int .i64 s, .int .i64 r, .slice a n cap]] w fun e w' => e = .returned (.int .i64 (checkOf s r L)) ∧ Below w.heap.size w w' := by
  have hl := ha.len
  have hn : (n : Int) ≤ 9223372036854775807 := by have := ha.le; have := ha.small; omega
  by_cases hbad : sysBad s r L
  · have hr : checkOf s r L = 1 := by unfold checkOf; rw [if_pos hbad]
    rw [hr]
    unfold sysBad at hbad
    have d : decide (s < 0) = true ∨ (decide (s < 0) = false ∧ decide (256 < s) = true) ∨ (decide (s < 0) = false ∧ decide (256 < s) = false ∧ decide (r < 0) = true) ∨ (decide (s < 0) = false ∧ decide (256 < s) = false ∧ decide (r < 0) = false ∧ decide (1000 < r) = true) ∨ (decide (s < 0) = false ∧ decide (256 < s) = false ∧ decide (r < 0) = false ∧ decide (1000 < r) = false ∧ ((n : Int) == 0) = true) := by
      simp only [decide_eq_true_eq, decide_eq_false_iff_not, beq_iff_eq]; omega
    clear hr hbad ha hl
    rcases d with d1 | ⟨d1, d2⟩ | ⟨d1, d2, d3⟩ | ⟨d1, d2, d3, d4⟩ | ⟨d1, d2, d3, d4, d5⟩
    all_goals
      go_enter Try.func19, Try.ntmps19
      go_wp2
      go_ret
      exact ⟨rfl, (by repeat (first | exact Below.refl _ _ | (with_reducible assumption) | refine bw_alloc ?_ _ | refine bw_drew ?_))⟩
  have hr : checkOf s r L = if 64 < L.length then 15 else firstOf s 0 [] L := by unfold checkOf; rw [if_neg hbad]
  rw [hr]
  unfold sysBad at hbad
  have d1 : decide (s < 0) = false := decide_eq_false (by omega)
  have d2 : decide (256 < s) = false := decide_eq_false (by omega)
  have d3 : decide (r < 0) = false := decide_eq_false (by omega)
  have d4 : decide (1000 < r) = false := decide_eq_false (by omega)
  have d5 : ((n : Int) == 0) = false := by rw [beq_eq_false_iff_ne]; omega
  by_cases h4 : 64 < n
  · rw [if_pos (by omega)]
    have h5 : (64 : Int) < (n : Int) := by omega
    clear hr hbad ha hl
    go_enter Try.func19, Try.ntmps19
    go_wp2
    go_ret
    exact ⟨rfl, (by repeat (first | exact Below.refl _ _ | (with_reducible assumption) | refine bw_alloc ?_ _ | refine bw_drew ?_))⟩
  rw [if_neg (by omega)]
  have h5 : ¬ (64 : Int) < (n : Int) := by omega
  have HA := Lib.hid ha
  generalize hR : firstOf s 0 [] L = R
  have HR := Lib.hid hR
  clear hr hbad ha hl hR h4
  go_enter Try.func19, Try.ntmps19
  go_wp2
  refine gen_world (SysB w w.heap.size s r a n cap) sysB_new ?_
  intro W1 hw1
  have H1 := Lib.hid hw1
  clear hw1
  go_loopw [3] (fun u wr => ∃ (k : Nat), k ≤ n ∧ u = .int .i64 k ∧ Hid (firstOf s (lastOf L k) (seenOf (L.take k)) (L.drop k) = R) ∧ Hid (SysB w w.heap.size s r a n cap wr)) (fun u _ => (n - intOf u).toNat)
  case atStart => exact ⟨0, by omega, rfl, by show _ = _; rw [List.drop_zero]; exact HR.out, H1⟩
  case round =>
    obtain ⟨k, hk, rfl, HS, HP⟩ := hrel
    obtain ⟨_, e0, e1, e2⟩ := HP.out
    by_cases hlt : k < n
    · obtain ⟨x, hx⟩ := nth_of HA.out.len hlt
      obtain ⟨g, o, rfl, ⟨c0, c1, c2, c3, c4, c5, c6⟩⟩ := (HA.out.view.below HP.out.low).at_ hx
      have hk1 : (k : Int) < (n : Int) := by omega
      have hk0 : (0 : Int) ≤ (k : Int) := by omega
      have hF := first_drop (s := s) (last := lastOf L k) (seen := seenOf (L.take k)) hx
      rw [HS.out] at hF
      have HX := Lib.hid ((HA.out.ok.at_ hx).below HP.out.low)
      have RX := Lib.hid (fun v (hb : Below wr.heap.size wr v) => rright_any x s v (HX.out.below hb))
      unfold TV.val at RX
      have HXX := Lib.hid hx
      clear hx
      by_cases h1 : rightOf x s = 0
      rotate_left
      · rw [if_pos h1] at hF
        have d6 : (rightOf x s == 0) = false := by rw [beq_eq_false_iff_ne]; exact h1
        have d7 : (rightOf x s != 0) = true := by rw [bne, d6]; rfl
        have HF := Lib.hid hF
        generalize rightOf x s = q at *
        clear hF h1
        go_upto_region 8 with fail
        go_still_tail 7, (by kernel_rfl)
        go_wp2_with (go_at_call 36; (with_reducible refine (RX.out _ (by repeat (first | exact Below.refl _ _ | (with_reducible assumption) | refine bw_alloc ?_ _ | refine bw_drew ?_))).mono ?_); rintro e w1 ⟨rfl, b1⟩; have B1 := Lib.hid (below_up (W := wr) (by repeat (first | exact Below.refl _ _ | (with_reducible assumption) | refine bw_alloc ?_ _ | refine bw_drew ?_)) b1); clear b1)
        go_ret
        rw [HF.out]
        exact ⟨rfl, below_up HP.out.low B1.out⟩
      rw [if_neg (fun z => z h1)] at hF
      rw [h1] at RX
      have HF := Lib.hid hF
      have HID := Lib.hid (right_id h1)
      clear hF h1
      go_upto_region 8 with fail
      go_still_tail 7, (by kernel_rfl)
      go_upto_region 11 with (go_at_call 36; (with_reducible refine (RX.out _ (by repeat (first | exact Below.refl _ _ | (with_reducible assumption) | refine bw_alloc ?_ _ | refine bw_drew ?_))).mono ?_); rintro e w1 ⟨rfl, b1⟩; have HP1 := Lib.hid (HP.out.below (below_up (W := wr) (by repeat (first | exact Below.refl _ _ | (with_reducible assumption) | refine bw_alloc ?_ _ | refine bw_drew ?_)) b1)); clear b1)
      clear HP c0 c1 c2 c3 c4 c5 c6 e0 e1 e2 RX HX
      obtain ⟨_, e0, e1, e2⟩ := HP1.out
      by_cases hk9 : k = 0
      · have HF2 : Hid (R = if x.p ∈ seenOf (L.take k) then 14 else firstOf s x.id (x.p :: seenOf (L.take k)) (L.drop (k + 1))) := by
          show _ = _
          have := HF.out
          rw [if_neg (by rw [hk9, lastOf]; have := HID.out; omega)] at this
          exact this
        have f1 : ¬ (0 : Int) < (k : Int) := by omega
        have f2 : ¬ 0 < k := by omega
        have f3 : decide ((0 : Int) < (k : Int)) = false := decide_eq_false f1
        clear hk9
        go_quiet (fail)
        go_wp2
        go_loopw [5] (fun u wr => ∃ (i : Nat), i ≤ k ∧ u = .int .i64 i ∧ Hid (∀ j y, j < i → L[j]? = some y → ¬ y.p = x.p) ∧ Hid (SysB w w.heap.size s r (some ⟨g, o, none⟩) n cap wr)) (fun u _ => (k - intOf u).toNat)
        case atStart => exact ⟨0, by omega, rfl, fun j y hj => absurd hj (Nat.not_lt_zero _), HP1.out.below (below_same (Below.refl _ _) rfl rfl rfl rfl)⟩
        case round =>
          obtain ⟨i, hi, rfl, HT, HQ⟩ := hrel
          obtain ⟨_, e0, e1, e2⟩ := HQ.out
          by_cases hlt2 : i < k
          · obtain ⟨y, hy⟩ := nth_of HA.out.len (show i < n by omega)
            obtain ⟨g', o', eq, ⟨b0, b1, b2, b3, b4, b5, b6⟩⟩ := (HA.out.view.below HQ.out.low).at_ hy
            cases eq
            obtain ⟨g', o', eq, ⟨c0, c1, c2, c3, c4, c5, c6⟩⟩ := (HA.out.view.below HQ.out.low).at_ HXX.out
            cases eq
            have hi1 : (i : Int) < (n : Int) := by omega
            have hi2 : (i : Int) < (k : Int) := by omega
            have hi0 : (0 : Int) ≤ (i : Int) := by omega
            by_cases hp : y.p = x.p
            · have hR : Hid (R = 14) := by
                show _ = _
                have := HF2.out
                rw [if_pos (hp ▸ seen_mem hy hlt2)] at this
                exact this
              have d6 : (y.p == x.p) = true := by rw [beq_iff_eq]; exact hp
              clear hy hp b0 b1 b2 b3 b5 b6 c0 c1 c2 c3 c5 c6 HT
              go_upto_region 16 with fail
              go_quiet (fail)
              go_wp2
              go_ret
              rw [hR.out]
              exact ⟨rfl, below_same HQ.out.low rfl rfl rfl rfl⟩
            · have HT2 : Hid (∀ j z, j < i + 1 → L[j]? = some z → ¬ z.p = x.p) := by
                intro j z hj hz
                rcases Nat.lt_succ_iff_lt_or_eq.1 hj with q | rfl
                · exact HT.out j z q hz
                · rw [hy] at hz; cases hz; exact hp
              have d6 : (y.p == x.p) = false := by rw [beq_eq_false_iff_ne]; exact hp
              clear hy hp b0 b1 b2 b3 b5 b6 c0 c1 c2 c3 c5 c6 HT
              go_upto_region 16 with fail
              go_quiet (fail)
              go_wp2
              go_roundw
              case rel => exact ⟨i + 1, by omega, by go_num, HT2, HQ.out.below (below_same (Below.refl _ _) rfl rfl rfl rfl)⟩
              case measure => simp [intOf]; omega
          · obtain rfl : i = k := by omega
            have HN : Hid (firstOf s (lastOf L (i + 1)) (seenOf (L.take (i + 1))) (L.drop (i + 1)) = R) := by
              show _ = _
              have := HF2.out
              rw [if_neg (seen_not HT.out)] at this
              rw [seen_next HXX.out, lastOf, HXX.out, this]
              rfl
            go_wp2
            go_roundw
            case rel => exact ⟨i + 1, by omega, by go_num, HN, HQ⟩
            case measure => simp [intOf]; omega
      · obtain ⟨j, hj⟩ : ∃ j, k = j + 1 := ⟨k - 1, by omega⟩
        obtain ⟨y, hy⟩ := nth_of HA.out.len (show j < n by omega)
        obtain ⟨g', o', eq, ⟨b0, b1, b2, b3, b4, b5, b6⟩⟩ := (HA.out.view.below HP1.out.low).at_ hy
        cases eq
        obtain ⟨g', o', eq, ⟨c0, c1, c2, c3, c4, c5, c6⟩⟩ := (HA.out.view.below HP1.out.low).at_ HXX.out
        cases eq
        have f1 : (0 : Int) < (k : Int) := by omega
        have f2 : 0 < k := by omega
        have f3 : decide ((0 : Int) < (k : Int)) = true := decide_eq_true f1
        have f4 : (j : Int) < (n : Int) := by omega
        have f5 : (0 : Int) ≤ (j : Int) := by omega
        have HL : Hid (lastOf L k = y.id) := by
          show _ = _
          rw [hj, lastOf, hy]; rfl
        have hw : IntKind.i64.wrap ((k : Int) - 1) = (j : Int) := by rw [hj]; exact (IntWalk.i64_in _ (by omega)).trans (by omega)
        clear hk9 hj b1 b2 b3 b4 b5 b6 c1 c2 c3 c4 c5 c6 hy
        by_cases hle : x.id ≤ y.id
        · have hR : Hid (R = 10) := by
            show _ = _
            have := HF.out
            rw [HL.out, if_pos hle] at this
            exact this
          have d6 : decide (x.id ≤ y.id) = true := decide_eq_true hle
          go_quiet (fail)
          go_wp2
          go_ret
          rw [hR.out]
          exact ⟨rfl, below_same HP1.out.low rfl rfl rfl rfl⟩
        have HF2 : Hid (R = if x.p ∈ seenOf (L.take k) then 14 else firstOf s x.id (x.p :: seenOf (L.take k)) (L.drop (k + 1))) := by
          show _ = _
          have := HF.out
          rw [HL.out, if_neg hle] at this
          exact this
        have d6 : decide (x.id ≤ y.id) = false := decide_eq_false hle
        go_quiet (fail)
        clear b0 c0
        go_wp2
        go_loopw [5] (fun u wr => ∃ (i : Nat), i ≤ k ∧ u = .int .i64 i ∧ Hid (∀ j y, j < i → L[j]? = some y → ¬ y.p = x.p) ∧ Hid (SysB w w.heap.size s r (some ⟨g, o, none⟩) n cap wr)) (fun u _ => (k - intOf u).toNat)
        case atStart => exact ⟨0, by omega, rfl, fun j y hj => absurd hj (Nat.not_lt_zero _), HP1.out.below (below_same (Below.refl _ _) rfl rfl rfl rfl)⟩
        case round =>
          obtain ⟨i, hi, rfl, HT, HQ⟩ := hrel
          obtain ⟨_, e0, e1, e2⟩ := HQ.out
          by_cases hlt2 : i < k
          · obtain ⟨y, hy⟩ := nth_of HA.out.len (show i < n by omega)
            obtain ⟨g', o', eq, ⟨b0, b1, b2, b3, b4, b5, b6⟩⟩ := (HA.out.view.below HQ.out.low).at_ hy
            cases eq
            obtain ⟨g', o', eq, ⟨c0, c1, c2, c3, c4, c5, c6⟩⟩ := (HA.out.view.below HQ.out.low).at_ HXX.out
            cases eq
            have hi1 : (i : Int) < (n : Int) := by omega
            have hi2 : (i : Int) < (k : Int) := by omega
            have hi0 : (0 : Int) ≤ (i : Int) := by omega
            by_cases hp : y.p = x.p
            · have hR : Hid (R = 14) := by
                show _ = _
                have := HF2.out
                rw [if_pos (hp ▸ seen_mem hy hlt2)] at this
                exact this
              have d6 : (y.p == x.p) = true := by rw [beq_iff_eq]; exact hp
              clear hy hp b0 b1 b2 b3 b5 b6 c0 c1 c2 c3 c5 c6 HT
              go_upto_region 16 with fail
              go_quiet (fail)
              go_wp2
              go_ret
              rw [hR.out]
              exact ⟨rfl, below_same HQ.out.low rfl rfl rfl rfl⟩
            · have HT2 : Hid (∀ j z, j < i + 1 → L[j]? = some z → ¬ z.p = x.p) := by
                intro j z hj hz
                rcases Nat.lt_succ_iff_lt_or_eq.1 hj with q | rfl
                · exact HT.out j z q hz
                · rw [hy] at hz; cases hz; exact hp
              have d6 : (y.p == x.p) = false := by rw [beq_eq_false_iff_ne]; exact hp
              clear hy hp b0 b1 b2 b3 b5 b6 c0 c1 c2 c3 c5 c6 HT
              go_upto_region 16 with fail
              go_quiet (fail)
              go_wp2
              go_roundw
              case rel => exact ⟨i + 1, by omega, by go_num, HT2, HQ.out.below (below_same (Below.refl _ _) rfl rfl rfl rfl)⟩
              case measure => simp [intOf]; omega
          · obtain rfl : i = k := by omega
            have HN : Hid (firstOf s (lastOf L (i + 1)) (seenOf (L.take (i + 1))) (L.drop (i + 1)) = R) := by
              show _ = _
              have := HF2.out
              rw [if_neg (seen_not HT.out)] at this
              rw [seen_next HXX.out, lastOf, HXX.out, this]
              rfl
            go_wp2
            go_roundw
            case rel => exact ⟨i + 1, by omega, by go_num, HN, HQ⟩
            case measure => simp [intOf]; omega
    · obtain rfl : n = k := by omega
      have HF : Hid (R = 0) := by
        show _ = _
        rw [← HS.out, List.drop_of_length_le (by rw [HA.out.len]; exact Nat.le_refl _), firstOf]
      go_wp2_with fail
      go_ret
      rw [HF.out]
      exact ⟨rfl, HP.out.low⟩
end Go.Proofs.Ytlglncnhhgofoaa

/-
  What is wrong with a system by plain numbers: nothing; and with what becomes of it.
-/
namespace Go.Proofs.Ytlglncnhhgofoaa
open Go.RowKit Go.Maps

theorem good_right {k : Nat} {s : Int} {x : TV} (h : Good k s x) (hk : k < 6) : rightOf x s = 0 := by
  have h1 := h.id; have h2 := h.c1; have h3 := h.cd; have h4 := h.dt; have h5 := h.t24; have h6 := h.p1; have h7 := h.p99
  have hl : x.ch.length ≤ 24 := by
    rcases h.ch with e | e
    · rw [e]; simp
    · have := fill_len _ _ (by omega) e; omega
  have a1 : ¬ idBad x := by unfold idBad; omega
  have a2 : ¬ cdBad x := by unfold cdBad; omega
  have a3 : ¬ chBad x := by
    unfold chBad
    rintro (q | ⟨q1, q2⟩)
    · omega
    · rcases h.ch with e | e
      · exact q1 e
      · rw [e] at q2; cases q2
  have a4 : ¬ usBad x s := by
    unfold usBad
    rintro (q | q)
    · have := h.us5; omega
    · obtain ⟨u, hu, hb⟩ := List.any_eq_true.1 q
      have := h.us u hu
      unfold badB at hb
      simp only [decide_eq_true_eq] at hb
      omega
  unfold rightOf
  rw [if_neg a1, if_neg a2, if_neg a3, if_neg a4]

/-- The tasks ahead pass. -/
theorem first_pass {s : Int} (M : List TV) : ∀ (L : List TV) (k : Nat) (seen : List Int), k + L.length ≤ 6 → (∀ (j : Nat) (x : TV), L[j]? = some x → Good ((k + j : Nat) : Int) s x) → (∀ q ∈ seen, ∃ j : Nat, j < k ∧ (q - j) % 10 = 0) →
    firstOf s k seen (L ++ M) = firstOf s ((k + L.length : Nat) : Int) ((L.map TV.p).reverse ++ seen) M
  | [], k, seen, _, _, _ => rfl
  | x :: L, k, seen, hl, hg, hs => by
    have hx := hg 0 x rfl
    simp only [Nat.add_zero] at hx
    simp only [List.length_cons] at hl
    have hr := good_right hx (by omega)
    have hid : ¬ x.id ≤ (k : Int) := by rw [hx.id]; omega
    have hp : ¬ x.p ∈ seen := by
      intro q
      obtain ⟨j, hj, h⟩ := hs _ q
      have := hx.pi
      omega
    have hs' : ∀ q ∈ x.p :: seen, ∃ j : Nat, j < k + 1 ∧ (q - j) % 10 = 0 := by
      intro q hq
      rcases List.mem_cons.1 hq with rfl | hq
      · exact ⟨k, by omega, hx.pi⟩
      · obtain ⟨j, hj, h⟩ := hs _ hq
        exact ⟨j, by omega, h⟩
    have h2 := first_pass M L (k + 1) (x.p :: seen) (by omega) (fun j y hy => by
      have := hg (j + 1) y (by simpa using hy)
      rwa [show k + (j + 1) = k + 1 + j by omega] at this) hs'
    rw [List.cons_append, firstOf, if_neg (fun z => z hr), if_neg hid, if_neg hp, hx.id, show ((k : Int) + 1) = ((k + 1 : Nat) : Int) by omega, h2]
    simp only [List.length_cons, List.map_cons, List.reverse_cons, List.append_assoc, List.singleton_append]
    rw [show k + 1 + L.length = k + (L.length + 1) by omega]
theorem made_pass {s r : Int} {L : List TV} (h : Made s r L) (M : List TV) : firstOf s 0 [] (L ++ M) = firstOf s (L.length : Int) ((L.map TV.p).reverse ++ []) M := by
  have := first_pass (s := s) M L 0 [] (by have := h.six; omega) (fun j x hx => by simpa using h.good j x hx) (fun q hq => by cases hq)
  simpa using this
theorem made_ok {s r : Int} {L : List TV} (h : Made s r L) : ¬ sysBad s r L := by
  have h1 := h.s1; have h2 := h.s8; have h3 := h.r0; have h4 := h.r3; have h5 := h.pos
  unfold sysBad; omega
theorem check_made {s r : Int} {L : List TV} (h : Made s r L) : checkOf s r L = 0 := by
  unfold checkOf
  rw [if_neg (made_ok h), if_neg (by have := h.six; omega)]
  have := made_pass h []
  rw [List.append_nil] at this
  rw [this, firstOf]
theorem check_more {s r : Int} {L : List TV} (h : Made s r L) (y : TV) (want : Int) (hy : firstOf s (L.length : Int) ((L.map TV.p).reverse ++ []) [y] = want) : checkOf s r (L ++ [y]) = want := by
  unfold checkOf
  rw [if_neg, if_neg (by rw [List.length_append]; have := h.six; simp; omega), made_pass h, hy]
  have := made_ok h
  unfold sysBad at this ⊢
  rw [List.length_append]; simp; omega
theorem check_twice {s r : Int} {L : List TV} (h : Made s r L) {y : TV} {k : Nat} (hy : L[k]? = some y) : checkOf s r (L ++ [y]) = 10 := by
  refine check_more h y 10 ?_
  have hkl : k < L.length := (List.getElem?_eq_some_iff.1 hy).1
  have hg := h.good k y hy
  rw [firstOf, if_neg (fun z => z (good_right hg (by have := h.six; omega))), if_pos (by rw [hg.id]; omega)]
theorem check_prio {s r : Int} {L : List TV} (h : Made s r L) {y : TV} {k : Nat} (hy : L[k]? = some y) : checkOf s r (L ++ [{ y with id := 90 }]) = 14 := by
  refine check_more h _ 14 ?_
  have hkl : k < L.length := (List.getElem?_eq_some_iff.1 hy).1
  have hg := h.good k y hy
  have hr := good_right hg (by have := h.six; omega)
  have hr2 : rightOf { y with id := 90 } s = 0 := by
    unfold rightOf at hr ⊢
    have b1 : ¬ idBad y := by unfold idBad; have := hg.id; have := hg.p1; have := hg.p99; have := h.six; omega
    have b2 : ¬ idBad { y with id := 90 } := by unfold idBad; have := hg.p1; have := hg.p99; have := h.six; simp only; omega
    rw [if_neg b1] at hr
    rw [if_neg b2]
    exact hr
  rw [firstOf, if_neg (fun z => z hr2), if_neg (by have := h.six; simp only; omega), if_pos]
  rw [List.append_nil, List.mem_reverse, List.mem_map]
  exact ⟨y, List.mem_of_getElem? hy, rfl⟩
theorem check_none (s r : Int) : checkOf s r [] = 1 := by
  unfold checkOf; rw [if_pos]; unfold sysBad; right; rfl
theorem check_late {s r : Int} {L : List TV} (h : Made s r L) {y : TV} {k : Nat} (hy : L[k]? = some y) : checkOf s r (L.set k { y with d := y.t + 1 }) = 10 := by
  have hkl : k < L.length := (List.getElem?_eq_some_iff.1 hy).1
  have hg := h.good k y hy
  have h6 := h.six
  unfold checkOf
  rw [if_neg, if_neg (by rw [List.length_set]; omega)]
  · have e : L.set k { y with d := y.t + 1 } = L.take k ++ ({ y with d := y.t + 1 } :: L.drop (k + 1)) := by
      rw [List.set_eq_take_append_cons_drop, if_pos hkl]
    rw [e]
    have := first_pass (s := s) ({ y with d := y.t + 1 } :: L.drop (k + 1)) (L.take k) 0 [] (by rw [List.length_take]; omega) (fun j x hx => by
      rw [List.getElem?_take] at hx
      split at hx
      · simpa using h.good j x hx
      · cases hx) (fun q hq => by cases hq)
    simp only [Int.ofNat_zero, Int.natCast_zero] at this
    rw [this, firstOf]
    have hr : rightOf { y with d := y.t + 1 } s = 10 := by
      unfold rightOf
      have b1 : ¬ idBad { y with d := y.t + 1 } := by unfold idBad; have := hg.id; have := hg.p1; have := hg.p99; simp only; omega
      have b2 : cdBad { y with d := y.t + 1 } := by unfold cdBad; simp only; omega
      rw [if_neg b1, if_pos b2]
    rw [hr]; rfl
  · have := made_ok h
    unfold sysBad at this ⊢
    rw [List.length_set]; exact this
theorem made_less {s r : Int} {L : List TV} (h : Made s r L) (hl : 1 < L.length) : Made s r (L.take (L.length - 1)) :=
  ⟨h.s1, h.s8, h.r0, h.r3, by rw [List.length_take]; omega, by have := h.six; rw [List.length_take]; omega, fun k x hx => by
    rw [List.getElem?_take] at hx
    split at hx
    · exact h.good k x hx
    · cases hx⟩
theorem late_not {s r : Int} {L : List TV} (h : Made s r L) {y : TV} {k : Nat} (hy : L[k]? = some y) : ¬ (L.set k { y with d := y.t + 1 }).map TV.tk = L.map TV.tk := by
  have hkl : k < L.length := (List.getElem?_eq_some_iff.1 hy).1
  refine row_not (k := k) (x := { y with d := y.t + 1 }) (y := y) (by simp [hkl]) hy ?_
  intro z
  have := ((tk_eq _ _).1 z).2.2.1
  have h2 := (h.good k y hy).dt
  have h3 : y.t + 1 = y.d := this
  omega
theorem made_wf {s r : Int} {L : List TV} (h : Made s r L) : ∀ x ∈ L, I64 x.p ∧ I64 x.id := by
  intro x hx
  obtain ⟨k, hk⟩ := List.mem_iff_getElem?.1 hx
  have hg := h.good k x hk
  have hkl : k < L.length := (List.getElem?_eq_some_iff.1 hk).1
  have := h.six; have := hg.id; have := hg.p1; have := hg.p99
  unfold I64
  omega
end Go.Proofs.Ytlglncnhhgofoaa

/-
  The walks over rows of numbers copied, and over a task with rows of its own.
-/
namespace Go.Proofs.Ytlglncnhhgofoaa
open Go.RowKit Go.Maps

/-- A row of one's own that comes back. -/
def CloneBack (l : List Int) (w : World) (e : Ending) (w' : World) : Prop :=
  ∃ a c, e = .returned (.slice a l.length c) ∧ Ints w' a l ∧ IsI w' a l ∧ l.length ≤ c ∧ (c : Int) ≤ 9223372036854775807 ∧ Below w.heap.size w w'

theorem nilL (n c : Nat) (w : World) : (binOp .eql 34 (.slice none n c) (.slice none 0 0)).run Try.prog w = .ok (.bool true) w := by kernel_rfl
theorem someL (x : Addr) (n c : Nat) (w : World) : (binOp .eql 34 (.slice (some x) n c) (.slice none 0 0)).run Try.prog w = .ok (.bool false) w := by kernel_rfl
theorem nilI (n c : Nat) (w : World) : (binOp .eql 28 (.slice none n c) (.slice none 0 0)).run Try.prog w = .ok (.bool true) w := by kernel_rfl
theorem someI (x : Addr) (n c : Nat) (w : World) : (binOp .eql 28 (.slice (some x) n c) (.slice none 0 0)).run Try.prog w = .ok (.bool false) w := by kernel_rfl
theorem numint64 : IsNum 34 2 := numL
theorem numint : IsNum 28 3 := numI
attribute [local go_sem] nilL someL nilI someI

set_option maxRecDepth 100000 in
set_option maxHeartbeats 1000000 in
theorem clone_int64 (n cap : Nat) (a : Option Addr) (l : List Int) (hl : l.length = n) (hn : (n : Int) ≤ 1000000) (w : World) (h : Ints w a l) :
    Calls Try.prog 89 #[.slice a n cap] w (CloneBack l w) := by
  cases a with
  | none =>
    obtain rfl := h.nothing
    obtain rfl : n = 0 := by simpa using hl.symm
    go_enter Try.func89, Try.ntmps89
    go_wp2
    go_ret
    exact ⟨_, _, rfl, .inl rfl, .inl rfl, Nat.le_refl _, by omega, Below.refl _ _⟩
  | some x =>
    have H := Lib.hid h
    have HL := Lib.hid hl
    have HSM : Hid (((([] : List Int).length : Int) + (n : Int)) ≤ 17592186044416) := by show _ ≤ _; simp; omega
    clear h hl
    go_enter Try.func89, Try.ntmps89
    go_wp2_with (at_builtin; refine wp_ints (m := n) (l := l) (q := []) numint64 rfl _ _ rfl rfl rfl (OwnI.made w 2) (by simp) (H.out.below (by repeat (first | exact Below.refl _ _ | (with_reducible assumption) | refine bw_alloc ?_ _ | refine bw_drew ?_))) HL.out HSM.out (fun z => by cases z) n (by simp) ?_; intro a3 k3 w3 o3 g3 l3; have HO := Lib.hid o3; have HB := Lib.hid (((Below.refl w.heap.size w).alloc (Nat.le_refl _) _).grown g3 (by simp) (fun k hk => ((OwnI.made w 2).new hk).1)); clear o3 g3 l3)
    go_ret
    have ho : OwnI w3 2 w.heap.size (.slice a3 n k3) l := by simpa using HO.out
    obtain ⟨a4, c4, e4, i4, l4, m4⟩ := ho.slice
    simp only [Value.slice.injEq] at e4
    obtain ⟨rfl, _, rfl⟩ := e4
    exact ⟨a3, k3, (by rw [HL.out]; rfl), i4, ho.isI (by first | exact .inl rfl | exact .inr rfl), l4, m4, HB.out⟩
set_option maxRecDepth 100000 in
set_option maxHeartbeats 1000000 in
theorem clone_int (n cap : Nat) (a : Option Addr) (l : List Int) (hl : l.length = n) (hn : (n : Int) ≤ 1000000) (w : World) (h : Ints w a l) :
    Calls Try.prog 90 #[.slice a n cap] w (CloneBack l w) := by
  cases a with
  | none =>
    obtain rfl := h.nothing
    obtain rfl : n = 0 := by simpa using hl.symm
    go_enter Try.func90, Try.ntmps90
    go_wp2
    go_ret
    exact ⟨_, _, rfl, .inl rfl, .inl rfl, Nat.le_refl _, by omega, Below.refl _ _⟩
  | some x =>
    have H := Lib.hid h
    have HL := Lib.hid hl
    have HSM : Hid (((([] : List Int).length : Int) + (n : Int)) ≤ 17592186044416) := by show _ ≤ _; simp; omega
    clear h hl
    go_enter Try.func90, Try.ntmps90
    go_wp2_with (at_builtin; refine wp_ints (m := n) (l := l) (q := []) numint rfl _ _ rfl rfl rfl (OwnI.made w 3) (by simp) (H.out.below (by repeat (first | exact Below.refl _ _ | (with_reducible assumption) | refine bw_alloc ?_ _ | refine bw_drew ?_))) HL.out HSM.out (fun z => by cases z) n (by simp) ?_; intro a3 k3 w3 o3 g3 l3; have HO := Lib.hid o3; have HB := Lib.hid (((Below.refl w.heap.size w).alloc (Nat.le_refl _) _).grown g3 (by simp) (fun k hk => ((OwnI.made w 3).new hk).1)); clear o3 g3 l3)
    go_ret
    have ho : OwnI w3 3 w.heap.size (.slice a3 n k3) l := by simpa using HO.out
    obtain ⟨a4, c4, e4, i4, l4, m4⟩ := ho.slice
    simp only [Value.slice.injEq] at e4
    obtain ⟨rfl, _, rfl⟩ := e4
    exact ⟨a3, k3, (by rw [HL.out]; rfl), i4, ho.isI (by first | exact .inl rfl | exact .inr rfl), l4, m4, HB.out⟩
end Go.Proofs.Ytlglncnhhgofoaa

/-
  The walk over a task with rows of its own.
-/
namespace Go.Proofs.Ytlglncnhhgofoaa
open Go.RowKit Go.Maps

/-- A task in a box, one that comes back in another one. -/
structure OwnAt (w : World) (x : TV) (v1 v2 : Value) (W : World) : Prop where
  low : Below w.heap.size w W
  box : W.heap[w.heap.size]? = some (.cells #[.int .i64 x.id, .int .i64 x.c, .int .i64 x.d, .int .i64 x.t, .int .i64 x.p, v1, v2] TT (0, 0))
  res : W.heap[w.heap.size + 1]? = some (.cells #[.int .i64 0, .int .i64 0, .int .i64 0, .int .i64 0, .int .i64 0, .slice none 0 0, .slice none 0 0] TT (0, 0))
theorem OwnAt.below {w W W' : World} {x : TV} {v1 v2 : Value} (h : OwnAt w x v1 v2 W) (hb : Below W.heap.size W W') : OwnAt w x v1 v2 W' :=
  ⟨below_up h.low hb, kept_obj hb h.box, kept_obj hb h.res⟩
theorem ownAt_new {w : World} {x : TV} : OwnAt w x (.slice x.a1 x.ch.length x.c1) (.slice x.a2 x.us.length x.c2) ((w.alloc (.cells #[.int .i64 x.id, .int .i64 x.c, .int .i64 x.d, .int .i64 x.t, .int .i64 x.p, .slice x.a1 x.ch.length x.c1, .slice x.a2 x.us.length x.c2] TT)).alloc (.cells #[.int .i64 0, .int .i64 0, .int .i64 0, .int .i64 0, .int .i64 0, .slice none 0 0, .slice none 0 0] TT)) := by
  refine ⟨(by repeat (first | exact Below.refl _ _ | (with_reducible assumption) | refine bw_alloc ?_ _ | refine bw_drew ?_)), ?_, ?_⟩
  · rw [Below.heap_alloc _ _ _ (by simp)]; exact heap_alloc_new w _
  · have := heap_alloc_new (w.alloc (.cells #[.int .i64 x.id, .int .i64 x.c, .int .i64 x.d, .int .i64 x.t, .int .i64 x.p, .slice x.a1 x.ch.length x.c1, .slice x.a2 x.us.length x.c2] TT)) (.cells #[.int .i64 0, .int .i64 0, .int .i64 0, .int .i64 0, .int .i64 0, .slice none 0 0, .slice none 0 0] TT)
    rwa [World.size_alloc] at this
/-- Blocks of numbers stay where a cell of a block of tasks is stored. -/
def KeepI (w w' : World) : Prop := ∀ (g : Nat) (cs : Array Value) (T : TypeId) (fr : Nat × Nat), w.heap[g]? = some (.cells cs T fr) → (T = 2 ∨ T = 3) → w'.heap[g]? = w.heap[g]?
theorem KeepI.refl (w : World) : KeepI w w := fun _ _ _ _ _ _ => rfl
theorem KeepI.trans {w w' w'' : World} (h : KeepI w w') (k : KeepI w' w'') : KeepI w w'' := fun g cs T fr hc hT =>
  (k g cs T fr ((h g cs T fr hc hT).trans hc) hT).trans (h g cs T fr hc hT)
theorem keepI_set {w : World} {b o : Nat} {cs0 : Array Value} {fr0 : Nat × Nat} (hb : w.heap[b]? = some (.cells cs0 TT fr0)) (v : Value) : KeepI w (w.setCell ⟨b, o, none⟩ v) := by
  intro g cs T fr hc hT
  refine blk_far (a := ⟨b, o, none⟩) ?_ v
  rintro rfl
  rw [hb] at hc
  simp at hc
  rcases hT with q | q <;> rw [q] at hc <;> exact absurd hc.2.1 (by decide)
theorem keepI_below {w w' : World} (hb : Below w.heap.size w w') : KeepI w w' := fun g _ _ _ hc _ => hb.block g (lt_of_block hc)
theorem OwnAt.one {w W : World} {x : TV} {v1 v2 : Value} (h : OwnAt w x v1 v2 W) (v : Value) : OwnAt w x v v2 (W.setCell ⟨w.heap.size, 5, none⟩ v) ∧ KeepI W (W.setCell ⟨w.heap.size, 5, none⟩ v) :=
  ⟨⟨h.low.setCell (p := ⟨w.heap.size, 5, none⟩) (Nat.le_refl _) _, (blk_set h.box _).trans rfl, by rw [blk_far (a := ⟨w.heap.size, 5, none⟩) (Nat.succ_ne_self _)]; exact h.res⟩, keepI_set h.box v⟩
theorem OwnAt.two {w W : World} {x : TV} {v1 v2 : Value} (h : OwnAt w x v1 v2 W) (v : Value) : OwnAt w x v1 v (W.setCell ⟨w.heap.size, 6, none⟩ v) ∧ KeepI W (W.setCell ⟨w.heap.size, 6, none⟩ v) :=
  ⟨⟨h.low.setCell (p := ⟨w.heap.size, 6, none⟩) (Nat.le_refl _) _, (blk_set h.box _).trans rfl, by rw [blk_far (a := ⟨w.heap.size, 6, none⟩) (Nat.succ_ne_self _)]; exact h.res⟩, keepI_set h.box v⟩
theorem keepI_set7 {w : World} {b : Nat} {cs0 : Array Value} {fr0 : Nat × Nat} (hb : w.heap[b]? = some (.cells cs0 TT fr0)) (x0 x1 x2 x3 x4 x5 x6 : Value) : KeepI w ((((((((w.setCell ⟨b, 0, none⟩ x0).setCell ⟨b, 1, none⟩ x1).setCell ⟨b, 2, none⟩ x2).setCell ⟨b, 3, none⟩ x3).setCell ⟨b, 4, none⟩ x4).setCell ⟨b, 5, none⟩ x5).setCell ⟨b, 6, none⟩ x6)) :=
  (keepI_set hb x0).trans ((keepI_set (blk_set hb x0) x1).trans ((keepI_set (blk_set (blk_set hb x0) x1) x2).trans ((keepI_set (blk_set (blk_set (blk_set hb x0) x1) x2) x3).trans ((keepI_set (blk_set (blk_set (blk_set (blk_set hb x0) x1) x2) x3) x4).trans ((keepI_set (blk_set (blk_set (blk_set (blk_set (blk_set hb x0) x1) x2) x3) x4) x5).trans (keepI_set (blk_set (blk_set (blk_set (blk_set (blk_set (blk_set hb x0) x1) x2) x3) x4) x5) x6))))))

/-- A task with rows of its own that comes back. -/
def OwnBack (x : TV) (w : World) (e : Ending) (w' : World) : Prop :=
  ∃ y : TV, e = .returned (.agg #[.int .i64 y.id, .int .i64 y.c, .int .i64 y.d, .int .i64 y.t, .int .i64 y.p, .slice y.a1 y.ch.length y.c1, .slice y.a2 y.us.length y.c2]) ∧ y.tk = x.tk ∧ y.ok w' ∧ (IsI w' y.a1 y.ch ∧ IsI w' y.a2 y.us) ∧ Below w.heap.size w w'

set_option maxRecDepth 100000 in
set_option maxHeartbeats 4000000 in
theorem own_any (x : TV) (w : World) (hx : x.ok w) (h1 : (x.ch.length : Int) ≤ 1000000) (h2 : (x.us.length : Int) ≤ 1000000) :
    Calls Try.prog 71 #[.agg #[.int .i64 x.id, .int .i64 x.c, .int .i64 x.d, .int .i64 x.t, .int .i64 x.p, .slice x.a1 x.ch.length x.c1, .slice x.a2 x.us.length x.c2]] w (OwnBack x w) := by
  have hz := zeroTask
  have C1 : Hid (∀ w', Below w.heap.size w w' → _) := fun w' hb => clone_int64 x.ch.length x.c1 x.a1 x.ch rfl h1 w' (hx.one.below hb)
  have C2 : Hid (∀ w', Below w.heap.size w w' → _) := fun w' hb => clone_int x.us.length x.c2 x.a2 x.us rfl h2 w' (hx.two.below hb)
  clear hx h1 h2
  go_enter Try.func71, Try.ntmps71
  go_upto_region 1 with fail
  refine gen_world (OwnAt w x _ _) ownAt_new ?_
  intro W1 hw1
  have H1 := Lib.hid hw1
  have b5 : W1.cell? ⟨w.heap.size, 5, none⟩ = some (.slice x.a1 x.ch.length x.c1) := by rw [blk_cell hw1.box]; rfl
  have hl1 : w.heap.size < W1.heap.size := lt_of_block hw1.box
  clear hw1
  go_upto_region 2 with (go_at_call 89; (with_reducible refine (C1.out _ H1.out.low).mono ?_); rintro e w5 ⟨a5, c5, rfl, i5, ii5, l5, m5, q5⟩; have H5 := Lib.hid (H1.out.below q5); have I5 := Lib.hid (And.intro i5 (And.intro ii5 (And.intro l5 m5))); have f5 := blk_free H5.out.box 5; have b5' : w5.cell? ⟨w.heap.size, 5, none⟩ = some (.slice x.a1 x.ch.length x.c1) := (by rw [blk_cell H5.out.box]; rfl); have hl5 : w.heap.size < w5.heap.size := (lt_of_block H5.out.box); clear i5 ii5 l5 m5 q5)
  refine gen_world (fun v => OwnAt w x (.slice a5 x.ch.length c5) (.slice x.a2 x.us.length x.c2) v ∧ Ints v a5 x.ch ∧ IsI v a5 x.ch) ⟨(H5.out.one _).1, I5.out.1.kept I5.out.2.1 (H5.out.one _).2, I5.out.2.1.kept (H5.out.one _).2⟩ ?_
  intro W2 ⟨hw2, hi2⟩
  have H2 := Lib.hid hw2
  have I2 := Lib.hid hi2
  have LM := Lib.hid I5.out.2.2
  have b6 : W2.cell? ⟨w.heap.size, 6, none⟩ = some (.slice x.a2 x.us.length x.c2) := by rw [blk_cell hw2.box]; rfl
  have hl2 : w.heap.size < W2.heap.size := lt_of_block hw2.box
  clear hw2 hi2 H1 H5 I5 b5 b5' f5 hl1 hl5
  go_upto_region 3 with (go_at_call 90; (with_reducible refine (C2.out _ H2.out.low).mono ?_); rintro e w6 ⟨a6, c6, rfl, i6, ii6, l6, m6, q6⟩; have H6 := Lib.hid (H2.out.below q6); have I6 := Lib.hid (And.intro i6 (And.intro ii6 (And.intro l6 m6))); have J6 := Lib.hid (And.intro (I2.out.1.below q6) (I2.out.2.below q6)); have f6 := blk_free H6.out.box 6; have b6' : w6.cell? ⟨w.heap.size, 6, none⟩ = some (.slice x.a2 x.us.length x.c2) := (by rw [blk_cell H6.out.box]; rfl); have hl6 : w.heap.size < w6.heap.size := (lt_of_block H6.out.box); clear i6 ii6 l6 m6 q6)
  refine gen_world (fun v => OwnAt w x (.slice a5 x.ch.length c5) (.slice a6 x.us.length c6) v ∧ (Ints v a5 x.ch ∧ IsI v a5 x.ch) ∧ Ints v a6 x.us ∧ IsI v a6 x.us) ⟨(H6.out.two _).1, ⟨J6.out.1.kept J6.out.2 (H6.out.two _).2, J6.out.2.kept (H6.out.two _).2⟩, I6.out.1.kept I6.out.2.1 (H6.out.two _).2, I6.out.2.1.kept (H6.out.two _).2⟩ ?_
  intro W3 ⟨hw3, hi3, hj3⟩
  have H3 := Lib.hid hw3
  have I3 := Lib.hid hi3
  have J3 := Lib.hid hj3
  have LM6 := Lib.hid I6.out.2.2
  have c0 : W3.cell? ⟨w.heap.size, 0, none⟩ = some (.int .i64 x.id) := by rw [blk_cell hw3.box]; rfl
  have c1 : W3.cell? ⟨w.heap.size, 1, none⟩ = some (.int .i64 x.c) := by rw [blk_cell hw3.box]; rfl
  have c2 : W3.cell? ⟨w.heap.size, 2, none⟩ = some (.int .i64 x.d) := by rw [blk_cell hw3.box]; rfl
  have c3 : W3.cell? ⟨w.heap.size, 3, none⟩ = some (.int .i64 x.t) := by rw [blk_cell hw3.box]; rfl
  have c4 : W3.cell? ⟨w.heap.size, 4, none⟩ = some (.int .i64 x.p) := by rw [blk_cell hw3.box]; rfl
  have c5' : W3.cell? ⟨w.heap.size, 5, none⟩ = some (.slice a5 x.ch.length c5) := by rw [blk_cell hw3.box]; rfl
  have c6' : W3.cell? ⟨w.heap.size, 6, none⟩ = some (.slice a6 x.us.length c6) := by rw [blk_cell hw3.box]; rfl
  have r0 : W3.cell? ⟨w.heap.size + 1, 0, none⟩ = some (.int .i64 0) := by rw [blk_cell hw3.res]; rfl
  have r1 : W3.cell? ⟨w.heap.size + 1, 1, none⟩ = some (.int .i64 0) := by rw [blk_cell hw3.res]; rfl
  have r2 : W3.cell? ⟨w.heap.size + 1, 2, none⟩ = some (.int .i64 0) := by rw [blk_cell hw3.res]; rfl
  have r3 : W3.cell? ⟨w.heap.size + 1, 3, none⟩ = some (.int .i64 0) := by rw [blk_cell hw3.res]; rfl
  have r4 : W3.cell? ⟨w.heap.size + 1, 4, none⟩ = some (.int .i64 0) := by rw [blk_cell hw3.res]; rfl
  have r5 : W3.cell? ⟨w.heap.size + 1, 5, none⟩ = some (.slice none 0 0) := by rw [blk_cell hw3.res]; rfl
  have r6 : W3.cell? ⟨w.heap.size + 1, 6, none⟩ = some (.slice none 0 0) := by rw [blk_cell hw3.res]; rfl
  have f0 := blk_free hw3.res 0
  have f1 := blk_free hw3.res 1
  have f2 := blk_free hw3.res 2
  have f3 := blk_free hw3.res 3
  have f4 := blk_free hw3.res 4
  have f5 := blk_free hw3.res 5
  have f6' := blk_free hw3.res 6
  have hr1 : w.heap.size + 1 < W3.heap.size := lt_of_block hw3.res
  have HFIN : Hid (∀ x0 x1 x2 x3 x4 x5 x6, OwnBack x w (.returned (.agg #[.int .i64 x.id, .int .i64 x.c, .int .i64 x.d, .int .i64 x.t, .int .i64 x.p, .slice a5 x.ch.length c5, .slice a6 x.us.length c6])) ((((((((W3.setCell ⟨w.heap.size + 1, 0, none⟩ x0).setCell ⟨w.heap.size + 1, 1, none⟩ x1).setCell ⟨w.heap.size + 1, 2, none⟩ x2).setCell ⟨w.heap.size + 1, 3, none⟩ x3).setCell ⟨w.heap.size + 1, 4, none⟩ x4).setCell ⟨w.heap.size + 1, 5, none⟩ x5).setCell ⟨w.heap.size + 1, 6, none⟩ x6))) := by
    intro x0 x1 x2 x3 x4 x5 x6
    have hk := keepI_set7 H3.out.res x0 x1 x2 x3 x4 x5 x6
    exact ⟨⟨x.id, x.c, x.d, x.t, x.p, a5, x.ch, c5, a6, x.us, c6⟩, rfl, rfl, ⟨I3.out.1.kept I3.out.2 hk, J3.out.1.kept J3.out.2 hk, LM.out.1, LM.out.2, LM6.out.1, LM6.out.2⟩, ⟨I3.out.2.kept hk, J3.out.2.kept hk⟩, below_set7 H3.out.low (Nat.le_succ _) x0 x1 x2 x3 x4 x5 x6⟩
  clear hw3 hi3 hj3 H2 H6 I2 I6 J6 b6 b6' f6 hl2 hl6
  go_wp2_with fail
  exact bodyPost_ret (v := .agg #[.int .i64 x.id, .int .i64 x.c, .int .i64 x.d, .int .i64 x.t, .int .i64 x.p, .slice a5 x.ch.length c5, .slice a6 x.us.length c6]) (by simp [results, Try.results71, go_sem, r0, r1, r2, r3, r4, r5, r6]) rfl (HFIN.out _ _ _ _ _ _ _)
end Go.Proofs.Ytlglncnhhgofoaa

/-
  The walks over the order of tasks, and over a short row that is sorted.
-/
namespace Go.Proofs.Ytlglncnhhgofoaa
open Go.RowKit Go.Maps Go.Shelf

instance tvInh : Inhabited TV := ⟨⟨0, 0, 0, 0, 0, none, [], 0, none, [], 0⟩⟩
def cmpP (x y : TV) : Int := cmpI x.p y.p
theorem ltP (x y : TV) : ltOf cmpP x y = decide (x.p < y.p) := by
  unfold ltOf cmpP cmpI
  by_cases h : x.p < y.p
  · rw [if_pos h]; simp [h]
  · rw [if_neg h]
    by_cases h2 : y.p < x.p
    · rw [if_pos h2]; simp [h]
    · rw [if_neg h2]; simp [h]
theorem swoP : Sort.SWO (ltOf cmpP) :=
  ⟨fun x => by rw [ltP]; simp, fun x y z h1 h2 => by rw [ltP, decide_eq_true_eq] at *; omega, fun x y z h1 h2 => by rw [ltP, decide_eq_false_iff_not] at *; omega⟩

theorem cells_one (x : TV) : ∀ v ∈ x.cells, v.oneCell' = true := by
  intro u h
  simp [TV.cells] at h
  rcases h with rfl | rfl | rfl | rfl | rfl | rfl | rfl <;> rfl
theorem flat_get (l : List TV) (t : Nat) (ht : t < l.length * 7) : (flat l)[t]? = some (l[t / 7]!.cells[t % 7]!) := by
  have h7 : t / 7 < l.length := by omega
  have h := flat_at l (t / 7) l[t / 7]! (by simp [h7]) (t % 7) (by omega)
  rw [show t / 7 * 7 + t % 7 = t by omega] at h
  rw [h]
  have this : t % 7 < (l[t / 7]!).cells.length := by rw [cells_len]; omega
  rw [getElem!_pos (l[t / 7]!).cells (t % 7) this, List.getElem?_eq_getElem this]
theorem flatK_flat (d : Array TV) (t : Nat) (ht : t < d.size * 7) : (flat d.toList)[t]? = some ((Sort.flatK TV.cells 7 d)[t]!) := by
  rw [flat_get d.toList t (by simpa using ht), Sort.get_flatK TV.cells 7 d t ht]
  congr 3
  have h7 : t / 7 < d.size := by omega
  simp [h7]
theorem holds_of {w : World} {B blk cap : Nat} {d : Array TV} (h : OwnT w B (.slice (some ⟨blk, 0, none⟩) d.size cap) d.toList) : Sort.HoldsK TV.cells 7 w blk 0 d := by
  obtain ⟨a, c, e, hv, _, _⟩ := h.slice
  cases e
  rcases h with ⟨h0, q | ⟨g, cap', cur, e, hb, h3, h1, h2, h4, h5⟩⟩
  · cases q.1
  · cases e
    intro j hj
    rw [Sort.size_flatK] at hj
    have hf := flatK_flat d j hj
    have h5' := h5
    rw [← h5', List.getElem?_take, if_pos (by simpa using hj)] at hf
    rw [Nat.zero_add]
    exact ⟨by rw [blk_cell h3]; simpa using hf, blk_free h3 j⟩
theorem sorted_own {w : World} {B blk cap : Nat} {d d' : Array TV} (h : OwnT w B (.slice (some ⟨blk, 0, none⟩) d.size cap) d.toList) (hs : d'.size = d.size) (n : Nat) (os : Array Obj) :
    OwnT (sortWorldK TV.cells 7 w blk 0 n d' os) B (.slice (some ⟨blk, 0, none⟩) d.size cap) d'.toList ∧ KeepI w (sortWorldK TV.cells 7 w blk 0 n d' os) ∧ Below B w (sortWorldK TV.cells 7 w blk 0 n d' os) ∧ blk < w.heap.size := by
  rcases h with ⟨h0, q | ⟨g, cap', cur, e, hb, h3, h1, h2, h4, h5⟩⟩
  · cases q.1
  · cases e
    have hbl := lt_of_block h3
    have hh : ∀ k, k < w.heap.size → (sortWorldK TV.cells 7 w blk 0 n d' os).heap[k]? = (w.heap.modify blk (Sort.onCells (Sort.putCells id 0 (Sort.flatK TV.cells 7 d'))))[k]? := by
      intro k hk
      show (w.heap.modify blk _ ++ os)[k]? = _
      rw [Array.getElem?_append_left (by simpa using hk)]
    have hfar : ∀ k, k < w.heap.size → k ≠ blk → (sortWorldK TV.cells 7 w blk 0 n d' os).heap[k]? = w.heap[k]? := by
      intro k hk hne
      rw [hh k hk, Array.getElem?_modify, if_neg (Ne.symm hne)]
    refine ⟨⟨by rw [flat_len], .inr ⟨blk, cap, Sort.putCells id 0 (Sort.flatK TV.cells 7 d') cur, by simp [hs], hb, ?_, by simpa [hs] using h1, h2, by simp [Sort.putCells, h4], ?_⟩⟩, ?_, ⟨rfl, rfl, rfl, by show w.heap.size ≤ (w.heap.modify blk _ ++ os).size; simp, ?_⟩, hbl⟩
    · rw [hh blk hbl, Array.getElem?_modify, if_pos rfl, h3]; rfl
    · apply List.ext_getElem?
      intro t
      simp only [Array.length_toList] at h1
      by_cases ht : t < d'.size * 7
      · rw [List.getElem?_take, if_pos (by simpa using ht), flatK_flat d' t ht]
        have htc : t < cur.size := by rw [h4]; have := Nat.mul_le_mul_right 7 h1; omega
        simp [Sort.putCells, htc, ht]
      · rw [List.getElem?_take, if_neg (by simpa using ht), List.getElem?_eq_none (by rw [flat_len]; simpa using ht)]
    · intro k cs T fr hc hT
      refine hfar k (lt_of_block hc) ?_
      rintro rfl
      rw [h3] at hc
      simp at hc
      rcases hT with q | q <;> rw [q] at hc <;> exact absurd hc.2.1 (by decide)
    · intro k hk
      exact hfar k (by omega) (by omega)

/-- A row that was sorted. -/
def SortBack (B blk cap : Nat) (d : Array TV) (w : World) (e : Ending) (w' : World) : Prop :=
  e = .returned (.tuple #[]) ∧ ∃ M : List TV, M.Perm d.toList ∧ M.Pairwise (fun x y => x.p ≤ y.p) ∧ OwnT w' B (.slice (some ⟨blk, 0, none⟩) d.size cap) M ∧ KeepI w w' ∧ Below B w w'
theorem sort_done {w : World} {B blk cap : Nat} {d : Array TV} (h : OwnT w B (.slice (some ⟨blk, 0, none⟩) d.size cap) d.toList) (n : Nat) (os : Array Obj) :
    SortBack B blk cap d w (.returned (.tuple #[])) (sortWorldK TV.cells 7 w blk 0 n (Sort.insertionSort (ltOf cmpP) d 0 d.size) os) := by
  obtain ⟨hp, hso⟩ := Sort.insertionSort_holds (lt := ltOf cmpP) swoP d 0 d.size (Nat.zero_le _) (Nat.le_refl _)
  generalize Sort.insertionSort (ltOf cmpP) d 0 d.size = d' at hp hso ⊢
  obtain ⟨o, k, b, _⟩ := sorted_own h hp.1 n os
  refine ⟨rfl, d'.toList, ?_, ?_, o, k, b⟩
  · have := hp.2.2
    have e1 : d.extract 0 d.size = d := by simp
    have e2 : d'.extract 0 d.size = d' := by rw [← hp.1]; simp
    rwa [e1, e2] at this
  · rw [List.pairwise_iff_getElem]
    intro i j hi hj hij
    simp only [Array.length_toList] at hi hj
    have := hso i j (Nat.zero_le _) hij (by rw [← hp.1]; exact hj)
    rw [ltP, decide_eq_false_iff_not] at this
    simp only [Array.getElem_toList]
    rw [getElem!_pos d' i (by simpa using hi), getElem!_pos d' j (by simpa using hj)] at this
    omega
end Go.Proofs.Ytlglncnhhgofoaa

/-
  The walks over rows of tasks sorted by priority.
-/
namespace Go.Proofs.Ytlglncnhhgofoaa
open Go.RowKit Go.Maps Go.Shelf


end Go.Proofs.Ytlglncnhhgofoaa

/-
  The walk over a system's tasks by priority.
-/
namespace Go.Proofs.Ytlglncnhhgofoaa
open Go.RowKit Go.Maps Go.Shelf

/-- All tasks, the higher ones first. -/
def Ranks (L M : List Tk) : Prop := M.Perm L ∧ M.Pairwise (fun x y => x.p ≤ y.p)
/-- A row of tasks of one's own, by priority, that comes back. -/
def PrioBack (L : List TV) (w : World) (e : Ending) (w' : World) : Prop :=
  ∃ (a : Option Addr) (n c : Nat) (M : List TV), e = .returned (.slice a n c) ∧ OwnT w' w.heap.size (.slice a n c) M ∧ AllOk w' M ∧ (∀ x ∈ M, IsI w' x.a1 x.ch ∧ IsI w' x.a2 x.us) ∧ Ranks (L.map TV.tk) (M.map TV.tk) ∧ Below w.heap.size w w'

theorem make_tasks (c : Nat) (hc : c ≤ 1000000) (w : World) : (Instr.makeSlice 25 (.int .i64 0) (.int .i64 (c : Int))).run Try.prog w = .ok (.slice (some ⟨w.heap.size, 0, none⟩) 0 c) (w.alloc (.cells (madeCells #[.int .i64 0, .int .i64 0, .int .i64 0, .int .i64 0, .int .i64 0, .slice none 0 0, .slice none 0 0] (c * 7)) TT)) := by
  obtain ⟨i0, hi, hz0, hz1, hz2⟩ := infoParts
  have h := run_make w 25 TT i0 _ Try.underlying25 hi hz0 .i64 .i64 0 c (by omega) (by omega) (by rw [hz2]; omega) (by omega)
  rw [hz1] at h
  simpa [Value.cells] using h
theorem keepI_grown {w w3 : World} {B : Nat} {v : Value} {l : List TV} (h : OwnT w B v l) (hg : w.grownBy w3 v.ownBlock) : KeepI w w3 := by
  intro b cs T fr hc hT
  refine hg.block b (lt_of_block hc) ?_
  intro z
  rcases h with ⟨_, q | ⟨k', cap', cur', e', hB', h3', _⟩⟩
  · rw [q.1] at z; cases z
  · rw [e'] at z
    simp [Value.ownBlock] at z
    subst z
    rw [hc] at h3'
    simp at h3'
    rcases hT with q | q <;> rw [q] at h3' <;> exact absurd h3'.2.1 (by decide)
def IsAll (w : World) (L : List TV) : Prop := ∀ x ∈ L, IsI w x.a1 x.ch ∧ IsI w x.a2 x.us
theorem IsAll.below {w w' : World} {L : List TV} (h : IsAll w L) (hb : Below w.heap.size w w') : IsAll w' L := fun x hx => ⟨(h x hx).1.below hb, (h x hx).2.below hb⟩
theorem IsAll.kept {w w' : World} {L : List TV} (h : IsAll w L) (hk : KeepI w w') : IsAll w' L := fun x hx => ⟨(h x hx).1.kept hk, (h x hx).2.kept hk⟩
theorem AllOk.kept {w w' : World} {L : List TV} (h : AllOk w L) (hi : IsAll w L) (hk : KeepI w w') : AllOk w' L := fun x hx => (h x hx).kept (hi x hx) hk

theorem OwnT.some_at {w : World} {B n c : Nat} {a : Option Addr} {l : List TV} (h : OwnT w B (.slice a n c) l) (hp : 0 < l.length) : ∃ go, a = some ⟨go, 0, none⟩ ∧ B ≤ go ∧ ∃ cs, w.heap[go]? = some (.cells cs TT (0, 0)) := by
  rcases h with ⟨h0, h | ⟨g, cap, cur, e, hb, h3, h1, h2, h4, h5⟩⟩
  · omega
  · cases e; exact ⟨g, rfl, hb, cur, h3⟩
/-- A system in a box, and a row of one's own. -/
structure PrioAt (w : World) (s r : Int) (a : Option Addr) (n cap : Nat) (v : Value) (R : List TV) (W : World) : Prop where
  low : Below w.heap.size w W
  box : W.heap[w.heap.size]? = some (.cells #[.int .i64 s, .int .i64 r, .slice a n cap] 27 (0, 0))
  own : OwnT W (w.heap.size + 1) v R
  ok : AllOk W R
  ints : IsAll W R
theorem PrioAt.below {w W W' : World} {s r : Int} {a : Option Addr} {n cap : Nat} {v : Value} {R : List TV} (h : PrioAt w s r a n cap v R W) (hb : Below W.heap.size W W') : PrioAt w s r a n cap v R W' :=
  ⟨below_up h.low hb, kept_obj hb h.box, h.own.below hb, h.ok.below hb, h.ints.below hb⟩
theorem prioAt_new {w : World} {s r : Int} {a : Option Addr} {n cap c : Nat} (hc : c ≤ 1000000) : PrioAt w s r a n cap (.slice (some ⟨w.heap.size + 1, 0, none⟩) 0 c) [] ((w.alloc (.cells #[.int .i64 s, .int .i64 r, .slice a n cap] 27)).alloc (.cells (madeCells #[.int .i64 0, .int .i64 0, .int .i64 0, .int .i64 0, .int .i64 0, .slice none 0 0, .slice none 0 0] (c * 7)) TT)) := by
  refine ⟨(by repeat (first | exact Below.refl _ _ | (with_reducible assumption) | refine bw_alloc ?_ _ | refine bw_drew ?_)), ?_, ?_, (fun x hx => by cases hx), (fun x hx => by cases hx)⟩
  · rw [Below.heap_alloc _ _ _ (by simp)]; exact heap_alloc_new w _
  · have := World.ownsRow_made (e := TT) (size := 7) (base := w.heap.size + 1) (w := w.alloc (.cells #[.int .i64 s, .int .i64 r, .slice a n cap] 27)) (madeCells #[.int .i64 0, .int .i64 0, .int .i64 0, .int .i64 0, .int .i64 0, .slice none 0 0, .slice none 0 0] (c * 7)) c (by simp) (by unfold maxLen; omega) (by rw [size_madeCells])
    rwa [World.size_alloc] at this
theorem PrioAt.push {w W w3 : World} {s r : Int} {a : Option Addr} {n cap : Nat} {v v' : Value} {R : List TV} {y : TV} (h : PrioAt w s r a n cap v R W) (hg : W.grownBy w3 v.ownBlock) (ho : OwnT w3 (w.heap.size + 1) v' (R ++ [y])) (hy : y.ok W) (hi : IsI W y.a1 y.ch ∧ IsI W y.a2 y.us) : PrioAt w s r a n cap v' (R ++ [y]) w3 := by
  have hs : w.heap.size + 1 ≤ W.heap.size := lt_of_block h.box
  have hb : Below (w.heap.size + 1) W w3 := (Below.refl _ W).grown hg hs (fun k hk => (h.own.new hk).1)
  have hk := keepI_grown h.own hg
  exact ⟨h.low.trans (hb.mono (by omega)), kept_objB hb (by omega) h.box, ho, (h.ok.kept h.ints hk).append (AllOk.one (hy.kept hi hk)), fun x hx => by
    rcases List.mem_append.1 hx with q | q
    · exact h.ints.kept hk x q
    · simp at q; subst q; exact ⟨hi.1.kept hk, hi.2.kept hk⟩⟩
theorem PrioAt.done {w W w' : World} {s r : Int} {a a' : Option Addr} {n cap cp' : Nat} {R M L : List TV} (h : PrioAt w s r a n cap (.slice a' n cp') R W) (hR : R.map TV.tk = L.map TV.tk) (hp : M.Perm R) (hs : M.Pairwise (fun x y => x.p ≤ y.p)) (ho : OwnT w' (w.heap.size + 1) (.slice a' n cp') M) (hk : KeepI W w') (hb : Below (w.heap.size + 1) W w') :
    PrioBack L w (.returned (.slice a' n cp')) w' := by
  have hin : ∀ x ∈ M, x ∈ R := fun x hx => hp.mem_iff.1 hx
  refine ⟨a', n, cp', M, rfl, ho.low (by omega), fun x hx => h.ok.kept h.ints hk x (hin x hx), fun x hx => h.ints.kept hk x (hin x hx), ⟨?_, ?_⟩, h.low.trans (hb.mono (by omega))⟩
  · rw [← hR]; exact hp.map _
  · rw [List.pairwise_map]; exact hs

end Go.Proofs.Ytlglncnhhgofoaa
