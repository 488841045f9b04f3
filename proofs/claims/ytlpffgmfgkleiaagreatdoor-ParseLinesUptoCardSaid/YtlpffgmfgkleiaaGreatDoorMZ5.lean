/- Texts of this claim, put together: YRef3, YRst, YRef4, ZReads, LW5, LW6, YText, YPrint, LW7, LDig, LJoin, YStr, YWds, YLine, YPrg, YAwk. -/
import Derived.Test.YtlpffgmfgkleiaaGreatDoorMZ4
import Derived.Laws.StructEq
import Derived.Lib.ItoaNum
import Derived.Lib.AppendIntMem
import Derived.Lib.OthersKept
set_option linter.unusedVariables false
set_option linter.unusedSimpArgs false

/-
  The walk over the document's own number behind a name.
-/
namespace Go.Proofs.YtlpffgmfgkleiaaGreatDoor
open Go.RowKit Go.Maps

abbrev NumT : TypeId := 99
def RNumIs (o : Option Nat) (w : World) (y : Ending) (w' : World) : Prop := y = .returned (.agg #[.int .i64 ((o.getD 0 : Nat) : Int), .bool o.isSome]) ∧ Below w.heap.size w w'
set_option maxRecDepth 100000 in
set_option maxHeartbeats 4000000 in
theorem rnum_any {w : World} {a : Option Addr} {n cap i : Nat} {W : List WV} (h : Words w a n cap W) (hi : i ≤ 1000) (hW : ∀ x ∈ W, (x.tx.size : Int) ≤ 9223372036854775807) (name : ByteArray) (most : Int) : Calls Tryz.prog 50 #[.slice a n cap, .int .i64 i, .string name, .int .i64 most] w (RNumIs (numAt W i name most) w) := by
  have hz := zeroNumb
  have hz2 := zeroTwo
  have CV : Hid (∀ v, Below w.heap.size w v → Calls Tryz.prog 51 #[.slice a n cap, .int .i64 i, .string name] v (ValIs (valAt W i name) name v)) := fun v hb => rvalue_any (h.below hb) hi hW name
  have HS : Hid (∀ z, valAt W i name = some z → (z.size : Int) ≤ 9223372036854775807) := fun z hz => by
    unfold valAt at hz
    obtain ⟨s, h1, h2⟩ := Option.bind_eq_some_iff.1 hz
    have h3 := namedV_size h2
    unfold wordAt at h1
    obtain ⟨x, hx, rfl⟩ := Option.map_eq_some_iff.1 h1
    have := hW x (List.mem_of_getElem? hx)
    omega
  have HNA : Hid (numAt W i name most = (valAt W i name).bind fun v => numOf v most) := rfl
  unfold RNumIs
  clear h
  unfold ValIs at CV
  go_enter Tryz.func50, Tryz.ntmps50
  go_upto_region 1 with fail
  refine gen_world (fun v => Below w.heap.size w v ∧ v.heap[w.heap.size]? = some (.cells #[.int .i64 0, .bool false] NumT (0, 0))) ⟨bw_alloc (Below.refl _ _) _, heap_alloc_new w _⟩ ?_
  intro u0 ⟨hb0, hx0⟩
  have B0 := Lib.hid hb0
  have X0 := Lib.hid hx0
  clear hb0 hx0
  cases ho : valAt W i name with
  | none =>
    rw [ho] at CV HNA
    have CV2 : Hid (∀ v, Below w.heap.size w v → Calls Tryz.prog 51 #[.slice a n cap, .int .i64 i, .string name] v fun y w' => y = .returned (.agg #[.string ⟨#[]⟩, .string ⟨#[]⟩, .bool false]) ∧ Below v.heap.size v w') := CV
    have HQ : Hid (numAt W i name most = none) := HNA.out
    clear ho HNA HS
    go_upto_region 2 with (go_at_call 51; (with_reducible refine (CV2.out _ B0.out).mono ?_); rintro y u1 ⟨rfl, b1⟩; have B1 := Lib.hid (below_up B0.out b1); have X1 := Lib.hid (kept_obj b1 X0.out); clear b1)
    refine gen_world (fun v => Below w.heap.size w v ∧ v.heap[w.heap.size]? = some (.cells #[.int .i64 0, .bool false] NumT (0, 0)) ∧ v.heap[u1.heap.size]? = some (.cells #[.string ⟨#[]⟩, .string ⟨#[]⟩, .bool false] TwoT (0, 0))) ⟨below_up B1.out (bw_alloc (Below.refl _ _) _), kept_obj (bw_alloc (Below.refl _ _) _) X1.out, heap_alloc_new u1 _⟩ ?_
    intro u2 ⟨hb2, hx2, hx3⟩
    have B2 := Lib.hid hb2
    generalize u1.heap.size = k at hx3 ⊢
    have ar0 : u2.cell? ⟨w.heap.size, 0, none⟩ = some (.int .i64 0) := blk_cell hx2 0
    have ar1 : u2.cell? ⟨w.heap.size, 1, none⟩ = some (.bool false) := blk_cell hx2 1
    have af0 := blk_free hx2 0
    have af1 := blk_free hx2 1
    have ahr := lt_of_block hx2
    have br0 : u2.cell? ⟨k, 0, none⟩ = some (.string ⟨#[]⟩) := blk_cell hx3 0
    have br1 : u2.cell? ⟨k, 1, none⟩ = some (.string ⟨#[]⟩) := blk_cell hx3 1
    have br2 : u2.cell? ⟨k, 2, none⟩ = some (.bool false) := blk_cell hx3 2
    have bf0 := blk_free hx3 0
    have bf1 := blk_free hx3 1
    have bf2 := blk_free hx3 2
    have bhr := lt_of_block hx3
    clear hb2 hx2 hx3 B0 X0 B1 X1 CV CV2
    go_wp2_with fail
    exact bodyPost_ret (v := .agg #[.int .i64 0, .bool false]) (by simp [results, Tryz.results50, go_sem, ahr, ar0, ar1]) rfl ⟨by rw [HQ.out]; rfl, (by repeat (first | with_reducible exact B2.out | refine Below.setCell ?_ (by simp) _))⟩
  | some z =>
    rw [ho] at CV HNA
    have CV2 : Hid (∀ v, Below w.heap.size w v → Calls Tryz.prog 51 #[.slice a n cap, .int .i64 i, .string name] v fun y w' => y = .returned (.agg #[.string name, .string z, .bool true]) ∧ Below v.heap.size v w') := CV
    have HQ : Hid (numAt W i name most = numOf z most) := HNA.out
    have CN : Hid (∀ v, Calls Tryz.prog 49 #[.string z, .int .i64 most] v (NumB (numOf z most) v)) := fun v => rnumber_any z (HS.out z ho) most v
    clear ho HNA HS
    unfold NumB at CN
    go_upto_region 2 with (go_at_call 51; (with_reducible refine (CV2.out _ B0.out).mono ?_); rintro y u1 ⟨rfl, b1⟩; have B1 := Lib.hid (below_up B0.out b1); have X1 := Lib.hid (kept_obj b1 X0.out); clear b1)
    refine gen_world (fun v => Below w.heap.size w v ∧ v.heap[w.heap.size]? = some (.cells #[.int .i64 0, .bool false] NumT (0, 0)) ∧ v.heap[u1.heap.size]? = some (.cells #[.string name, .string z, .bool true] TwoT (0, 0))) ⟨below_up B1.out (bw_alloc (Below.refl _ _) _), kept_obj (bw_alloc (Below.refl _ _) _) X1.out, heap_alloc_new u1 _⟩ ?_
    intro u2 ⟨hb2, hx2, hx3⟩
    have B2 := Lib.hid hb2
    have X2 := Lib.hid hx2
    generalize u1.heap.size = k at hx3 ⊢
    have br0 : u2.cell? ⟨k, 0, none⟩ = some (.string name) := blk_cell hx3 0
    have br1 : u2.cell? ⟨k, 1, none⟩ = some (.string z) := blk_cell hx3 1
    have br2 : u2.cell? ⟨k, 2, none⟩ = some (.bool true) := blk_cell hx3 2
    have bf0 := blk_free hx3 0
    have bf1 := blk_free hx3 1
    have bf2 := blk_free hx3 2
    have bhr := lt_of_block hx3
    clear hb2 hx2 hx3 B0 X0 B1 X1 CV CV2
    go_wp2_with (go_at_call 49; (with_reducible refine (CN.out _).mono ?_); rintro y u3 ⟨rfl, b3⟩; have B3 := Lib.hid (below_up B2.out b3); have hx4 := kept_obj b3 X2.out; have ar0 : u3.cell? ⟨w.heap.size, 0, none⟩ = some (.int .i64 0) := blk_cell hx4 0; have ar1 : u3.cell? ⟨w.heap.size, 1, none⟩ = some (.bool false) := blk_cell hx4 1; have af0 := blk_free hx4 0; have af1 := blk_free hx4 1; have ahr := lt_of_block hx4; clear b3 hx4)
    exact bodyPost_ret (v := .agg #[.int .i64 (((numOf z most).getD 0 : Nat) : Int), .bool (numOf z most).isSome]) (by simp [results, Tryz.results50, go_sem, ahr, ar0, ar1]) rfl ⟨by rw [HQ.out], (by repeat (first | with_reducible exact B3.out | refine Below.setCell ?_ (by simp) _))⟩
end Go.Proofs.YtlpffgmfgkleiaaGreatDoor

/-
  The task that the document reads out of a row: what lies in memory.
-/
namespace Go.Proofs.YtlpffgmfgkleiaaGreatDoor
open Go.RowKit Go.Maps

theorem OwnI.keep {w w' : World} {e : TypeId} {B : Nat} {v : Value} {l : List Int} (h : OwnI w e B v l) (hk : ∀ (b : Nat) (cs : Array Value), w.heap[b]? = some (.cells cs e (0, 0)) → w'.heap[b]? = w.heap[b]?) : OwnI w' e B v l := by
  rcases h with ⟨h0, h | ⟨g, cap, cur, rfl, hB, h3, r⟩⟩
  · exact ⟨h0, .inl h⟩
  · exact ⟨h0, .inr ⟨g, cap, cur, rfl, hB, (hk g cur h3).trans h3, r⟩⟩
theorem OwnI.blk {w : World} {e : TypeId} {B : Nat} {v : Value} {l : List Int} (h : OwnI w e B v l) {k : Nat} (hk : v.ownBlock = some k) : ∃ cs, w.heap[k]? = some (.cells cs e (0, 0)) := by
  rcases h.2 with ⟨rfl, h0⟩ | ⟨g, cap, cur, rfl, _, h3, _⟩
  · simp [Value.ownBlock] at hk
  · simp [Value.ownBlock] at hk; subst hk; exact ⟨cur, h3⟩
theorem OwnI.fresh {w : World} {e : TypeId} {B n c : Nat} {a : Option Addr} {l : List Int} (h : OwnI w e B (.slice a n c) l) : FreshI B a l := .inr fun g o q => by subst q; exact (h.new rfl).1
theorem OwnI.ints {w : World} {e : TypeId} {B n c : Nat} {a : Option Addr} {l : List Int} (h : OwnI w e B (.slice a n c) l) : Ints w a l ∧ l.length = n ∧ n ≤ c ∧ (c : Int) ≤ 9223372036854775807 := by
  obtain ⟨a', c', e', hi, hl, hm⟩ := h.slice
  cases e'
  exact ⟨hi, rfl, hl, hm⟩
abbrev GotT' : TypeId := 62
/-- A task that is being read: its box, its rows; a row of numbers that was read. -/
structure RSt (w : World) (k4 : Nat) (x1 x2 x3 x4 x5 : Int) (v1 : Value) (ch : List Int) (v2 : Value) (us : List Int) (v3 : Value) (q : List Int) (W : World) : Prop where
  low : Below w.heap.size w W
  gl : w.heap.size < k4
  res : Box W w.heap.size GotT #[.int .i64 0, .int .i64 0, .int .i64 0, .int .i64 0, .int .i64 0, .slice none 0 0, .slice none 0 0, .int .i64 0, .int .i64 0]
  box : Box W k4 TT #[.int .i64 x1, .int .i64 x2, .int .i64 x3, .int .i64 x4, .int .i64 x5, v1, v2]
  own1 : OwnI W 2 w.heap.size v1 ch
  own2 : OwnI W 3 (k4 + 1) v2 us
  own3 : OwnI W 2 w.heap.size v3 q
theorem RSt.below {w W W' : World} {k4 : Nat} {x1 x2 x3 x4 x5 : Int} {v1 v2 v3 : Value} {ch us q : List Int} (h : RSt w k4 x1 x2 x3 x4 x5 v1 ch v2 us v3 q W) (hb : Below W.heap.size W W') : RSt w k4 x1 x2 x3 x4 x5 v1 ch v2 us v3 q W' :=
  ⟨below_up h.low hb, h.gl, kept_obj hb h.res, kept_obj hb h.box, h.own1.below hb, h.own2.below hb, h.own3.below hb⟩
theorem typ_ne {w : World} {b k : Nat} {cs cs' : Array Value} {T T' : TypeId} (h : w.heap[b]? = some (.cells cs T (0, 0))) (h' : w.heap[k]? = some (.cells cs' T' (0, 0))) (hne : T ≠ T') : b ≠ k := by
  rintro rfl
  rw [h] at h'
  simp at h'
  exact hne h'.2
/-- Chunks are laid down. -/
theorem RSt.chunks {w W : World} {k4 : Nat} {x1 x2 x3 x4 x5 : Int} {v1 v2 v3 : Value} {ch us q : List Int} (h : RSt w k4 x1 x2 x3 x4 x5 v1 ch v2 us v3 q W) : RSt w k4 x1 x2 x3 x4 x5 v3 q v2 us v3 q (W.setCell ⟨k4, 5, none⟩ v3) := by
  have hk : ∀ (T : TypeId), T ≠ TT → ∀ (b : Nat) (cs : Array Value), W.heap[b]? = some (.cells cs T (0, 0)) → (W.setCell ⟨k4, 5, none⟩ v3).heap[b]? = W.heap[b]? := fun T hT b cs hb => blk_far (a := ⟨k4, 5, none⟩) (typ_ne hb h.box hT) _
  exact ⟨h.low.setCell (p := ⟨k4, 5, none⟩) (by show _ ≤ k4; have := h.gl; omega) _, h.gl, (hk _ (by decide) _ _ h.res).trans h.res, (blk_set h.box _).trans rfl, h.own3.keep (hk _ (by decide)), h.own2.keep (hk _ (by decide)), h.own3.keep (hk _ (by decide))⟩
/-- One more used set. -/
theorem RSt.push {w W w3 : World} {k4 : Nat} {x1 x2 x3 x4 x5 : Int} {v1 v2 v2' v3 : Value} {ch us us' q : List Int} (h : RSt w k4 x1 x2 x3 x4 x5 v1 ch v2 us v3 q W) (hg : W.grownBy w3 v2.ownBlock) (ho : OwnI w3 3 (k4 + 1) v2' us') :
    RSt w k4 x1 x2 x3 x4 x5 v1 ch v2' us' v3 q (w3.setCell ⟨k4, 6, none⟩ v2') ∧ w3.cell? ⟨k4, 6, none⟩ = some v2 ∧ w3.frozen? ⟨k4, 6, none⟩ = false := by
  have hs : k4 + 1 ≤ W.heap.size := lt_of_block h.box
  have hgl := h.gl
  have hb : Below (k4 + 1) W w3 := (Below.refl _ W).grown hg hs (fun k hk => (h.own2.new hk).1)
  have h3 := kept_objB hb (by omega) h.box
  have hr3 := kept_objB hb (by omega) h.res
  have hk3 : ∀ (T : TypeId), T ≠ 3 → T ≠ TT → ∀ (b : Nat) (cs : Array Value), W.heap[b]? = some (.cells cs T (0, 0)) → (w3.setCell ⟨k4, 6, none⟩ v2').heap[b]? = W.heap[b]? := fun T h1 h2 b cs hb => by
    rw [blk_far (a := ⟨k4, 6, none⟩) (typ_ne hb h.box h2)]
    refine hg.block b (lt_of_block hb) ?_
    intro z
    obtain ⟨c2, q2⟩ := h.own2.blk z.symm
    exact typ_ne hb q2 h1 rfl
  have ho2 : OwnI (w3.setCell ⟨k4, 6, none⟩ v2') 3 (k4 + 1) v2' us' := ho.keep fun b cs hb => blk_far (a := ⟨k4, 6, none⟩) (typ_ne hb h3 (by decide)) _
  exact ⟨⟨(h.low.trans (hb.mono (by omega))).setCell (p := ⟨k4, 6, none⟩) (by show _ ≤ k4; omega) _, h.gl, (hk3 _ (by decide) (by decide) _ _ h.res).trans h.res, (blk_set h3 _).trans rfl, h.own1.keep (hk3 _ (by decide) (by decide)), ho2, h.own3.keep (hk3 _ (by decide) (by decide))⟩, (blk_cell h3 6).trans rfl, blk_free h3 6⟩
/-- What the document reads out of a row. -/
def RLineIs (W : List WV) (w : World) (y : Ending) (w' : World) : Prop := match lineOf W with
  | .error p => WrongIs p w y w'
  | .ok t => ∃ x : TV, y = .returned (.agg #[.int .i64 x.id, .int .i64 x.c, .int .i64 x.d, .int .i64 x.t, .int .i64 x.p, .slice x.a1 x.ch.length x.c1, .slice x.a2 x.us.length x.c2, .int .i64 (endAt W W.length), .int .i64 0]) ∧ x.tk = t ∧ x.ok w' ∧ (IsI w' x.a1 x.ch ∧ FreshI w.heap.size x.a1 x.ch) ∧ (IsI w' x.a2 x.us ∧ FreshI w.heap.size x.a2 x.us) ∧ Below w.heap.size w w'
/-- A row of numbers that was read. -/
theorem RSt.src {w W W' : World} {k4 B : Nat} {x1 x2 x3 x4 x5 : Int} {v1 v2 v3 v3' : Value} {ch us q q' : List Int} (h : RSt w k4 x1 x2 x3 x4 x5 v1 ch v2 us v3 q W) (hb : Below W.heap.size W W') (ho : OwnI W' 2 B v3' q') (hB : w.heap.size ≤ B) : RSt w k4 x1 x2 x3 x4 x5 v1 ch v2 us v3' q' W' := by
  have h2 := h.below hb
  exact ⟨h2.low, h2.gl, h2.res, h2.box, h2.own1, h2.own2, ho.low hB⟩
theorem numso_none {w w' : World} {e : Ending} (h : NumsO none w e w') : e = .returned (.tuple #[.slice none 0 0, .bool false]) ∧ Below w.heap.size w w' := by
  obtain ⟨b1, ⟨-, rfl⟩ | ⟨l, a, c, hl, -⟩⟩ := h
  · exact ⟨rfl, b1⟩
  · cases hl
theorem numso_some {l : List Int} {n : Nat} (hn : l.length = n) {w w' : World} {e : Ending} (h : NumsO (some l) w e w') : ∃ a c, e = .returned (.tuple #[.slice a n c, .bool true]) ∧ OwnI w' 2 w.heap.size (.slice a n c) l ∧ Below w.heap.size w w' := by
  obtain ⟨b1, ⟨h0, -⟩ | ⟨l, a, c, hl, rfl, hi, -⟩⟩ := h
  · cases h0
  · cases hl
    subst hn
    exact ⟨a, c, rfl, hi, b1⟩
theorem farR {w : World} {k b o : Nat} (h : k ≠ b) (v : Value) : (w.setCell ⟨b, o, none⟩ v).heap[k]? = w.heap[k]? := blk_far (a := ⟨b, o, none⟩) h v
theorem RSt.done {w W W' : World} {WW : List WV} {k4 : Nat} {x1 x2 x3 x4 x5 : Int} {a1 a2 : Option Addr} {n1 c1 n2 c2 : Nat} {v3 : Value} {ch us q : List Int} (h : RSt w k4 x1 x2 x3 x4 x5 (.slice a1 n1 c1) ch (.slice a2 n2 c2) us v3 q W) (hl : lineOf WW = .ok ⟨x1, x2, x3, x4, x5, ch, us⟩) (hb : ∀ k, w.heap.size ≤ k → k ≠ w.heap.size → k < W.heap.size → W'.heap[k]? = W.heap[k]?) (hw : Below w.heap.size w W') :
    RLineIs WW w (.returned (.agg #[.int .i64 x1, .int .i64 x2, .int .i64 x3, .int .i64 x4, .int .i64 x5, .slice a1 n1 c1, .slice a2 n2 c2, .int .i64 (endAt WW WW.length), .int .i64 0])) W' := by
  have hk : ∀ (e : TypeId), e ≠ GotT → ∀ (v : Value) (l : List Int) (B : Nat), w.heap.size ≤ B → OwnI W e B v l → OwnI W' e B v l := fun e he v l B hB ho => by
    rcases ho with ⟨h0, q | ⟨g, cap, cur, rfl, hB', h3, r⟩⟩
    · exact ⟨h0, .inl q⟩
    · exact ⟨h0, .inr ⟨g, cap, cur, rfl, hB', (hb g (by omega) (fun z => typ_ne h3 h.res he z) (lt_of_block h3)).trans h3, r⟩⟩
  have o1 := hk _ (by decide) _ _ _ (Nat.le_refl _) h.own1
  have o2 := hk _ (by decide) _ _ _ (by have := h.gl; omega) h.own2
  obtain ⟨i1, e1, l1, m1⟩ := o1.ints
  obtain ⟨i2, e2, l2, m2⟩ := o2.ints
  subst e1 e2
  unfold RLineIs
  rw [hl]
  exact ⟨⟨x1, x2, x3, x4, x5, a1, ch, c1, a2, us, c2⟩, rfl, rfl, ⟨i1, i2, l1, m1, l2, m2⟩, ⟨o1.isI (.inl rfl), o1.fresh⟩, ⟨o2.isI (.inr rfl), o2.fresh.low (by have := h.gl; omega)⟩, hw⟩
theorem rline_done {w W : World} {WW : List WV} {k4 : Nat} {x1 x2 x3 x4 x5 : Int} {a1 a2 : Option Addr} {n1 c1 n2 c2 : Nat} {v3 : Value} {ch us q : List Int} (h : RSt w k4 x1 x2 x3 x4 x5 (.slice a1 n1 c1) ch (.slice a2 n2 c2) us v3 q W) (hl : lineOf WW = .ok ⟨x1, x2, x3, x4, x5, ch, us⟩) (y0 y1 y2 y3 y4 y5 y6 y7 y8 : Value) :
    RLineIs WW w (.returned (.agg #[.int .i64 x1, .int .i64 x2, .int .i64 x3, .int .i64 x4, .int .i64 x5, .slice a1 n1 c1, .slice a2 n2 c2, .int .i64 (endAt WW WW.length), .int .i64 0])) (((((((((W.setCell ⟨w.heap.size, 0, none⟩ y0).setCell ⟨w.heap.size, 1, none⟩ y1).setCell ⟨w.heap.size, 2, none⟩ y2).setCell ⟨w.heap.size, 3, none⟩ y3).setCell ⟨w.heap.size, 4, none⟩ y4).setCell ⟨w.heap.size, 5, none⟩ y5).setCell ⟨w.heap.size, 6, none⟩ y6).setCell ⟨w.heap.size, 7, none⟩ y7).setCell ⟨w.heap.size, 8, none⟩ y8) := by
  refine h.done hl (fun k _ h2 _ => ?_) ?_
  · rw [farR h2, farR h2, farR h2, farR h2, farR h2, farR h2, farR h2, farR h2, farR h2]
  · exact (((((((((h.low.setCell (p := ⟨w.heap.size, 0, none⟩) (Nat.le_refl _) _).setCell (p := ⟨w.heap.size, 1, none⟩) (Nat.le_refl _) _).setCell (p := ⟨w.heap.size, 2, none⟩) (Nat.le_refl _) _).setCell (p := ⟨w.heap.size, 3, none⟩) (Nat.le_refl _) _).setCell (p := ⟨w.heap.size, 4, none⟩) (Nat.le_refl _) _).setCell (p := ⟨w.heap.size, 5, none⟩) (Nat.le_refl _) _).setCell (p := ⟨w.heap.size, 6, none⟩) (Nat.le_refl _) _).setCell (p := ⟨w.heap.size, 7, none⟩) (Nat.le_refl _) _).setCell (p := ⟨w.heap.size, 8, none⟩) (Nat.le_refl _) _)
theorem rline_bad {W : List WV} {p : Int} {w w' : World} (h : lineOf W = .error p) (hb : Below w.heap.size w w') : RLineIs W w (.returned (.agg #[.int .i64 0, .int .i64 0, .int .i64 0, .int .i64 0, .int .i64 0, .slice none 0 0, .slice none 0 0, .int .i64 p, .int .i64 10])) w' := by
  unfold RLineIs; rw [h]; exact ⟨rfl, hb⟩
/-- Four numbers. -/
def four (f : Nat → Nat) : Array Value := #[.int .i64 (f 0), .int .i64 (f 1), .int .i64 (f 2), .int .i64 (f 3)]
def upd (f : Nat → Nat) (k n : Nat) : Nat → Nat := fun j => if j = k then n else f j
theorem four_at (f : Nat → Nat) {k : Nat} (h : k < 4) : (four f)[k]? = some (.int .i64 (f k)) := by
  match k, h with
  | 0, _ => rfl
  | 1, _ => rfl
  | 2, _ => rfl
  | 3, _ => rfl
theorem four_set (f : Nat → Nat) {k : Nat} (h : k < 4) (n : Nat) : (four f).setIfInBounds k (.int .i64 (n : Nat)) = four (upd f k n) := by
  match k, h with
  | 0, _ => rfl
  | 1, _ => rfl
  | 2, _ => rfl
  | 3, _ => rfl
theorem name_at {k : Nat} (h : k < 4) : (#[Value.string bC, .string bD, .string bT, .string bP] : Array Value)[k]? = some (.string (nameK k)) := by
  match k, h with
  | 0, _ => rfl
  | 1, _ => rfl
  | 2, _ => rfl
  | 3, _ => rfl
theorem val_apart {W : List WV} {i : Nat} {z : ByteArray} (h : valAt W i bChunks = some z) : valAt W i bUse = none := by
  unfold valAt at h ⊢
  cases hw : wordAt W i with
  | none => rfl
  | some s =>
    rw [hw] at h
    show namedV s bUse = none
    have h' : namedV s bChunks = some z := h
    unfold namedV at h' ⊢
    split at h'
    · rename_i x y he
      split at h'
      · rename_i hx
        rw [if_neg (by rw [hx]; decide)]
      · cases h'
    · cases h'
theorem w_lt {W : List WV} {i : Nat} {t : ByteArray} (h : wordAt W i = some t) : i < W.length := by
  rcases Nat.lt_or_ge i W.length with q | q
  · exact q
  · rw [wordAt_none q] at h; cases h
theorem val_lt {W : List WV} {i : Nat} {name z : ByteArray} (h : valAt W i name = some z) : i < W.length := by
  rcases Nat.lt_or_ge i W.length with q | q
  · exact q
  · unfold valAt at h; rw [wordAt_none q] at h; cases h
end Go.Proofs.YtlpffgmfgkleiaaGreatDoor

/-
  The walk over the task that the document reads out of a row.
-/
namespace Go.Proofs.YtlpffgmfgkleiaaGreatDoor
open Go.RowKit Go.Maps

theorem rnumK_any {w : World} {a : Option Addr} {n cap k : Nat} {W : List WV} (h : Words w a n cap W) (hk : k < 4) (hW : ∀ x ∈ W, (x.tx.size : Int) ≤ 9223372036854775807) {M : Int} (hM : mostK k = M) : Calls Tryz.prog 50 #[.slice a n cap, .int .i64 (2 + (k : Int)), .string (nameK k), .int .i64 M] w (RNumIs (numK W k) w) := by
  subst hM
  have e : ((2 + k : Nat) : Int) = 2 + (k : Int) := by omega
  have q := rnum_any h (show 2 + k ≤ 1000 by omega) hW (nameK k) (mostK k)
  rw [e] at q
  exact q
theorem size_set (w : World) (a : Addr) (v : Value) : (w.setCell a v).heap.size = w.heap.size := by simp [World.setCell]
theorem st2 {w u2 : World} {k1 : Nat} {v0 v1 : Value} (hk : w.heap.size < k1) (hb : Below w.heap.size w u2) (hx : Box u2 w.heap.size GotT #[.int .i64 0, .int .i64 0, .int .i64 0, .int .i64 0, .int .i64 0, .slice none 0 0, .slice none 0 0, .int .i64 0, .int .i64 0]) : Below w.heap.size w ((u2.setCell ⟨k1, 0, none⟩ v0).setCell ⟨k1, 1, none⟩ v1) ∧ Box ((u2.setCell ⟨k1, 0, none⟩ v0).setCell ⟨k1, 1, none⟩ v1) w.heap.size GotT #[.int .i64 0, .int .i64 0, .int .i64 0, .int .i64 0, .int .i64 0, .slice none 0 0, .slice none 0 0, .int .i64 0, .int .i64 0] := by
  refine ⟨(hb.setCell (p := ⟨k1, 0, none⟩) (Nat.le_of_lt hk) _).setCell (p := ⟨k1, 1, none⟩) (Nat.le_of_lt hk) _, ?_⟩
  show _ = _
  rw [blk_far (a := ⟨k1, 1, none⟩) (Nat.ne_of_lt hk), blk_far (a := ⟨k1, 0, none⟩) (Nat.ne_of_lt hk)]; exact hx
theorem id_laid {w u2 : World} {k1 id : Nat} (hk : w.heap.size < k1) (hb : Below w.heap.size w u2) (hx : Box u2 w.heap.size GotT #[.int .i64 0, .int .i64 0, .int .i64 0, .int .i64 0, .int .i64 0, .slice none 0 0, .slice none 0 0, .int .i64 0, .int .i64 0]) (hy : Box u2 k1 NumT #[.int .i64 0, .bool false]) :
    (fun v => Below w.heap.size w v ∧ Box v w.heap.size GotT #[.int .i64 0, .int .i64 0, .int .i64 0, .int .i64 0, .int .i64 0, .slice none 0 0, .slice none 0 0, .int .i64 0, .int .i64 0] ∧ Box v k1 NumT #[.int .i64 id, .bool true] ∧ Box v u2.heap.size 101 #[.string bC, .string bD, .string bT, .string bP] ∧ Box v (u2.heap.size + 1) 102 (four fun _ => 0)) ((((u2.setCell ⟨k1, 0, none⟩ (.int .i64 id)).setCell ⟨k1, 1, none⟩ (.bool true)).alloc (.cells #[.string bC, .string bD, .string bT, .string bP] 101)).alloc (.cells #[.int .i64 0, .int .i64 0, .int .i64 0, .int .i64 0] 102)) := by
  have hl := lt_of_block hy
  have hx1 : Box ((u2.setCell ⟨k1, 0, none⟩ (.int .i64 id)).setCell ⟨k1, 1, none⟩ (.bool true)) w.heap.size GotT #[.int .i64 0, .int .i64 0, .int .i64 0, .int .i64 0, .int .i64 0, .slice none 0 0, .slice none 0 0, .int .i64 0, .int .i64 0] := by
    show _ = _
    rw [blk_far (a := ⟨k1, 1, none⟩) (Nat.ne_of_lt hk), blk_far (a := ⟨k1, 0, none⟩) (Nat.ne_of_lt hk)]; exact hx
  have hy1 : Box ((u2.setCell ⟨k1, 0, none⟩ (.int .i64 id)).setCell ⟨k1, 1, none⟩ (.bool true)) k1 NumT #[.int .i64 id, .bool true] := by
    have q0 := blk_set (o := 0) hy (.int .i64 (id : Int))
    exact blk_set (o := 1) q0 (.bool true)
  have hs : ((u2.setCell ⟨k1, 0, none⟩ (.int .i64 id)).setCell ⟨k1, 1, none⟩ (.bool true)).heap.size = u2.heap.size := by rw [size_set, size_set]
  have hbb : Below w.heap.size w ((u2.setCell ⟨k1, 0, none⟩ (.int .i64 id)).setCell ⟨k1, 1, none⟩ (.bool true)) := (hb.setCell (p := ⟨k1, 0, none⟩) (Nat.le_of_lt hk) _).setCell (p := ⟨k1, 1, none⟩) (Nat.le_of_lt hk) _
  generalize ((u2.setCell ⟨k1, 0, none⟩ (.int .i64 id)).setCell ⟨k1, 1, none⟩ (.bool true)) = v at hx1 hy1 hs hbb ⊢
  refine ⟨below_up hbb (bw_alloc (bw_alloc (Below.refl _ _) _) _), kept_obj (bw_alloc (bw_alloc (Below.refl _ _) _) _) hx1, kept_obj (bw_alloc (bw_alloc (Below.refl _ _) _) _) hy1, ?_, ?_⟩
  · rw [← hs]; exact kept_obj (bw_alloc (Below.refl _ _) _) (heap_alloc_new v _)
  · rw [← hs]
    have := heap_alloc_new (v.alloc (.cells #[.string bC, .string bD, .string bT, .string bP] 101)) (.cells #[.int .i64 0, .int .i64 0, .int .i64 0, .int .i64 0] 102)
    rwa [World.size_alloc] at this
theorem num_laid {w u4 : World} {k1 k2 k id nn : Nat} {f : Nat → Nat} {o : Obj} (hk : w.heap.size < k2 + 1) (hk4 : k < 4) (hb : Below w.heap.size w u4) (hx : Box u4 w.heap.size GotT #[.int .i64 0, .int .i64 0, .int .i64 0, .int .i64 0, .int .i64 0, .slice none 0 0, .slice none 0 0, .int .i64 0, .int .i64 0]) (hy : Box u4 k1 NumT #[.int .i64 id, .bool true]) (hn : Box u4 k2 101 #[.string bC, .string bD, .string bT, .string bP]) (hf : Box u4 (k2 + 1) 102 (four f)) :
    Hid (Below w.heap.size w ((u4.setCell ⟨k2 + 1, k, none⟩ (.int .i64 nn)).alloc o)) ∧ Hid (Box ((u4.setCell ⟨k2 + 1, k, none⟩ (.int .i64 nn)).alloc o) w.heap.size GotT #[.int .i64 0, .int .i64 0, .int .i64 0, .int .i64 0, .int .i64 0, .slice none 0 0, .slice none 0 0, .int .i64 0, .int .i64 0]) ∧ Hid (Box ((u4.setCell ⟨k2 + 1, k, none⟩ (.int .i64 nn)).alloc o) k1 NumT #[.int .i64 id, .bool true]) ∧ Hid (Box ((u4.setCell ⟨k2 + 1, k, none⟩ (.int .i64 nn)).alloc o) k2 101 #[.string bC, .string bD, .string bT, .string bP]) ∧ Hid (Box ((u4.setCell ⟨k2 + 1, k, none⟩ (.int .i64 nn)).alloc o) (k2 + 1) 102 (four (upd f k nn))) := by
  have q : ∀ {b : Nat} {cs : Array Value} {T : TypeId}, Box u4 b T cs → T ≠ 102 → Box ((u4.setCell ⟨k2 + 1, k, none⟩ (.int .i64 nn)).alloc o) b T cs := fun {b cs T} h hT => by
    refine kept_obj (bw_alloc (Below.refl _ _) _) ?_
    rw [blk_far (a := ⟨k2 + 1, k, none⟩) (typ_ne h hf hT)]
    exact h
  refine ⟨below_up (hb.setCell (p := ⟨k2 + 1, k, none⟩) (Nat.le_of_lt hk) _) (bw_alloc (Below.refl _ _) _), q hx (by decide), q hy (by decide), q hn (by decide), ?_⟩
  refine kept_obj (bw_alloc (Below.refl _ _) _) ?_
  have h := blk_set (o := k) hf (.int .i64 (nn : Nat))
  rw [four_set f hk4 nn] at h
  exact h
theorem task_list : bTask.toList = [116, 97, 115, 107] := by rw [ByteArray.toList_eq]
theorem numL_lt {W : List WV} {k n : Nat} (h : numK W k = some n) : 2 + k < W.length := by
  rcases Nat.lt_or_ge (2 + k) W.length with q | q
  · exact q
  · unfold numK numAt valAt at h; rw [wordAt_none q] at h; cases h
set_option maxRecDepth 100000 in
set_option maxHeartbeats 8000000 in
theorem rline_any {w : World} {a : Option Addr} {n cap : Nat} {W : List WV} (h : Words w a n cap W) (hW : ∀ x ∈ W, x.tx.size ≤ 1050000) : Calls Tryz.prog 25 #[.slice a n cap] w (RLineIs W w) := by
  have hl := h.len
  have HL := Lib.hid hl
  have hn9 : (n : Int) ≤ 9223372036854775807 := by have := h.le; have := h.small; omega
  have hz := zeroGot
  have hz2 := zeroNumb
  have hz3 := zeroTwo
  have HW := Lib.hid h
  have HWS : Hid (∀ x ∈ W, (x.tx.size : Int) ≤ 9223372036854775807) := fun x hx => by have := hW x hx; omega
  have HWZ : Hid (∀ i z name, valAt W i name = some z → z.size ≤ 1050000) := fun i z name hz => by
    unfold valAt at hz
    obtain ⟨s, h1, h2⟩ := Option.bind_eq_some_iff.1 hz
    have h3 := namedV_size h2
    have h4 := wordAt_size hW h1
    omega
  have CW : Hid (∀ (i : Nat) (I : Int) v, (i : Int) = I → i ≤ 1000 → Below w.heap.size w v → Calls Tryz.prog 48 #[.slice a n cap, .int .i64 I] v (WrongIs (placeAt W i) v)) := fun i I v e hi hb => e ▸ wrong_any (HW.out.below hb) hi
  have CVN : Hid (∀ (i : Nat) (I : Int) (name : ByteArray) (v : World), (i : Int) = I → i ≤ 1000 → valAt W i name = none → Below w.heap.size w v → Calls Tryz.prog 51 #[.slice a n cap, .int .i64 I, .string name] v fun y w' => y = .returned (.agg #[.string ⟨#[]⟩, .string ⟨#[]⟩, .bool false]) ∧ Below v.heap.size v w') := fun i I name v e hi hn hb => by
    have q := rvalue_any (HW.out.below hb) hi HWS.out name
    unfold ValIs at q; rw [hn] at q; subst e; exact q
  have CVS : Hid (∀ (i : Nat) (I : Int) (name z : ByteArray) (v : World), (i : Int) = I → i ≤ 1000 → valAt W i name = some z → Below w.heap.size w v → Calls Tryz.prog 51 #[.slice a n cap, .int .i64 I, .string name] v fun y w' => y = .returned (.agg #[.string name, .string z, .bool true]) ∧ Below v.heap.size v w') := fun i I name z v e hi hn hb => by
    have q := rvalue_any (HW.out.below hb) hi HWS.out name
    unfold ValIs at q; rw [hn] at q; subst e; exact q
  have CE : Hid (∀ v, Below w.heap.size w v → Calls Tryz.prog 53 #[.slice a n cap] v fun y w' => y = .returned (.int .i64 (endAt W W.length)) ∧ Below v.heap.size v w') := fun v hb => rend_any (HW.out.below hb)
  have CN3 : Hid (∀ v, Below w.heap.size w v → Calls Tryz.prog 50 #[.slice a n cap, .int .i64 5, .string bP, .int .i64 99] v (RNumIs (numK W 3) v)) := fun v hb => rnumK_any (k := 3) (HW.out.below hb) (by omega) HWS.out rfl
  unfold RNumIs at CN3
  have CNK0 : Hid (∀ (k : Nat), k < 4 → ∀ (M : Int), mostK k = M → ∀ v, Below w.heap.size w v → Calls Tryz.prog 50 #[.slice a n cap, .int .i64 (2 + (k : Int)), .string (nameK k), .int .i64 M] v (RNumIs (numK W k) v)) := fun k hk M hM v hb => rnumK_any (HW.out.below hb) hk HWS.out hM
  unfold WrongIs at CW
  go_enter Tryz.func25, Tryz.ntmps25
  go_upto_region 1 with fail
  refine gen_world (fun v => Below w.heap.size w v ∧ Box v w.heap.size GotT #[.int .i64 0, .int .i64 0, .int .i64 0, .int .i64 0, .int .i64 0, .slice none 0 0, .slice none 0 0, .int .i64 0, .int .i64 0]) ⟨bw_alloc (Below.refl _ _) _, heap_alloc_new w _⟩ ?_
  intro u0 ⟨hb0, hx0⟩
  have B0 := Lib.hid hb0
  have X0 := Lib.hid hx0
  clear hb0 hx0
  by_cases e0 : wordAt W 0 = some bTask
  rotate_left
  · by_cases hn0 : n = 0
    · subst hn0
      have HB : Hid (lineOf W = .error (placeAt W 0)) := line_first e0
      clear e0
      go_wp2_with (go_at_call 48; (with_reducible refine (CW.out 0 0 _ rfl (by omega) B0.out).mono ?_); rintro y ux ⟨rfl, bx⟩; have BX := Lib.hid (below_up B0.out bx); have hx := kept_obj bx X0.out; have r0 : ux.cell? ⟨w.heap.size, 0, none⟩ = some (.int .i64 0) := blk_cell hx 0; have r1 : ux.cell? ⟨w.heap.size, 1, none⟩ = some (.int .i64 0) := blk_cell hx 1; have r2 : ux.cell? ⟨w.heap.size, 2, none⟩ = some (.int .i64 0) := blk_cell hx 2; have r3 : ux.cell? ⟨w.heap.size, 3, none⟩ = some (.int .i64 0) := blk_cell hx 3; have r4 : ux.cell? ⟨w.heap.size, 4, none⟩ = some (.int .i64 0) := blk_cell hx 4; have r5 : ux.cell? ⟨w.heap.size, 5, none⟩ = some (.slice none 0 0) := blk_cell hx 5; have r6 : ux.cell? ⟨w.heap.size, 6, none⟩ = some (.slice none 0 0) := blk_cell hx 6; have r7 : ux.cell? ⟨w.heap.size, 7, none⟩ = some (.int .i64 0) := blk_cell hx 7; have r8 : ux.cell? ⟨w.heap.size, 8, none⟩ = some (.int .i64 0) := blk_cell hx 8; have f0 := blk_free hx 0; have f1 := blk_free hx 1; have f2 := blk_free hx 2; have f3 := blk_free hx 3; have f4 := blk_free hx 4; have f5 := blk_free hx 5; have f6 := blk_free hx 6; have f7 := blk_free hx 7; have f8 := blk_free hx 8; have hr := lt_of_block hx; clear bx hx)
      exact bodyPost_ret (v := .agg #[.int .i64 0, .int .i64 0, .int .i64 0, .int .i64 0, .int .i64 0, .slice none 0 0, .slice none 0 0, .int .i64 (placeAt W 0), .int .i64 10]) (by simp [results, Tryz.results25, go_sem, hr, r0, r1, r2, r3, r4, r5, r6, r7, r8]) rfl (rline_bad HB.out (by repeat (first | with_reducible exact BX.out | refine Below.setCell ?_ (by simp) _)))
    · obtain ⟨x, hx⟩ := nth_of hl (show 0 < n by omega)
      obtain ⟨g, o, rfl, z0, z1, z2⟩ := HW.out.view.at_ hx
      have hne : ¬ x.tx = bTask := fun q => e0 (by rw [wordAt_some hx, q])
      have d1 : ¬ (n : Int) = 0 := by omega
      have d2 : (0 : Int) < (n : Int) := by omega
      have d4 : (x.tx.toList == [116, 97, 115, 107]) = false := by rw [← task_list, beq_bytes, decide_eq_false hne]
      have d5 : (x.tx.toList != [116, 97, 115, 107]) = true := by rw [bne, d4]; rfl
      have d6 : ((n : Int) == 0) = false := by rw [beq_eq_false_iff_ne]; exact d1
      have y2 := kept_cell B0.out z2
      clear hx hne
      have HB : Hid (lineOf W = .error (placeAt W 0)) := line_first e0
      clear e0
      go_wp2_with (go_at_call 48; (with_reducible refine (CW.out 0 0 _ rfl (by omega) B0.out).mono ?_); rintro y ux ⟨rfl, bx⟩; have BX := Lib.hid (below_up B0.out bx); have hx := kept_obj bx X0.out; have r0 : ux.cell? ⟨w.heap.size, 0, none⟩ = some (.int .i64 0) := blk_cell hx 0; have r1 : ux.cell? ⟨w.heap.size, 1, none⟩ = some (.int .i64 0) := blk_cell hx 1; have r2 : ux.cell? ⟨w.heap.size, 2, none⟩ = some (.int .i64 0) := blk_cell hx 2; have r3 : ux.cell? ⟨w.heap.size, 3, none⟩ = some (.int .i64 0) := blk_cell hx 3; have r4 : ux.cell? ⟨w.heap.size, 4, none⟩ = some (.int .i64 0) := blk_cell hx 4; have r5 : ux.cell? ⟨w.heap.size, 5, none⟩ = some (.slice none 0 0) := blk_cell hx 5; have r6 : ux.cell? ⟨w.heap.size, 6, none⟩ = some (.slice none 0 0) := blk_cell hx 6; have r7 : ux.cell? ⟨w.heap.size, 7, none⟩ = some (.int .i64 0) := blk_cell hx 7; have r8 : ux.cell? ⟨w.heap.size, 8, none⟩ = some (.int .i64 0) := blk_cell hx 8; have f0 := blk_free hx 0; have f1 := blk_free hx 1; have f2 := blk_free hx 2; have f3 := blk_free hx 3; have f4 := blk_free hx 4; have f5 := blk_free hx 5; have f6 := blk_free hx 6; have f7 := blk_free hx 7; have f8 := blk_free hx 8; have hr := lt_of_block hx; clear bx hx)
      exact bodyPost_ret (v := .agg #[.int .i64 0, .int .i64 0, .int .i64 0, .int .i64 0, .int .i64 0, .slice none 0 0, .slice none 0 0, .int .i64 (placeAt W 0), .int .i64 10]) (by simp [results, Tryz.results25, go_sem, hr, r0, r1, r2, r3, r4, r5, r6, r7, r8]) rfl (rline_bad HB.out (by repeat (first | with_reducible exact BX.out | refine Below.setCell ?_ (by simp) _)))
  have hl0 := w_lt e0
  obtain ⟨x, hx⟩ := nth_of hl (show 0 < n by omega)
  rw [hl] at hl0
  clear hl
  obtain ⟨g, o, rfl, z0, z1, z2⟩ := HW.out.view.at_ hx
  have hxt : x.tx = bTask := by rw [wordAt_some hx] at e0; exact Option.some.inj e0
  have d1 : ¬ (n : Int) = 0 := by omega
  have d2 : (0 : Int) < (n : Int) := by omega
  have d4 : (x.tx.toList == [116, 97, 115, 107]) = true := by rw [← task_list, beq_bytes, decide_eq_true hxt]
  have d5 : (x.tx.toList != [116, 97, 115, 107]) = false := by rw [bne, d4]; rfl
  have d6 : ((n : Int) == 0) = false := by rw [beq_eq_false_iff_ne]; exact d1
  have y2 := kept_cell B0.out z2
  have HV0 := Lib.hid HW.out.view
  clear hx hxt z0 z1 z2
  go_upto_region 4 with fail
  refine gen_world (fun v => Below w.heap.size w v ∧ Box v w.heap.size GotT #[.int .i64 0, .int .i64 0, .int .i64 0, .int .i64 0, .int .i64 0, .slice none 0 0, .slice none 0 0, .int .i64 0, .int .i64 0] ∧ Box v u0.heap.size NumT #[.int .i64 0, .bool false]) ⟨below_up B0.out (bw_alloc (Below.refl _ _) _), kept_obj (bw_alloc (Below.refl _ _) _) X0.out, heap_alloc_new u0 _⟩ ?_
  intro u1 ⟨hb1, hx1, hy1⟩
  have hk1 : w.heap.size < u0.heap.size := lt_of_block X0.out
  generalize u0.heap.size = k1 at hk1 hy1 ⊢
  have B1 := Lib.hid hb1
  have X1 := Lib.hid hx1
  have Y1 := Lib.hid hy1
  clear B0 X0 y2 d4 d5 d6
  have ar0 : u1.cell? ⟨k1, 0, none⟩ = some (.int .i64 0) := blk_cell hy1 0
  have ar1 : u1.cell? ⟨k1, 1, none⟩ = some (.bool false) := blk_cell hy1 1
  have af0 := blk_free hy1 0
  have af1 := blk_free hy1 1
  have ahr := lt_of_block hy1
  clear hb1 hx1 hy1
  cases e1 : idOf W with
  | none =>
    by_cases hn1 : 1 < n
    · obtain ⟨x1, hx1⟩ := nth_of HL.out hn1
      obtain ⟨g', o', eq1, y0, y1, y2⟩ := HV0.out.at_ hx1
      cases eq1
      have y2' := kept_cell B1.out y2
      have CI : Hid (∀ v, Calls Tryz.prog 49 #[.string x1.tx, .int .i64 99] v (NumB none v)) := fun v => by
        have q := rnumber_any x1.tx (HWS.out _ (List.mem_of_getElem? hx1)) 99 v
        have e : numOf x1.tx 99 = none := by unfold idOf at e1; rw [wordAt_some hx1] at e1; exact e1
        rwa [e] at q
      have d3 : (1 : Int) < (n : Int) := by omega
      clear hx1 y0 y1 y2
      go_upto_region 7 with (go_at_call 49; (with_reducible refine (CI.out _).mono ?_); rintro y u2 ⟨rfl, b2⟩; have B2 := Lib.hid (below_up B1.out b2); have X2 := Lib.hid (kept_obj b2 X1.out); have hy := kept_obj b2 Y1.out; have br0 : u2.cell? ⟨k1, 0, none⟩ = some (.int .i64 0) := blk_cell hy 0; have br1 : u2.cell? ⟨k1, 1, none⟩ = some (.bool false) := blk_cell hy 1; have bf0 := blk_free hy 0; have bf1 := blk_free hy 1; have bhr := lt_of_block hy; clear b2 hy)
      refine gen_world (fun v => Below w.heap.size w v ∧ Box v w.heap.size GotT #[.int .i64 0, .int .i64 0, .int .i64 0, .int .i64 0, .int .i64 0, .slice none 0 0, .slice none 0 0, .int .i64 0, .int .i64 0]) (st2 hk1 B2.out X2.out) ?_
      intro u3 ⟨hb3, hx3⟩
      have B3 := Lib.hid hb3
      have X3 := Lib.hid hx3
      clear hb3 hx3 B2 X2
      have HB : Hid (lineOf W = .error (placeAt W 1)) := line_id e0 e1
      clear e0 e1
      go_wp2_with (go_at_call 48; (with_reducible refine (CW.out 1 1 _ rfl (by omega) B3.out).mono ?_); rintro y ux ⟨rfl, bx⟩; have BX := Lib.hid (below_up B3.out bx); have hx := kept_obj bx X3.out; have r0 : ux.cell? ⟨w.heap.size, 0, none⟩ = some (.int .i64 0) := blk_cell hx 0; have r1 : ux.cell? ⟨w.heap.size, 1, none⟩ = some (.int .i64 0) := blk_cell hx 1; have r2 : ux.cell? ⟨w.heap.size, 2, none⟩ = some (.int .i64 0) := blk_cell hx 2; have r3 : ux.cell? ⟨w.heap.size, 3, none⟩ = some (.int .i64 0) := blk_cell hx 3; have r4 : ux.cell? ⟨w.heap.size, 4, none⟩ = some (.int .i64 0) := blk_cell hx 4; have r5 : ux.cell? ⟨w.heap.size, 5, none⟩ = some (.slice none 0 0) := blk_cell hx 5; have r6 : ux.cell? ⟨w.heap.size, 6, none⟩ = some (.slice none 0 0) := blk_cell hx 6; have r7 : ux.cell? ⟨w.heap.size, 7, none⟩ = some (.int .i64 0) := blk_cell hx 7; have r8 : ux.cell? ⟨w.heap.size, 8, none⟩ = some (.int .i64 0) := blk_cell hx 8; have f0 := blk_free hx 0; have f1 := blk_free hx 1; have f2 := blk_free hx 2; have f3 := blk_free hx 3; have f4 := blk_free hx 4; have f5 := blk_free hx 5; have f6 := blk_free hx 6; have f7 := blk_free hx 7; have f8 := blk_free hx 8; have hr := lt_of_block hx; clear bx hx)
      exact bodyPost_ret (v := .agg #[.int .i64 0, .int .i64 0, .int .i64 0, .int .i64 0, .int .i64 0, .slice none 0 0, .slice none 0 0, .int .i64 (placeAt W 1), .int .i64 10]) (by simp [results, Tryz.results25, go_sem, hr, r0, r1, r2, r3, r4, r5, r6, r7, r8]) rfl (rline_bad HB.out (by repeat (first | with_reducible exact BX.out | refine Below.setCell ?_ (by simp) _)))
    · have d3 : ¬ (1 : Int) < (n : Int) := by omega
      go_upto_region 7 with fail
      have HB : Hid (lineOf W = .error (placeAt W 1)) := line_id e0 e1
      clear e0 e1
      go_wp2_with (go_at_call 48; (with_reducible refine (CW.out 1 1 _ rfl (by omega) B1.out).mono ?_); rintro y ux ⟨rfl, bx⟩; have BX := Lib.hid (below_up B1.out bx); have hx := kept_obj bx X1.out; have r0 : ux.cell? ⟨w.heap.size, 0, none⟩ = some (.int .i64 0) := blk_cell hx 0; have r1 : ux.cell? ⟨w.heap.size, 1, none⟩ = some (.int .i64 0) := blk_cell hx 1; have r2 : ux.cell? ⟨w.heap.size, 2, none⟩ = some (.int .i64 0) := blk_cell hx 2; have r3 : ux.cell? ⟨w.heap.size, 3, none⟩ = some (.int .i64 0) := blk_cell hx 3; have r4 : ux.cell? ⟨w.heap.size, 4, none⟩ = some (.int .i64 0) := blk_cell hx 4; have r5 : ux.cell? ⟨w.heap.size, 5, none⟩ = some (.slice none 0 0) := blk_cell hx 5; have r6 : ux.cell? ⟨w.heap.size, 6, none⟩ = some (.slice none 0 0) := blk_cell hx 6; have r7 : ux.cell? ⟨w.heap.size, 7, none⟩ = some (.int .i64 0) := blk_cell hx 7; have r8 : ux.cell? ⟨w.heap.size, 8, none⟩ = some (.int .i64 0) := blk_cell hx 8; have f0 := blk_free hx 0; have f1 := blk_free hx 1; have f2 := blk_free hx 2; have f3 := blk_free hx 3; have f4 := blk_free hx 4; have f5 := blk_free hx 5; have f6 := blk_free hx 6; have f7 := blk_free hx 7; have f8 := blk_free hx 8; have hr := lt_of_block hx; clear bx hx)
      exact bodyPost_ret (v := .agg #[.int .i64 0, .int .i64 0, .int .i64 0, .int .i64 0, .int .i64 0, .slice none 0 0, .slice none 0 0, .int .i64 (placeAt W 1), .int .i64 10]) (by simp [results, Tryz.results25, go_sem, hr, r0, r1, r2, r3, r4, r5, r6, r7, r8]) rfl (rline_bad HB.out (by repeat (first | with_reducible exact BX.out | refine Below.setCell ?_ (by simp) _)))
  | some id =>
    have hn1 : 1 < n := by
      have : 1 < W.length := by
        rcases Nat.lt_or_ge 1 W.length with q | q
        · exact q
        · unfold idOf at e1; rw [wordAt_none q] at e1; cases e1
      have := HL.out; omega
    obtain ⟨x1, hx1⟩ := nth_of HL.out hn1
    obtain ⟨g', o', eq1, y0, y1, y2⟩ := HV0.out.at_ hx1
    cases eq1
    have y2' := kept_cell B1.out y2
    have CI : Hid (∀ v, Calls Tryz.prog 49 #[.string x1.tx, .int .i64 99] v (NumB (some id) v)) := fun v => by
      have q := rnumber_any x1.tx (HWS.out _ (List.mem_of_getElem? hx1)) 99 v
      have e : numOf x1.tx 99 = some id := by unfold idOf at e1; rw [wordAt_some hx1] at e1; exact e1
      rwa [e] at q
    have d3 : (1 : Int) < (n : Int) := by omega
    clear hx1 y0 y1 y2
    go_upto_region 10 with (go_at_call 49; (with_reducible refine (CI.out _).mono ?_); rintro y u2 ⟨rfl, b2⟩; have B2 := Lib.hid (below_up B1.out b2); have X2 := Lib.hid (kept_obj b2 X1.out); have hy := kept_obj b2 Y1.out; have Y2 := Lib.hid hy; have br0 : u2.cell? ⟨k1, 0, none⟩ = some (.int .i64 0) := blk_cell hy 0; have br1 : u2.cell? ⟨k1, 1, none⟩ = some (.bool false) := blk_cell hy 1; have bf0 := blk_free hy 0; have bf1 := blk_free hy 1; have bhr := lt_of_block hy; clear b2 hy)
    have hk12 : k1 < u2.heap.size := lt_of_block Y2.out
    refine gen_world (fun v => Below w.heap.size w v ∧ Box v w.heap.size GotT #[.int .i64 0, .int .i64 0, .int .i64 0, .int .i64 0, .int .i64 0, .slice none 0 0, .slice none 0 0, .int .i64 0, .int .i64 0] ∧ Box v k1 NumT #[.int .i64 id, .bool true] ∧ Box v u2.heap.size 101 #[.string bC, .string bD, .string bT, .string bP] ∧ Box v (u2.heap.size + 1) 102 (four fun _ => 0)) (id_laid hk1 B2.out X2.out Y2.out) ?_
    intro u3 ⟨hb3, hx3, hy3, hn3, hf3⟩
    have B3 := Lib.hid hb3
    have X3 := Lib.hid hx3
    have Y3 := Lib.hid hy3
    have hk13 : w.heap.size < u2.heap.size + 1 := by omega
    clear B1 X1 Y1 B2 X2 Y2 ar0 ar1 af0 af1 ahr br0 br1 bf0 bf1 bhr y2' CI hk12
    generalize u2.heap.size = k2 at hn3 hf3 hk13 ⊢
    have N3 := Lib.hid hn3
    have F3 := Lib.hid hf3
    clear hb3 hx3 hy3 hn3 hf3
    go_wp2_with fail
    go_loopw [6] (fun u wr => ∃ (k : Nat) (f : Nat → Nat), k ≤ 4 ∧ u = .int .i64 k ∧ Hid (∀ j, j < k → numK W j = some (f j)) ∧ Hid (Below w.heap.size w wr) ∧ Hid (Box wr w.heap.size GotT #[.int .i64 0, .int .i64 0, .int .i64 0, .int .i64 0, .int .i64 0, .slice none 0 0, .slice none 0 0, .int .i64 0, .int .i64 0]) ∧ Hid (Box wr k1 NumT #[.int .i64 id, .bool true]) ∧ Hid (Box wr k2 101 #[.string bC, .string bD, .string bT, .string bP]) ∧ Hid (Box wr (k2 + 1) 102 (four f))) (fun u _ => (4 - intOf u).toNat)
    case atStart => exact ⟨0, fun _ => 0, by omega, rfl, (fun j hj => absurd hj (Nat.not_lt_zero _)), B3, X3, Y3, N3, F3⟩
    case round =>
      obtain ⟨k, f, hk, rfl, HK, HB, HX, HY, HN, HF⟩ := hrel
      clear B3 X3 Y3 N3 F3
      by_cases hk4 : k < 4
      · have m0 : wr.cell? ⟨k2, k, none⟩ = some (.string (nameK k)) := (blk_cell HN.out k).trans (name_at hk4)
        have hkm : k2 < wr.heap.size := lt_of_block HN.out
        have d7 : (k : Int) < 4 := by omega
        have d8 : (0 : Int) ≤ (k : Int) := by omega
        have HW2 : Hid (IntKind.i64.wrap (2 + (k : Int)) = 2 + (k : Int)) := IntWalk.i64_in _ (by omega)
        have hcast : ((2 + k : Nat) : Int) = 2 + (k : Int) := by omega
        have hk1000 : 2 + k ≤ 1000 := by omega
        have CNK := Lib.hid (CNK0.out k hk4)
        unfold RNumIs at CNK
        cases e2 : numK W k with
        | none =>
          rw [e2] at CNK
          by_cases h3 : k = 3
          · subst h3
            rw [e2] at CN3
            have m3 : wr.cell? ⟨k2, 3, none⟩ = some (.string bP) := m0
            clear CNK HW2 hcast hk1000 d7 d8 m0
            go_upto_region 17 with (go_at_call 50; (with_reducible refine (CN3.out _ HB.out).mono ?_); rintro y u4 ⟨rfl, b4⟩; have HB4 := Lib.hid (below_up HB.out b4); have HX4 := Lib.hid (kept_obj b4 HX.out); have HF4 := Lib.hid (kept_obj b4 HF.out); have HY4 := Lib.hid (kept_obj b4 HY.out); have HN4 := Lib.hid (kept_obj b4 HN.out); clear b4)
            have HB : Hid (lineOf W = .error (placeAt W 5)) := line_bad (k := 3) e0 e1 hk4 (fun j hj => ⟨_, HK.out j hj⟩) e2
            clear e2
            go_wp2_with (go_at_call 48; (with_reducible refine (CW.out 5 5 _ rfl (by omega) (below_up HB4.out (bw_alloc (Below.refl _ _) _))).mono ?_); rintro y ux ⟨rfl, bx⟩; have BX := Lib.hid (below_up (below_up HB4.out (bw_alloc (Below.refl _ _) _)) bx); have hx := kept_obj bx (kept_obj (bw_alloc (Below.refl _ _) _) HX4.out); have r0 : ux.cell? ⟨w.heap.size, 0, none⟩ = some (.int .i64 0) := blk_cell hx 0; have r1 : ux.cell? ⟨w.heap.size, 1, none⟩ = some (.int .i64 0) := blk_cell hx 1; have r2 : ux.cell? ⟨w.heap.size, 2, none⟩ = some (.int .i64 0) := blk_cell hx 2; have r3 : ux.cell? ⟨w.heap.size, 3, none⟩ = some (.int .i64 0) := blk_cell hx 3; have r4 : ux.cell? ⟨w.heap.size, 4, none⟩ = some (.int .i64 0) := blk_cell hx 4; have r5 : ux.cell? ⟨w.heap.size, 5, none⟩ = some (.slice none 0 0) := blk_cell hx 5; have r6 : ux.cell? ⟨w.heap.size, 6, none⟩ = some (.slice none 0 0) := blk_cell hx 6; have r7 : ux.cell? ⟨w.heap.size, 7, none⟩ = some (.int .i64 0) := blk_cell hx 7; have r8 : ux.cell? ⟨w.heap.size, 8, none⟩ = some (.int .i64 0) := blk_cell hx 8; have f0 := blk_free hx 0; have f1 := blk_free hx 1; have f2 := blk_free hx 2; have f3 := blk_free hx 3; have f4 := blk_free hx 4; have f5 := blk_free hx 5; have f6 := blk_free hx 6; have f7 := blk_free hx 7; have f8 := blk_free hx 8; have hr := lt_of_block hx; clear bx hx)
            exact bodyPost_ret (v := .agg #[.int .i64 0, .int .i64 0, .int .i64 0, .int .i64 0, .int .i64 0, .slice none 0 0, .slice none 0 0, .int .i64 (placeAt W 5), .int .i64 10]) (by simp [results, Tryz.results25, go_sem, hr, r0, r1, r2, r3, r4, r5, r6, r7, r8]) rfl (rline_bad HB.out (by repeat (first | with_reducible exact BX.out | refine Below.setCell ?_ (by simp) _)))
          · have hM : mostK k = 1073741824 := by unfold mostK; rw [if_neg h3]
            have d9 : ((k : Int) == 3) = false := by rw [beq_eq_false_iff_ne]; omega
            have d10 : ¬ (k : Int) = 3 := by omega
            have CK := Lib.hid (CNK.out _ hM)
            clear CNK hM h3
            have hw2 := HW2.out
            go_upto_region 17 with (go_at_call 50; (with_reducible refine (CK.out _ HB.out).mono ?_); rintro y u4 ⟨rfl, b4⟩; have HB4 := Lib.hid (below_up HB.out b4); have HX4 := Lib.hid (kept_obj b4 HX.out); have HF4 := Lib.hid (kept_obj b4 HF.out); have HY4 := Lib.hid (kept_obj b4 HY.out); have HN4 := Lib.hid (kept_obj b4 HN.out); clear b4)
            have HB : Hid (lineOf W = .error (placeAt W (2 + k))) := line_bad e0 e1 hk4 (fun j hj => ⟨_, HK.out j hj⟩) e2
            clear e2
            go_wp2_with (go_at_call 48; (with_reducible refine (CW.out (2 + k) (2 + (k : Int)) _ hcast hk1000 (below_up HB4.out (bw_alloc (Below.refl _ _) _))).mono ?_); rintro y ux ⟨rfl, bx⟩; have BX := Lib.hid (below_up (below_up HB4.out (bw_alloc (Below.refl _ _) _)) bx); have hx := kept_obj bx (kept_obj (bw_alloc (Below.refl _ _) _) HX4.out); have r0 : ux.cell? ⟨w.heap.size, 0, none⟩ = some (.int .i64 0) := blk_cell hx 0; have r1 : ux.cell? ⟨w.heap.size, 1, none⟩ = some (.int .i64 0) := blk_cell hx 1; have r2 : ux.cell? ⟨w.heap.size, 2, none⟩ = some (.int .i64 0) := blk_cell hx 2; have r3 : ux.cell? ⟨w.heap.size, 3, none⟩ = some (.int .i64 0) := blk_cell hx 3; have r4 : ux.cell? ⟨w.heap.size, 4, none⟩ = some (.int .i64 0) := blk_cell hx 4; have r5 : ux.cell? ⟨w.heap.size, 5, none⟩ = some (.slice none 0 0) := blk_cell hx 5; have r6 : ux.cell? ⟨w.heap.size, 6, none⟩ = some (.slice none 0 0) := blk_cell hx 6; have r7 : ux.cell? ⟨w.heap.size, 7, none⟩ = some (.int .i64 0) := blk_cell hx 7; have r8 : ux.cell? ⟨w.heap.size, 8, none⟩ = some (.int .i64 0) := blk_cell hx 8; have f0 := blk_free hx 0; have f1 := blk_free hx 1; have f2 := blk_free hx 2; have f3 := blk_free hx 3; have f4 := blk_free hx 4; have f5 := blk_free hx 5; have f6 := blk_free hx 6; have f7 := blk_free hx 7; have f8 := blk_free hx 8; have hr := lt_of_block hx; clear bx hx)
            exact bodyPost_ret (v := .agg #[.int .i64 0, .int .i64 0, .int .i64 0, .int .i64 0, .int .i64 0, .slice none 0 0, .slice none 0 0, .int .i64 (placeAt W (2 + k)), .int .i64 10]) (by simp [results, Tryz.results25, go_sem, hr, r0, r1, r2, r3, r4, r5, r6, r7, r8]) rfl (rline_bad HB.out (by repeat (first | with_reducible exact BX.out | refine Below.setCell ?_ (by simp) _)))
        | some nn =>
          rw [e2] at CNK
          have HK2 : Hid (∀ j, j < k + 1 → numK W j = some (upd f k nn j)) := fun j hj => by
            unfold upd
            by_cases q : j = k
            · rw [if_pos q, q]; exact e2
            · rw [if_neg q]; exact HK.out j (by omega)
          by_cases h3 : k = 3
          · subst h3
            rw [e2] at CN3
            have m3 : wr.cell? ⟨k2, 3, none⟩ = some (.string bP) := m0
            clear CNK HW2 hcast hk1000 d7 d8 m0
            go_upto_region 17 with (go_at_call 50; (with_reducible refine (CN3.out _ HB.out).mono ?_); rintro y u4 ⟨rfl, b4⟩; have HB4 := Lib.hid (below_up HB.out b4); have HX4 := Lib.hid (kept_obj b4 HX.out); have HF4 := Lib.hid (kept_obj b4 HF.out); have HY4 := Lib.hid (kept_obj b4 HY.out); have HN4 := Lib.hid (kept_obj b4 HN.out); clear b4)
            have c3 : u4.cell? ⟨k2 + 1, 3, none⟩ = some (.int .i64 (f 3)) := blk_cell HF4.out 3
            have f3 := blk_free HF4.out 3
            have hl3 := lt_of_block HF4.out
            clear HB HX HY HN HF m3 hkm e2
            go_wp2_with fail
            go_roundw
            case rel => exact ⟨4, upd f 3 nn, by omega, by go_num, HK2, num_laid hk13 hk4 HB4.out HX4.out HY4.out HN4.out HF4.out⟩
            case measure => simp [intOf]
          · have hM : mostK k = 1073741824 := by unfold mostK; rw [if_neg h3]
            have d9 : ((k : Int) == 3) = false := by rw [beq_eq_false_iff_ne]; omega
            have d10 : ¬ (k : Int) = 3 := by omega
            have CK := Lib.hid (CNK.out _ hM)
            clear CNK hM h3
            have hw2 := HW2.out
            go_upto_region 17 with (go_at_call 50; (with_reducible refine (CK.out _ HB.out).mono ?_); rintro y u4 ⟨rfl, b4⟩; have HB4 := Lib.hid (below_up HB.out b4); have HX4 := Lib.hid (kept_obj b4 HX.out); have HF4 := Lib.hid (kept_obj b4 HF.out); have HY4 := Lib.hid (kept_obj b4 HY.out); have HN4 := Lib.hid (kept_obj b4 HN.out); clear b4)
            have c3 : u4.cell? ⟨k2 + 1, k, none⟩ = some (.int .i64 (f k)) := (blk_cell HF4.out k).trans (four_at f hk4)
            have f3 := blk_free HF4.out k
            have hl3 := lt_of_block HF4.out
            clear HB HX HY HN HF m0 hkm e2
            go_wp2_with fail
            go_roundw
            case rel => exact ⟨k + 1, upd f k nn, Nat.succ_le_of_lt hk4, by go_num, HK2, num_laid hk13 hk4 HB4.out HX4.out HY4.out HN4.out HF4.out⟩
            case measure => clear hw2 HW2; simp [intOf]; omega
      · obtain rfl : k = 4 := by omega
        have n0 := HK.out 0 (by omega)
        have n1 := HK.out 1 (by omega)
        have n2 := HK.out 2 (by omega)
        have n3 := HK.out 3 (by omega)
        have hle6 : 6 ≤ W.length := by have := numL_lt n3; omega
        have q0 : wr.cell? ⟨k2 + 1, 0, none⟩ = some (.int .i64 (f 0)) := blk_cell HF.out 0
        have q1 : wr.cell? ⟨k2 + 1, 1, none⟩ = some (.int .i64 (f 1)) := blk_cell HF.out 1
        have q2 : wr.cell? ⟨k2 + 1, 2, none⟩ = some (.int .i64 (f 2)) := blk_cell HF.out 2
        have q3 : wr.cell? ⟨k2 + 1, 3, none⟩ = some (.int .i64 (f 3)) := blk_cell HF.out 3
        have i0 : wr.cell? ⟨k1, 0, none⟩ = some (.int .i64 id) := blk_cell HY.out 0
        have hlf := lt_of_block HF.out
        go_upto_region 22 with fail
        refine gen_world (RSt w wr.heap.size id (f 0) (f 1) (f 2) (f 3) (.slice none 0 0) [] (.slice none 0 0) [] (.slice none 0 0) []) ⟨below_up HB.out (bw_alloc (Below.refl _ _) _), lt_of_block HX.out, kept_obj (bw_alloc (Below.refl _ _) _) HX.out, heap_alloc_new wr _, OwnI.nil _ _ _, OwnI.nil _ _ _, OwnI.nil _ _ _⟩ ?_
        intro u5 h5
        generalize wr.heap.size = k4 at h5 ⊢
        have H5 := Lib.hid h5
        clear h5 HB HX HY HN HF q0 q1 q2 q3 i0 hlf CN3 CNK0
        cases e6 : valAt W 6 bChunks with
        | none =>
          have hc0 : chAt W = none := by unfold chAt numsAt; rw [e6]; rfl
          have hp1 : plus1 W = 6 := by unfold plus1; rw [hc0]; rfl
          obtain ⟨ch, hch⟩ : ∃ ch : List Int, (chAt W).getD [] = ch := ⟨_, rfl⟩
          have hch0 : ch = [] := by rw [← hch, hc0]; rfl
          go_upto_region 29 with (go_at_call 51; (with_reducible refine (CVN.out 6 6 bChunks _ rfl (by omega) e6 H5.out.low).mono ?_); rintro y ux ⟨rfl, bx⟩; have H5a := Lib.hid (H5.out.below bx); clear bx)
          have H5b := Lib.hid (H5a.out.below (bw_alloc (Below.refl _ _) (.cells #[.string ⟨#[]⟩, .string ⟨#[]⟩, .bool false] TwoT)))
          clear H5a H5 e6 hc0
          refine gen_world (RSt w k4 id (f 0) (f 1) (f 2) (f 3) (.slice none 0 0) [] (.slice none 0 0) [] (.slice none 0 0) []) H5b.out ?_
          intro u8 h8
          have H8a : Hid (∃ (a1 : Option Addr) (m1 c1 : Nat), RSt w k4 id (f 0) (f 1) (f 2) (f 3) (.slice a1 m1 c1) ch (.slice none 0 0) [] (.slice none 0 0) [] u8) := ⟨none, 0, 0, hch0 ▸ h8⟩
          clear h8 H5b hch0
          obtain ⟨a1, m1, c1, h8⟩ := H8a.out
          have HU := Lib.hid h8
          clear h8 H8a
          cases e8 : valAt W 6 bUse with
          | none =>
            have hu0 : usAt W = none := by unfold usAt numsAt; rw [hp1, e8]; rfl
            have hp2 : plus2 W = 6 := by unfold plus2; rw [hu0, hp1]; rfl
            obtain ⟨us, hus⟩ : ∃ us : List Int, (usAt W).getD [] = us := ⟨_, rfl⟩
            have hus0 : us = [] := by rw [← hus, hu0]; rfl
            clear hu0 hp1
            go_upto_region 39 with (go_at_call 51; (with_reducible refine (CVN.out 6 6 bUse _ rfl (by omega) e8 HU.out.low).mono ?_); rintro y ux ⟨rfl, bx⟩; have H6 := Lib.hid (HU.out.below bx); clear bx)
            have H6b := Lib.hid (H6.out.below (bw_alloc (Below.refl _ _) (.cells #[.string ⟨#[]⟩, .string ⟨#[]⟩, .bool false] TwoT)))
            clear H6 HU e8
            refine gen_world (RSt w k4 id (f 0) (f 1) (f 2) (f 3) (.slice a1 m1 c1) ch (.slice none 0 0) [] (.slice none 0 0) []) H6b.out ?_
            intro u10 h10
            have H8a : Hid (∃ (a2 : Option Addr) (m2 c2 : Nat), RSt w k4 id (f 0) (f 1) (f 2) (f 3) (.slice a1 m1 c1) ch (.slice a2 m2 c2) us (.slice none 0 0) [] u10) := ⟨none, 0, 0, hus0 ▸ h10⟩
            clear h10 H6b hus0
            obtain ⟨a2, m2, c2, h10⟩ := H8a.out
            have H8 := Lib.hid h10
            clear h10 H8a
            by_cases ho : 6 < n
            · have d20 : (6 : Int) < (n : Int) := by omega
              have HB : Hid (lineOf W = .error (placeAt W 6)) := by show _ = _; rw [line_over e0 e1 n0 n1 n2 n3 (by rw [hp2, HL.out]; exact ho), hp2]
              go_wp2_with (go_at_call 48; (with_reducible refine (CW.out 6 6 _ rfl (by omega) H8.out.low).mono ?_); rintro y ux ⟨rfl, bx⟩; have BX := Lib.hid (below_up H8.out.low bx); have hx := kept_obj bx H8.out.res; have r0 : ux.cell? ⟨w.heap.size, 0, none⟩ = some (.int .i64 0) := blk_cell hx 0; have r1 : ux.cell? ⟨w.heap.size, 1, none⟩ = some (.int .i64 0) := blk_cell hx 1; have r2 : ux.cell? ⟨w.heap.size, 2, none⟩ = some (.int .i64 0) := blk_cell hx 2; have r3 : ux.cell? ⟨w.heap.size, 3, none⟩ = some (.int .i64 0) := blk_cell hx 3; have r4 : ux.cell? ⟨w.heap.size, 4, none⟩ = some (.int .i64 0) := blk_cell hx 4; have r5 : ux.cell? ⟨w.heap.size, 5, none⟩ = some (.slice none 0 0) := blk_cell hx 5; have r6 : ux.cell? ⟨w.heap.size, 6, none⟩ = some (.slice none 0 0) := blk_cell hx 6; have r7 : ux.cell? ⟨w.heap.size, 7, none⟩ = some (.int .i64 0) := blk_cell hx 7; have r8 : ux.cell? ⟨w.heap.size, 8, none⟩ = some (.int .i64 0) := blk_cell hx 8; have f0 := blk_free hx 0; have f1 := blk_free hx 1; have f2 := blk_free hx 2; have f3 := blk_free hx 3; have f4 := blk_free hx 4; have f5 := blk_free hx 5; have f6 := blk_free hx 6; have f7 := blk_free hx 7; have f8 := blk_free hx 8; have hr := lt_of_block hx; clear bx hx)
              exact bodyPost_ret (v := .agg #[.int .i64 0, .int .i64 0, .int .i64 0, .int .i64 0, .int .i64 0, .slice none 0 0, .slice none 0 0, .int .i64 (placeAt W 6), .int .i64 10]) (by simp [results, Tryz.results25, go_sem, hr, r0, r1, r2, r3, r4, r5, r6, r7, r8]) rfl (rline_bad HB.out (by repeat (first | with_reducible exact BX.out | refine Below.setCell ?_ (by simp) _)))
            · have d20 : ¬ (6 : Int) < (n : Int) := by omega
              have HOK : Hid (lineOf W = .ok ⟨id, f 0, f 1, f 2, f 3, ch, us⟩) := by show _ = _; rw [line_ok e0 e1 n0 n1 n2 n3 (by rw [hp2, HL.out]; exact ho), hch, hus]
              clear ho hp2 hch hus
              go_upto_region 41 with fail
              have cb := H8.out.box
              have p0 : _root_.Go.World.cell? _ ⟨k4, 0, none⟩ = some (.int .i64 id) := blk_cell cb 0
              have p1 : _root_.Go.World.cell? _ ⟨k4, 1, none⟩ = some (.int .i64 (f 0)) := blk_cell cb 1
              have p2 : _root_.Go.World.cell? _ ⟨k4, 2, none⟩ = some (.int .i64 (f 1)) := blk_cell cb 2
              have p3 : _root_.Go.World.cell? _ ⟨k4, 3, none⟩ = some (.int .i64 (f 2)) := blk_cell cb 3
              have p4 : _root_.Go.World.cell? _ ⟨k4, 4, none⟩ = some (.int .i64 (f 3)) := blk_cell cb 4
              have p5 : _root_.Go.World.cell? _ ⟨k4, 5, none⟩ = some (.slice a1 m1 c1) := blk_cell cb 5
              have p6 : _root_.Go.World.cell? _ ⟨k4, 6, none⟩ = some (.slice a2 m2 c2) := blk_cell cb 6
              clear cb
              go_region_law (go_simp; (with_reducible refine (CE.out _ (below_up H8.out.low (by repeat (first | exact Below.refl _ _ | (with_reducible assumption) | refine bw_alloc ?_ _ | refine bw_drew ?_)))).mono ?_); rintro y u9 ⟨rfl, bx⟩; have H9 := Lib.hid ((H8.out.below (by repeat (first | exact Below.refl _ _ | (with_reducible assumption) | refine bw_alloc ?_ _ | refine bw_drew ?_))).below bx); have ct := H9.out.box; have cr := H9.out.res; have s0 : u9.cell? ⟨k4, 0, none⟩ = some (.int .i64 id) := blk_cell ct 0; have s1 : u9.cell? ⟨k4, 1, none⟩ = some (.int .i64 (f 0)) := blk_cell ct 1; have s2 : u9.cell? ⟨k4, 2, none⟩ = some (.int .i64 (f 1)) := blk_cell ct 2; have s3 : u9.cell? ⟨k4, 3, none⟩ = some (.int .i64 (f 2)) := blk_cell ct 3; have s4 : u9.cell? ⟨k4, 4, none⟩ = some (.int .i64 (f 3)) := blk_cell ct 4; have s5 : u9.cell? ⟨k4, 5, none⟩ = some (.slice a1 m1 c1) := blk_cell ct 5; have s6 : u9.cell? ⟨k4, 6, none⟩ = some (.slice a2 m2 c2) := blk_cell ct 6; have r0 : u9.cell? ⟨w.heap.size, 0, none⟩ = some (.int .i64 0) := blk_cell cr 0; have r1 : u9.cell? ⟨w.heap.size, 1, none⟩ = some (.int .i64 0) := blk_cell cr 1; have r2 : u9.cell? ⟨w.heap.size, 2, none⟩ = some (.int .i64 0) := blk_cell cr 2; have r3 : u9.cell? ⟨w.heap.size, 3, none⟩ = some (.int .i64 0) := blk_cell cr 3; have r4 : u9.cell? ⟨w.heap.size, 4, none⟩ = some (.int .i64 0) := blk_cell cr 4; have r5 : u9.cell? ⟨w.heap.size, 5, none⟩ = some (.slice none 0 0) := blk_cell cr 5; have r6 : u9.cell? ⟨w.heap.size, 6, none⟩ = some (.slice none 0 0) := blk_cell cr 6; have r7 : u9.cell? ⟨w.heap.size, 7, none⟩ = some (.int .i64 0) := blk_cell cr 7; have r8 : u9.cell? ⟨w.heap.size, 8, none⟩ = some (.int .i64 0) := blk_cell cr 8; have f0 := blk_free cr 0; have f1 := blk_free cr 1; have f2 := blk_free cr 2; have f3 := blk_free cr 3; have f4 := blk_free cr 4; have f5 := blk_free cr 5; have f6 := blk_free cr 6; have f7 := blk_free cr 7; have f8 := blk_free cr 8; have hr := lt_of_block cr; clear bx ct cr)
              all_goals
                go_wp2_with fail
                refine bodyPost_ret (v := .agg #[.int .i64 id, .int .i64 (f 0), .int .i64 (f 1), .int .i64 (f 2), .int .i64 (f 3), .slice a1 m1 c1, .slice a2 m2 c2, .int .i64 (endAt W W.length), .int .i64 0]) (by simp [results, Tryz.results25, go_sem, hr, r0, r1, r2, r3, r4, r5, r6, r7, r8]) rfl ?_
                exact rline_done H9.out HOK.out _ _ _ _ _ _ _ _ _
          | some z2 =>
            have huz : usAt W = numsOf z2 255 := by unfold usAt numsAt; rw [hp1, e8]; rfl
            cases e9 : numsOf z2 255 with
            | none =>
              have hp2 : plus2 W = 6 := by unfold plus2; rw [huz, e9, hp1]; rfl
              have hjl := val_lt e8
              have CNB : Hid (∀ v, Calls Tryz.prog 52 #[.string z2, .int .i64 255] v fun e w' => e = .returned (.tuple #[.slice none 0 0, .bool false]) ∧ Below v.heap.size v w') := fun v => ((e9 ▸ rnumbers_own z2 (HWZ.out _ _ _ e8) 255 v)).mono fun _ _ h => numso_none h
              clear huz e9 hp1
              go_upto_region 33 with (first
                | (go_at_call 51; (with_reducible refine (CVS.out 6 6 bUse _ _ rfl (by omega) e8 HU.out.low).mono ?_); rintro y ux ⟨rfl, bx⟩; have H6 := Lib.hid (HU.out.below bx); clear bx)
                | (go_at_call 52; (with_reducible refine (CNB.out _).mono ?_); rintro y uy ⟨rfl, bx⟩; have H7 := Lib.hid ((H6.out.below (by repeat (first | exact Below.refl _ _ | (with_reducible assumption) | refine bw_alloc ?_ _ | refine bw_drew ?_))).below bx); clear bx))
              have HB : Hid (lineOf W = .error (placeAt W 6)) := by show _ = _; rw [line_over e0 e1 n0 n1 n2 n3 (by rw [hp2]; exact hjl), hp2]
              go_wp2_with (go_at_call 48; (with_reducible refine (CW.out 6 6 _ rfl (by omega) H7.out.low).mono ?_); rintro y ux ⟨rfl, bx⟩; have BX := Lib.hid (below_up H7.out.low bx); have hx := kept_obj bx H7.out.res; have r0 : ux.cell? ⟨w.heap.size, 0, none⟩ = some (.int .i64 0) := blk_cell hx 0; have r1 : ux.cell? ⟨w.heap.size, 1, none⟩ = some (.int .i64 0) := blk_cell hx 1; have r2 : ux.cell? ⟨w.heap.size, 2, none⟩ = some (.int .i64 0) := blk_cell hx 2; have r3 : ux.cell? ⟨w.heap.size, 3, none⟩ = some (.int .i64 0) := blk_cell hx 3; have r4 : ux.cell? ⟨w.heap.size, 4, none⟩ = some (.int .i64 0) := blk_cell hx 4; have r5 : ux.cell? ⟨w.heap.size, 5, none⟩ = some (.slice none 0 0) := blk_cell hx 5; have r6 : ux.cell? ⟨w.heap.size, 6, none⟩ = some (.slice none 0 0) := blk_cell hx 6; have r7 : ux.cell? ⟨w.heap.size, 7, none⟩ = some (.int .i64 0) := blk_cell hx 7; have r8 : ux.cell? ⟨w.heap.size, 8, none⟩ = some (.int .i64 0) := blk_cell hx 8; have f0 := blk_free hx 0; have f1 := blk_free hx 1; have f2 := blk_free hx 2; have f3 := blk_free hx 3; have f4 := blk_free hx 4; have f5 := blk_free hx 5; have f6 := blk_free hx 6; have f7 := blk_free hx 7; have f8 := blk_free hx 8; have hr := lt_of_block hx; clear bx hx)
              exact bodyPost_ret (v := .agg #[.int .i64 0, .int .i64 0, .int .i64 0, .int .i64 0, .int .i64 0, .slice none 0 0, .slice none 0 0, .int .i64 (placeAt W 6), .int .i64 10]) (by simp [results, Tryz.results25, go_sem, hr, r0, r1, r2, r3, r4, r5, r6, r7, r8]) rfl (rline_bad HB.out (by repeat (first | with_reducible exact BX.out | refine Below.setCell ?_ (by simp) _)))
            | some l =>
              have hp2 : plus2 W = 7 := by unfold plus2; rw [huz, e9, hp1]; rfl
              obtain ⟨us, hus⟩ : ∃ us : List Int, (usAt W).getD [] = us := ⟨_, rfl⟩
              have hus0 : l = us := by rw [← hus, huz, e9]; rfl
              subst hus0
              have hll := numsOf_len e9
              have hzz := HWZ.out _ _ _ e8
              obtain ⟨m, hm⟩ : ∃ m, l.length = m := ⟨_, rfl⟩
              have hm9 : m ≤ 1050001 := by omega
              have CNB : Hid (∀ v, Calls Tryz.prog 52 #[.string z2, .int .i64 255] v fun e w' => ∃ a c, e = .returned (.tuple #[.slice a m c, .bool true]) ∧ OwnI w' 2 v.heap.size (.slice a m c) l ∧ Below v.heap.size v w') := fun v => ((e9 ▸ rnumbers_own z2 (HWZ.out _ _ _ e8) 255 v)).mono fun _ _ h => numso_some hm h
              have HLM := Lib.hid hm
              clear huz e9 hp1 hll hzz hm
              go_upto_region 34 with (first
                | (go_at_call 51; (with_reducible refine (CVS.out 6 6 bUse _ _ rfl (by omega) e8 HU.out.low).mono ?_); rintro y ux ⟨rfl, bx⟩; have H6 := Lib.hid (HU.out.below bx); clear bx)
                | (go_at_call 52; (with_reducible refine (CNB.out _).mono ?_); rintro y uy ⟨a3, c3, rfl, ox, bx⟩; have H7 := Lib.hid ((H6.out.below (by repeat (first | exact Below.refl _ _ | (with_reducible assumption) | refine bw_alloc ?_ _ | refine bw_drew ?_))).src bx ox (Nat.le_trans H6.out.low.size (((by repeat (first | exact Below.refl _ _ | (with_reducible assumption) | refine bw_alloc ?_ _ | refine bw_drew ?_)) : Below ux.heap.size ux _).size))); clear bx ox))
              clear CNB H6 HU e8
              go_wp2_with fail
              go_loopw [17] (fun u wr => ∃ (k : Nat) (a' : Option Addr) (cp' : Nat), k ≤ m ∧ u = .int .i64 k ∧ Hid (RSt w k4 id (f 0) (f 1) (f 2) (f 3) (.slice a1 m1 c1) ch (.slice a' k cp') (l.take k) (.slice a3 m c3) l wr)) (fun u _ => (m - intOf u).toNat)
              case atStart => exact ⟨0, none, 0, by omega, rfl, H7⟩
              case round =>
                obtain ⟨k, a', cp', hk, rfl, HP⟩ := hrel
                clear H7
                have b6 : wr.cell? ⟨k4, 6, none⟩ = some (.slice a' k cp') := by rw [blk_cell HP.out.box]; rfl
                by_cases hlt : k < m
                · obtain ⟨y, hy⟩ := nth_of HLM.out hlt
                  obtain ⟨g3, o3, rfl, z3⟩ := (HP.out.own3.ints).1.at_ hy
                  have hk1 : (k : Int) < (m : Int) := by omega
                  have hk0 : (0 : Int) ≤ (k : Int) := by omega
                  have HTL : Hid ((l.take k).length = k) := by show _ = _; rw [List.length_take, HLM.out]; omega
                  have HT2 : Hid (l.take k ++ [y] = l.take (k + 1)) := by show _ = _; rw [List.take_add_one, hy]; rfl
                  have HSM : Hid ((((l.take k).length : Int) + ((1 : Nat) : Int)) ≤ 17592186044416) := by show _ ≤ _; rw [HTL.out]; omega
                  have HNN : Hid ((l.take k).length + 1 = k + 1) := by show _ = _; rw [HTL.out]
                  have hkw := lt_of_block HP.out.box
                  clear hy
                  go_upto_region 37 with fail
                  go_region_law (refine step_ints (m := 1) (l := [y]) numI rfl (.tmp 124) (.tmp 129) rfl (by rfl) (by rfl) (HP.out.below (by repeat (first | exact Below.refl _ _ | (with_reducible assumption) | refine bw_alloc ?_ _ | refine bw_drew ?_))).own2 (Nat.le_trans (lt_of_block HP.out.box) (((by repeat (first | exact Below.refl _ _ | (with_reducible assumption) | refine bw_alloc ?_ _ | refine bw_drew ?_)) : Below wr.heap.size wr _).size)) (by first | exact ints_new _ _ _ | exact (ints_new _ _ _).below (by repeat (first | exact Below.refl _ _ | (with_reducible assumption) | refine bw_alloc ?_ _ | refine bw_drew ?_))) rfl HSM.out (fun z => by cases z) (k + 1) HNN.out ?_; intro a5 k5 w5 o5 g5 l5; obtain ⟨hn, y1, y2⟩ := (HP.out.below (by repeat (first | exact Below.refl _ _ | (with_reducible assumption) | refine bw_alloc ?_ _ | refine bw_drew ?_))).push g5 (HT2.out ▸ o5); have HNW := Lib.hid hn; clear hn o5 g5 l5)
                  all_goals
                    go_wp2_with fail
                    go_roundw
                    case rel => exact ⟨k + 1, a5, k5, by omega, by go_num, HNW⟩
                    case measure => simp [intOf]; omega
                · obtain rfl : m = k := by omega
                  have HT : Hid (l.take m = l) := by show _ = _; rw [← HLM.out, List.take_length]
                  have H8 : Hid (RSt w k4 id (f 0) (f 1) (f 2) (f 3) (.slice a1 m1 c1) ch (.slice a' m cp') l (.slice a3 m c3) l wr) := by
                    have q9 := HP.out
                    rw [HT.out] at q9
                    exact q9
                  clear HT HP b6 hlt hk
                  go_upto_region 39 with fail
                  obtain ⟨a2, m2, c2, hv2⟩ : ∃ (a2 : Option Addr) (m2 c2 : Nat), (Value.slice a' m cp') = .slice a2 m2 c2 := ⟨_, _, _, rfl⟩
                  rw [hv2] at H8
                  clear hv2
                  by_cases ho : 7 < n
                  · have d20 : (7 : Int) < (n : Int) := by omega
                    have HB : Hid (lineOf W = .error (placeAt W 7)) := by show _ = _; rw [line_over e0 e1 n0 n1 n2 n3 (by rw [hp2, HL.out]; exact ho), hp2]
                    go_wp2_with (go_at_call 48; (with_reducible refine (CW.out 7 7 _ rfl (by omega) H8.out.low).mono ?_); rintro y ux ⟨rfl, bx⟩; have BX := Lib.hid (below_up H8.out.low bx); have hx := kept_obj bx H8.out.res; have r0 : ux.cell? ⟨w.heap.size, 0, none⟩ = some (.int .i64 0) := blk_cell hx 0; have r1 : ux.cell? ⟨w.heap.size, 1, none⟩ = some (.int .i64 0) := blk_cell hx 1; have r2 : ux.cell? ⟨w.heap.size, 2, none⟩ = some (.int .i64 0) := blk_cell hx 2; have r3 : ux.cell? ⟨w.heap.size, 3, none⟩ = some (.int .i64 0) := blk_cell hx 3; have r4 : ux.cell? ⟨w.heap.size, 4, none⟩ = some (.int .i64 0) := blk_cell hx 4; have r5 : ux.cell? ⟨w.heap.size, 5, none⟩ = some (.slice none 0 0) := blk_cell hx 5; have r6 : ux.cell? ⟨w.heap.size, 6, none⟩ = some (.slice none 0 0) := blk_cell hx 6; have r7 : ux.cell? ⟨w.heap.size, 7, none⟩ = some (.int .i64 0) := blk_cell hx 7; have r8 : ux.cell? ⟨w.heap.size, 8, none⟩ = some (.int .i64 0) := blk_cell hx 8; have f0 := blk_free hx 0; have f1 := blk_free hx 1; have f2 := blk_free hx 2; have f3 := blk_free hx 3; have f4 := blk_free hx 4; have f5 := blk_free hx 5; have f6 := blk_free hx 6; have f7 := blk_free hx 7; have f8 := blk_free hx 8; have hr := lt_of_block hx; clear bx hx)
                    exact bodyPost_ret (v := .agg #[.int .i64 0, .int .i64 0, .int .i64 0, .int .i64 0, .int .i64 0, .slice none 0 0, .slice none 0 0, .int .i64 (placeAt W 7), .int .i64 10]) (by simp [results, Tryz.results25, go_sem, hr, r0, r1, r2, r3, r4, r5, r6, r7, r8]) rfl (rline_bad HB.out (by repeat (first | with_reducible exact BX.out | refine Below.setCell ?_ (by simp) _)))
                  · have d20 : ¬ (7 : Int) < (n : Int) := by omega
                    have HOK : Hid (lineOf W = .ok ⟨id, f 0, f 1, f 2, f 3, ch, l⟩) := by show _ = _; rw [line_ok e0 e1 n0 n1 n2 n3 (by rw [hp2, HL.out]; exact ho), hch, hus]
                    clear ho hp2 hch hus
                    go_upto_region 41 with fail
                    have cb := H8.out.box
                    have p0 : _root_.Go.World.cell? _ ⟨k4, 0, none⟩ = some (.int .i64 id) := blk_cell cb 0
                    have p1 : _root_.Go.World.cell? _ ⟨k4, 1, none⟩ = some (.int .i64 (f 0)) := blk_cell cb 1
                    have p2 : _root_.Go.World.cell? _ ⟨k4, 2, none⟩ = some (.int .i64 (f 1)) := blk_cell cb 2
                    have p3 : _root_.Go.World.cell? _ ⟨k4, 3, none⟩ = some (.int .i64 (f 2)) := blk_cell cb 3
                    have p4 : _root_.Go.World.cell? _ ⟨k4, 4, none⟩ = some (.int .i64 (f 3)) := blk_cell cb 4
                    have p5 : _root_.Go.World.cell? _ ⟨k4, 5, none⟩ = some (.slice a1 m1 c1) := blk_cell cb 5
                    have p6 : _root_.Go.World.cell? _ ⟨k4, 6, none⟩ = some (.slice a2 m2 c2) := blk_cell cb 6
                    clear cb
                    go_region_law (go_simp; (with_reducible refine (CE.out _ (below_up H8.out.low (by repeat (first | exact Below.refl _ _ | (with_reducible assumption) | refine bw_alloc ?_ _ | refine bw_drew ?_)))).mono ?_); rintro y u9 ⟨rfl, bx⟩; have H9 := Lib.hid ((H8.out.below (by repeat (first | exact Below.refl _ _ | (with_reducible assumption) | refine bw_alloc ?_ _ | refine bw_drew ?_))).below bx); have ct := H9.out.box; have cr := H9.out.res; have s0 : u9.cell? ⟨k4, 0, none⟩ = some (.int .i64 id) := blk_cell ct 0; have s1 : u9.cell? ⟨k4, 1, none⟩ = some (.int .i64 (f 0)) := blk_cell ct 1; have s2 : u9.cell? ⟨k4, 2, none⟩ = some (.int .i64 (f 1)) := blk_cell ct 2; have s3 : u9.cell? ⟨k4, 3, none⟩ = some (.int .i64 (f 2)) := blk_cell ct 3; have s4 : u9.cell? ⟨k4, 4, none⟩ = some (.int .i64 (f 3)) := blk_cell ct 4; have s5 : u9.cell? ⟨k4, 5, none⟩ = some (.slice a1 m1 c1) := blk_cell ct 5; have s6 : u9.cell? ⟨k4, 6, none⟩ = some (.slice a2 m2 c2) := blk_cell ct 6; have r0 : u9.cell? ⟨w.heap.size, 0, none⟩ = some (.int .i64 0) := blk_cell cr 0; have r1 : u9.cell? ⟨w.heap.size, 1, none⟩ = some (.int .i64 0) := blk_cell cr 1; have r2 : u9.cell? ⟨w.heap.size, 2, none⟩ = some (.int .i64 0) := blk_cell cr 2; have r3 : u9.cell? ⟨w.heap.size, 3, none⟩ = some (.int .i64 0) := blk_cell cr 3; have r4 : u9.cell? ⟨w.heap.size, 4, none⟩ = some (.int .i64 0) := blk_cell cr 4; have r5 : u9.cell? ⟨w.heap.size, 5, none⟩ = some (.slice none 0 0) := blk_cell cr 5; have r6 : u9.cell? ⟨w.heap.size, 6, none⟩ = some (.slice none 0 0) := blk_cell cr 6; have r7 : u9.cell? ⟨w.heap.size, 7, none⟩ = some (.int .i64 0) := blk_cell cr 7; have r8 : u9.cell? ⟨w.heap.size, 8, none⟩ = some (.int .i64 0) := blk_cell cr 8; have f0 := blk_free cr 0; have f1 := blk_free cr 1; have f2 := blk_free cr 2; have f3 := blk_free cr 3; have f4 := blk_free cr 4; have f5 := blk_free cr 5; have f6 := blk_free cr 6; have f7 := blk_free cr 7; have f8 := blk_free cr 8; have hr := lt_of_block cr; clear bx ct cr)
                    all_goals
                      go_wp2_with fail
                      refine bodyPost_ret (v := .agg #[.int .i64 id, .int .i64 (f 0), .int .i64 (f 1), .int .i64 (f 2), .int .i64 (f 3), .slice a1 m1 c1, .slice a2 m2 c2, .int .i64 (endAt W W.length), .int .i64 0]) (by simp [results, Tryz.results25, go_sem, hr, r0, r1, r2, r3, r4, r5, r6, r7, r8]) rfl ?_
                      exact rline_done H9.out HOK.out _ _ _ _ _ _ _ _ _
          
        | some z =>
          have hcz : chAt W = numsOf z 1073741824 := by unfold chAt numsAt; rw [e6]; rfl
          cases e7 : numsOf z 1073741824 with
          | none =>
            have hp1 : plus1 W = 6 := by unfold plus1; rw [hcz, e7]; rfl
            have hu0 : usAt W = none := by unfold usAt numsAt; rw [hp1, val_apart e6]; rfl
            have hp2 : plus2 W = 6 := by unfold plus2; rw [hu0, hp1]; rfl
            have hjl := val_lt e6
            have CNB : Hid (∀ v, Calls Tryz.prog 52 #[.string z, .int .i64 1073741824] v fun e w' => e = .returned (.tuple #[.slice none 0 0, .bool false]) ∧ Below v.heap.size v w') := fun v => ((e7 ▸ rnumbers_own z (HWZ.out _ _ _ e6) 1073741824 v)).mono fun _ _ h => numso_none h
            clear hcz e7 hp1 hu0
            go_upto_region 26 with (first
              | (go_at_call 51; (with_reducible refine (CVS.out 6 6 bChunks _ _ rfl (by omega) e6 H5.out.low).mono ?_); rintro y ux ⟨rfl, bx⟩; have H6 := Lib.hid (H5.out.below bx); clear bx)
              | (go_at_call 52; (with_reducible refine (CNB.out _).mono ?_); rintro y uy ⟨rfl, bx⟩; have H7 := Lib.hid ((H6.out.below (by repeat (first | exact Below.refl _ _ | (with_reducible assumption) | refine bw_alloc ?_ _ | refine bw_drew ?_))).below bx); clear bx))
            have HB : Hid (lineOf W = .error (placeAt W 6)) := by show _ = _; rw [line_over e0 e1 n0 n1 n2 n3 (by rw [hp2]; exact hjl), hp2]
            go_wp2_with (go_at_call 48; (with_reducible refine (CW.out 6 6 _ rfl (by omega) H7.out.low).mono ?_); rintro y ux ⟨rfl, bx⟩; have BX := Lib.hid (below_up H7.out.low bx); have hx := kept_obj bx H7.out.res; have r0 : ux.cell? ⟨w.heap.size, 0, none⟩ = some (.int .i64 0) := blk_cell hx 0; have r1 : ux.cell? ⟨w.heap.size, 1, none⟩ = some (.int .i64 0) := blk_cell hx 1; have r2 : ux.cell? ⟨w.heap.size, 2, none⟩ = some (.int .i64 0) := blk_cell hx 2; have r3 : ux.cell? ⟨w.heap.size, 3, none⟩ = some (.int .i64 0) := blk_cell hx 3; have r4 : ux.cell? ⟨w.heap.size, 4, none⟩ = some (.int .i64 0) := blk_cell hx 4; have r5 : ux.cell? ⟨w.heap.size, 5, none⟩ = some (.slice none 0 0) := blk_cell hx 5; have r6 : ux.cell? ⟨w.heap.size, 6, none⟩ = some (.slice none 0 0) := blk_cell hx 6; have r7 : ux.cell? ⟨w.heap.size, 7, none⟩ = some (.int .i64 0) := blk_cell hx 7; have r8 : ux.cell? ⟨w.heap.size, 8, none⟩ = some (.int .i64 0) := blk_cell hx 8; have f0 := blk_free hx 0; have f1 := blk_free hx 1; have f2 := blk_free hx 2; have f3 := blk_free hx 3; have f4 := blk_free hx 4; have f5 := blk_free hx 5; have f6 := blk_free hx 6; have f7 := blk_free hx 7; have f8 := blk_free hx 8; have hr := lt_of_block hx; clear bx hx)
            exact bodyPost_ret (v := .agg #[.int .i64 0, .int .i64 0, .int .i64 0, .int .i64 0, .int .i64 0, .slice none 0 0, .slice none 0 0, .int .i64 (placeAt W 6), .int .i64 10]) (by simp [results, Tryz.results25, go_sem, hr, r0, r1, r2, r3, r4, r5, r6, r7, r8]) rfl (rline_bad HB.out (by repeat (first | with_reducible exact BX.out | refine Below.setCell ?_ (by simp) _)))
          | some q =>
            have hp1 : plus1 W = 7 := by unfold plus1; rw [hcz, e7]; rfl
            obtain ⟨ch, hch⟩ : ∃ ch : List Int, (chAt W).getD [] = ch := ⟨_, rfl⟩
            have hch0 : q = ch := by rw [← hch, hcz, e7]; rfl
            subst hch0
            obtain ⟨m, hm⟩ : ∃ m, q.length = m := ⟨_, rfl⟩
            have CNB : Hid (∀ v, Calls Tryz.prog 52 #[.string z, .int .i64 1073741824] v fun e w' => ∃ a c, e = .returned (.tuple #[.slice a m c, .bool true]) ∧ OwnI w' 2 v.heap.size (.slice a m c) q ∧ Below v.heap.size v w') := fun v => ((e7 ▸ rnumbers_own z (HWZ.out _ _ _ e6) 1073741824 v)).mono fun _ _ h => numso_some hm h
            clear hcz e7 hm
            go_upto_region 27 with (first
              | (go_at_call 51; (with_reducible refine (CVS.out 6 6 bChunks _ _ rfl (by omega) e6 H5.out.low).mono ?_); rintro y ux ⟨rfl, bx⟩; have H6 := Lib.hid (H5.out.below bx); clear bx)
              | (go_at_call 52; (with_reducible refine (CNB.out _).mono ?_); rintro y uy ⟨a3, c3, rfl, ox, bx⟩; have H7 := Lib.hid ((H6.out.below (by repeat (first | exact Below.refl _ _ | (with_reducible assumption) | refine bw_alloc ?_ _ | refine bw_drew ?_))).src bx ox (Nat.le_trans H6.out.low.size (((by repeat (first | exact Below.refl _ _ | (with_reducible assumption) | refine bw_alloc ?_ _ | refine bw_drew ?_)) : Below ux.heap.size ux _).size))); clear bx ox))
            have b5 : uy.cell? ⟨k4, 5, none⟩ = some (.slice none 0 0) := by rw [blk_cell H7.out.box]; rfl
            have b5f := blk_free H7.out.box 5
            have b5l := lt_of_block H7.out.box
            have H8c := Lib.hid H7.out.chunks
            clear CNB H6 H5 e6 H7
            go_upto_region 29 with fail
            refine gen_world (RSt w k4 id (f 0) (f 1) (f 2) (f 3) (.slice a3 m c3) q (.slice none 0 0) [] (.slice a3 m c3) q) H8c.out ?_
            intro u8 h8
            have H8a : Hid (∃ (a1 : Option Addr) (m1 c1 : Nat) (v3 : Value), RSt w k4 id (f 0) (f 1) (f 2) (f 3) (.slice a1 m1 c1) q (.slice none 0 0) [] v3 q u8) := ⟨_, _, _, _, h8⟩
            clear h8 H8c b5 b5f b5l
            obtain ⟨a1, m1, c1, v3, h8⟩ := H8a.out
            have HU := Lib.hid h8
            clear h8 H8a
            cases e8 : valAt W 7 bUse with
            | none =>
              have hu0 : usAt W = none := by unfold usAt numsAt; rw [hp1, e8]; rfl
              have hp2 : plus2 W = 7 := by unfold plus2; rw [hu0, hp1]; rfl
              obtain ⟨us, hus⟩ : ∃ us : List Int, (usAt W).getD [] = us := ⟨_, rfl⟩
              have hus0 : us = [] := by rw [← hus, hu0]; rfl
              clear hu0 hp1
              go_upto_region 39 with (go_at_call 51; (with_reducible refine (CVN.out 7 7 bUse _ rfl (by omega) e8 HU.out.low).mono ?_); rintro y ux ⟨rfl, bx⟩; have H6 := Lib.hid (HU.out.below bx); clear bx)
              have H6b := Lib.hid (H6.out.below (bw_alloc (Below.refl _ _) (.cells #[.string ⟨#[]⟩, .string ⟨#[]⟩, .bool false] TwoT)))
              clear H6 HU e8
              refine gen_world (RSt w k4 id (f 0) (f 1) (f 2) (f 3) (.slice a1 m1 c1) q (.slice none 0 0) [] v3 q) H6b.out ?_
              intro u10 h10
              have H8a : Hid (∃ (a2 : Option Addr) (m2 c2 : Nat), RSt w k4 id (f 0) (f 1) (f 2) (f 3) (.slice a1 m1 c1) q (.slice a2 m2 c2) us v3 q u10) := ⟨none, 0, 0, hus0 ▸ h10⟩
              clear h10 H6b hus0
              obtain ⟨a2, m2, c2, h10⟩ := H8a.out
              have H8 := Lib.hid h10
              clear h10 H8a
              by_cases ho : 7 < n
              · have d20 : (7 : Int) < (n : Int) := by omega
                have HB : Hid (lineOf W = .error (placeAt W 7)) := by show _ = _; rw [line_over e0 e1 n0 n1 n2 n3 (by rw [hp2, HL.out]; exact ho), hp2]
                go_wp2_with (go_at_call 48; (with_reducible refine (CW.out 7 7 _ rfl (by omega) H8.out.low).mono ?_); rintro y ux ⟨rfl, bx⟩; have BX := Lib.hid (below_up H8.out.low bx); have hx := kept_obj bx H8.out.res; have r0 : ux.cell? ⟨w.heap.size, 0, none⟩ = some (.int .i64 0) := blk_cell hx 0; have r1 : ux.cell? ⟨w.heap.size, 1, none⟩ = some (.int .i64 0) := blk_cell hx 1; have r2 : ux.cell? ⟨w.heap.size, 2, none⟩ = some (.int .i64 0) := blk_cell hx 2; have r3 : ux.cell? ⟨w.heap.size, 3, none⟩ = some (.int .i64 0) := blk_cell hx 3; have r4 : ux.cell? ⟨w.heap.size, 4, none⟩ = some (.int .i64 0) := blk_cell hx 4; have r5 : ux.cell? ⟨w.heap.size, 5, none⟩ = some (.slice none 0 0) := blk_cell hx 5; have r6 : ux.cell? ⟨w.heap.size, 6, none⟩ = some (.slice none 0 0) := blk_cell hx 6; have r7 : ux.cell? ⟨w.heap.size, 7, none⟩ = some (.int .i64 0) := blk_cell hx 7; have r8 : ux.cell? ⟨w.heap.size, 8, none⟩ = some (.int .i64 0) := blk_cell hx 8; have f0 := blk_free hx 0; have f1 := blk_free hx 1; have f2 := blk_free hx 2; have f3 := blk_free hx 3; have f4 := blk_free hx 4; have f5 := blk_free hx 5; have f6 := blk_free hx 6; have f7 := blk_free hx 7; have f8 := blk_free hx 8; have hr := lt_of_block hx; clear bx hx)
                exact bodyPost_ret (v := .agg #[.int .i64 0, .int .i64 0, .int .i64 0, .int .i64 0, .int .i64 0, .slice none 0 0, .slice none 0 0, .int .i64 (placeAt W 7), .int .i64 10]) (by simp [results, Tryz.results25, go_sem, hr, r0, r1, r2, r3, r4, r5, r6, r7, r8]) rfl (rline_bad HB.out (by repeat (first | with_reducible exact BX.out | refine Below.setCell ?_ (by simp) _)))
              · have d20 : ¬ (7 : Int) < (n : Int) := by omega
                have HOK : Hid (lineOf W = .ok ⟨id, f 0, f 1, f 2, f 3, q, us⟩) := by show _ = _; rw [line_ok e0 e1 n0 n1 n2 n3 (by rw [hp2, HL.out]; exact ho), hch, hus]
                clear ho hp2 hch hus
                go_upto_region 41 with fail
                have cb := H8.out.box
                have p0 : _root_.Go.World.cell? _ ⟨k4, 0, none⟩ = some (.int .i64 id) := blk_cell cb 0
                have p1 : _root_.Go.World.cell? _ ⟨k4, 1, none⟩ = some (.int .i64 (f 0)) := blk_cell cb 1
                have p2 : _root_.Go.World.cell? _ ⟨k4, 2, none⟩ = some (.int .i64 (f 1)) := blk_cell cb 2
                have p3 : _root_.Go.World.cell? _ ⟨k4, 3, none⟩ = some (.int .i64 (f 2)) := blk_cell cb 3
                have p4 : _root_.Go.World.cell? _ ⟨k4, 4, none⟩ = some (.int .i64 (f 3)) := blk_cell cb 4
                have p5 : _root_.Go.World.cell? _ ⟨k4, 5, none⟩ = some (.slice a1 m1 c1) := blk_cell cb 5
                have p6 : _root_.Go.World.cell? _ ⟨k4, 6, none⟩ = some (.slice a2 m2 c2) := blk_cell cb 6
                clear cb
                go_region_law (go_simp; (with_reducible refine (CE.out _ (below_up H8.out.low (by repeat (first | exact Below.refl _ _ | (with_reducible assumption) | refine bw_alloc ?_ _ | refine bw_drew ?_)))).mono ?_); rintro y u9 ⟨rfl, bx⟩; have H9 := Lib.hid ((H8.out.below (by repeat (first | exact Below.refl _ _ | (with_reducible assumption) | refine bw_alloc ?_ _ | refine bw_drew ?_))).below bx); have ct := H9.out.box; have cr := H9.out.res; have s0 : u9.cell? ⟨k4, 0, none⟩ = some (.int .i64 id) := blk_cell ct 0; have s1 : u9.cell? ⟨k4, 1, none⟩ = some (.int .i64 (f 0)) := blk_cell ct 1; have s2 : u9.cell? ⟨k4, 2, none⟩ = some (.int .i64 (f 1)) := blk_cell ct 2; have s3 : u9.cell? ⟨k4, 3, none⟩ = some (.int .i64 (f 2)) := blk_cell ct 3; have s4 : u9.cell? ⟨k4, 4, none⟩ = some (.int .i64 (f 3)) := blk_cell ct 4; have s5 : u9.cell? ⟨k4, 5, none⟩ = some (.slice a1 m1 c1) := blk_cell ct 5; have s6 : u9.cell? ⟨k4, 6, none⟩ = some (.slice a2 m2 c2) := blk_cell ct 6; have r0 : u9.cell? ⟨w.heap.size, 0, none⟩ = some (.int .i64 0) := blk_cell cr 0; have r1 : u9.cell? ⟨w.heap.size, 1, none⟩ = some (.int .i64 0) := blk_cell cr 1; have r2 : u9.cell? ⟨w.heap.size, 2, none⟩ = some (.int .i64 0) := blk_cell cr 2; have r3 : u9.cell? ⟨w.heap.size, 3, none⟩ = some (.int .i64 0) := blk_cell cr 3; have r4 : u9.cell? ⟨w.heap.size, 4, none⟩ = some (.int .i64 0) := blk_cell cr 4; have r5 : u9.cell? ⟨w.heap.size, 5, none⟩ = some (.slice none 0 0) := blk_cell cr 5; have r6 : u9.cell? ⟨w.heap.size, 6, none⟩ = some (.slice none 0 0) := blk_cell cr 6; have r7 : u9.cell? ⟨w.heap.size, 7, none⟩ = some (.int .i64 0) := blk_cell cr 7; have r8 : u9.cell? ⟨w.heap.size, 8, none⟩ = some (.int .i64 0) := blk_cell cr 8; have f0 := blk_free cr 0; have f1 := blk_free cr 1; have f2 := blk_free cr 2; have f3 := blk_free cr 3; have f4 := blk_free cr 4; have f5 := blk_free cr 5; have f6 := blk_free cr 6; have f7 := blk_free cr 7; have f8 := blk_free cr 8; have hr := lt_of_block cr; clear bx ct cr)
                all_goals
                  go_wp2_with fail
                  refine bodyPost_ret (v := .agg #[.int .i64 id, .int .i64 (f 0), .int .i64 (f 1), .int .i64 (f 2), .int .i64 (f 3), .slice a1 m1 c1, .slice a2 m2 c2, .int .i64 (endAt W W.length), .int .i64 0]) (by simp [results, Tryz.results25, go_sem, hr, r0, r1, r2, r3, r4, r5, r6, r7, r8]) rfl ?_
                  exact rline_done H9.out HOK.out _ _ _ _ _ _ _ _ _
            | some z2 =>
              have huz : usAt W = numsOf z2 255 := by unfold usAt numsAt; rw [hp1, e8]; rfl
              cases e9 : numsOf z2 255 with
              | none =>
                have hp2 : plus2 W = 7 := by unfold plus2; rw [huz, e9, hp1]; rfl
                have hjl := val_lt e8
                have CNB : Hid (∀ v, Calls Tryz.prog 52 #[.string z2, .int .i64 255] v fun e w' => e = .returned (.tuple #[.slice none 0 0, .bool false]) ∧ Below v.heap.size v w') := fun v => ((e9 ▸ rnumbers_own z2 (HWZ.out _ _ _ e8) 255 v)).mono fun _ _ h => numso_none h
                clear huz e9 hp1
                go_upto_region 33 with (first
                  | (go_at_call 51; (with_reducible refine (CVS.out 7 7 bUse _ _ rfl (by omega) e8 HU.out.low).mono ?_); rintro y ux ⟨rfl, bx⟩; have H6 := Lib.hid (HU.out.below bx); clear bx)
                  | (go_at_call 52; (with_reducible refine (CNB.out _).mono ?_); rintro y uy ⟨rfl, bx⟩; have H7 := Lib.hid ((H6.out.below (by repeat (first | exact Below.refl _ _ | (with_reducible assumption) | refine bw_alloc ?_ _ | refine bw_drew ?_))).below bx); clear bx))
                have HB : Hid (lineOf W = .error (placeAt W 7)) := by show _ = _; rw [line_over e0 e1 n0 n1 n2 n3 (by rw [hp2]; exact hjl), hp2]
                go_wp2_with (go_at_call 48; (with_reducible refine (CW.out 7 7 _ rfl (by omega) H7.out.low).mono ?_); rintro y ux ⟨rfl, bx⟩; have BX := Lib.hid (below_up H7.out.low bx); have hx := kept_obj bx H7.out.res; have r0 : ux.cell? ⟨w.heap.size, 0, none⟩ = some (.int .i64 0) := blk_cell hx 0; have r1 : ux.cell? ⟨w.heap.size, 1, none⟩ = some (.int .i64 0) := blk_cell hx 1; have r2 : ux.cell? ⟨w.heap.size, 2, none⟩ = some (.int .i64 0) := blk_cell hx 2; have r3 : ux.cell? ⟨w.heap.size, 3, none⟩ = some (.int .i64 0) := blk_cell hx 3; have r4 : ux.cell? ⟨w.heap.size, 4, none⟩ = some (.int .i64 0) := blk_cell hx 4; have r5 : ux.cell? ⟨w.heap.size, 5, none⟩ = some (.slice none 0 0) := blk_cell hx 5; have r6 : ux.cell? ⟨w.heap.size, 6, none⟩ = some (.slice none 0 0) := blk_cell hx 6; have r7 : ux.cell? ⟨w.heap.size, 7, none⟩ = some (.int .i64 0) := blk_cell hx 7; have r8 : ux.cell? ⟨w.heap.size, 8, none⟩ = some (.int .i64 0) := blk_cell hx 8; have f0 := blk_free hx 0; have f1 := blk_free hx 1; have f2 := blk_free hx 2; have f3 := blk_free hx 3; have f4 := blk_free hx 4; have f5 := blk_free hx 5; have f6 := blk_free hx 6; have f7 := blk_free hx 7; have f8 := blk_free hx 8; have hr := lt_of_block hx; clear bx hx)
                exact bodyPost_ret (v := .agg #[.int .i64 0, .int .i64 0, .int .i64 0, .int .i64 0, .int .i64 0, .slice none 0 0, .slice none 0 0, .int .i64 (placeAt W 7), .int .i64 10]) (by simp [results, Tryz.results25, go_sem, hr, r0, r1, r2, r3, r4, r5, r6, r7, r8]) rfl (rline_bad HB.out (by repeat (first | with_reducible exact BX.out | refine Below.setCell ?_ (by simp) _)))
              | some l =>
                have hp2 : plus2 W = 8 := by unfold plus2; rw [huz, e9, hp1]; rfl
                obtain ⟨us, hus⟩ : ∃ us : List Int, (usAt W).getD [] = us := ⟨_, rfl⟩
                have hus0 : l = us := by rw [← hus, huz, e9]; rfl
                subst hus0
                have hll := numsOf_len e9
                have hzz := HWZ.out _ _ _ e8
                obtain ⟨m, hm⟩ : ∃ m, l.length = m := ⟨_, rfl⟩
                have hm9 : m ≤ 1050001 := by omega
                have CNB : Hid (∀ v, Calls Tryz.prog 52 #[.string z2, .int .i64 255] v fun e w' => ∃ a c, e = .returned (.tuple #[.slice a m c, .bool true]) ∧ OwnI w' 2 v.heap.size (.slice a m c) l ∧ Below v.heap.size v w') := fun v => ((e9 ▸ rnumbers_own z2 (HWZ.out _ _ _ e8) 255 v)).mono fun _ _ h => numso_some hm h
                have HLM := Lib.hid hm
                clear huz e9 hp1 hll hzz hm
                go_upto_region 34 with (first
                  | (go_at_call 51; (with_reducible refine (CVS.out 7 7 bUse _ _ rfl (by omega) e8 HU.out.low).mono ?_); rintro y ux ⟨rfl, bx⟩; have H6 := Lib.hid (HU.out.below bx); clear bx)
                  | (go_at_call 52; (with_reducible refine (CNB.out _).mono ?_); rintro y uy ⟨a3, c3, rfl, ox, bx⟩; have H7 := Lib.hid ((H6.out.below (by repeat (first | exact Below.refl _ _ | (with_reducible assumption) | refine bw_alloc ?_ _ | refine bw_drew ?_))).src bx ox (Nat.le_trans H6.out.low.size (((by repeat (first | exact Below.refl _ _ | (with_reducible assumption) | refine bw_alloc ?_ _ | refine bw_drew ?_)) : Below ux.heap.size ux _).size))); clear bx ox))
                clear CNB H6 HU e8
                go_wp2_with fail
                go_loopw [17] (fun u wr => ∃ (k : Nat) (a' : Option Addr) (cp' : Nat), k ≤ m ∧ u = .int .i64 k ∧ Hid (RSt w k4 id (f 0) (f 1) (f 2) (f 3) (.slice a1 m1 c1) q (.slice a' k cp') (l.take k) (.slice a3 m c3) l wr)) (fun u _ => (m - intOf u).toNat)
                case atStart => exact ⟨0, none, 0, by omega, rfl, H7⟩
                case round =>
                  obtain ⟨k, a', cp', hk, rfl, HP⟩ := hrel
                  clear H7
                  have b6 : wr.cell? ⟨k4, 6, none⟩ = some (.slice a' k cp') := by rw [blk_cell HP.out.box]; rfl
                  by_cases hlt : k < m
                  · obtain ⟨y, hy⟩ := nth_of HLM.out hlt
                    obtain ⟨g3, o3, rfl, z3⟩ := (HP.out.own3.ints).1.at_ hy
                    have hk1 : (k : Int) < (m : Int) := by omega
                    have hk0 : (0 : Int) ≤ (k : Int) := by omega
                    have HTL : Hid ((l.take k).length = k) := by show _ = _; rw [List.length_take, HLM.out]; omega
                    have HT2 : Hid (l.take k ++ [y] = l.take (k + 1)) := by show _ = _; rw [List.take_add_one, hy]; rfl
                    have HSM : Hid ((((l.take k).length : Int) + ((1 : Nat) : Int)) ≤ 17592186044416) := by show _ ≤ _; rw [HTL.out]; omega
                    have HNN : Hid ((l.take k).length + 1 = k + 1) := by show _ = _; rw [HTL.out]
                    have hkw := lt_of_block HP.out.box
                    clear hy
                    go_upto_region 37 with fail
                    go_region_law (refine step_ints (m := 1) (l := [y]) numI rfl (.tmp 124) (.tmp 129) rfl (by rfl) (by rfl) (HP.out.below (by repeat (first | exact Below.refl _ _ | (with_reducible assumption) | refine bw_alloc ?_ _ | refine bw_drew ?_))).own2 (Nat.le_trans (lt_of_block HP.out.box) (((by repeat (first | exact Below.refl _ _ | (with_reducible assumption) | refine bw_alloc ?_ _ | refine bw_drew ?_)) : Below wr.heap.size wr _).size)) (by first | exact ints_new _ _ _ | exact (ints_new _ _ _).below (by repeat (first | exact Below.refl _ _ | (with_reducible assumption) | refine bw_alloc ?_ _ | refine bw_drew ?_))) rfl HSM.out (fun z => by cases z) (k + 1) HNN.out ?_; intro a5 k5 w5 o5 g5 l5; obtain ⟨hn, y1, y2⟩ := (HP.out.below (by repeat (first | exact Below.refl _ _ | (with_reducible assumption) | refine bw_alloc ?_ _ | refine bw_drew ?_))).push g5 (HT2.out ▸ o5); have HNW := Lib.hid hn; clear hn o5 g5 l5)
                    all_goals
                      go_wp2_with fail
                      go_roundw
                      case rel => exact ⟨k + 1, a5, k5, by omega, by go_num, HNW⟩
                      case measure => simp [intOf]; omega
                  · obtain rfl : m = k := by omega
                    have HT : Hid (l.take m = l) := by show _ = _; rw [← HLM.out, List.take_length]
                    have H8 : Hid (RSt w k4 id (f 0) (f 1) (f 2) (f 3) (.slice a1 m1 c1) q (.slice a' m cp') l (.slice a3 m c3) l wr) := by
                      have q9 := HP.out
                      rw [HT.out] at q9
                      exact q9
                    clear HT HP b6 hlt hk
                    go_upto_region 39 with fail
                    obtain ⟨a2, m2, c2, hv2⟩ : ∃ (a2 : Option Addr) (m2 c2 : Nat), (Value.slice a' m cp') = .slice a2 m2 c2 := ⟨_, _, _, rfl⟩
                    rw [hv2] at H8
                    clear hv2
                    by_cases ho : 8 < n
                    · have d20 : (8 : Int) < (n : Int) := by omega
                      have HB : Hid (lineOf W = .error (placeAt W 8)) := by show _ = _; rw [line_over e0 e1 n0 n1 n2 n3 (by rw [hp2, HL.out]; exact ho), hp2]
                      go_wp2_with (go_at_call 48; (with_reducible refine (CW.out 8 8 _ rfl (by omega) H8.out.low).mono ?_); rintro y ux ⟨rfl, bx⟩; have BX := Lib.hid (below_up H8.out.low bx); have hx := kept_obj bx H8.out.res; have r0 : ux.cell? ⟨w.heap.size, 0, none⟩ = some (.int .i64 0) := blk_cell hx 0; have r1 : ux.cell? ⟨w.heap.size, 1, none⟩ = some (.int .i64 0) := blk_cell hx 1; have r2 : ux.cell? ⟨w.heap.size, 2, none⟩ = some (.int .i64 0) := blk_cell hx 2; have r3 : ux.cell? ⟨w.heap.size, 3, none⟩ = some (.int .i64 0) := blk_cell hx 3; have r4 : ux.cell? ⟨w.heap.size, 4, none⟩ = some (.int .i64 0) := blk_cell hx 4; have r5 : ux.cell? ⟨w.heap.size, 5, none⟩ = some (.slice none 0 0) := blk_cell hx 5; have r6 : ux.cell? ⟨w.heap.size, 6, none⟩ = some (.slice none 0 0) := blk_cell hx 6; have r7 : ux.cell? ⟨w.heap.size, 7, none⟩ = some (.int .i64 0) := blk_cell hx 7; have r8 : ux.cell? ⟨w.heap.size, 8, none⟩ = some (.int .i64 0) := blk_cell hx 8; have f0 := blk_free hx 0; have f1 := blk_free hx 1; have f2 := blk_free hx 2; have f3 := blk_free hx 3; have f4 := blk_free hx 4; have f5 := blk_free hx 5; have f6 := blk_free hx 6; have f7 := blk_free hx 7; have f8 := blk_free hx 8; have hr := lt_of_block hx; clear bx hx)
                      exact bodyPost_ret (v := .agg #[.int .i64 0, .int .i64 0, .int .i64 0, .int .i64 0, .int .i64 0, .slice none 0 0, .slice none 0 0, .int .i64 (placeAt W 8), .int .i64 10]) (by simp [results, Tryz.results25, go_sem, hr, r0, r1, r2, r3, r4, r5, r6, r7, r8]) rfl (rline_bad HB.out (by repeat (first | with_reducible exact BX.out | refine Below.setCell ?_ (by simp) _)))
                    · have d20 : ¬ (8 : Int) < (n : Int) := by omega
                      have HOK : Hid (lineOf W = .ok ⟨id, f 0, f 1, f 2, f 3, q, l⟩) := by show _ = _; rw [line_ok e0 e1 n0 n1 n2 n3 (by rw [hp2, HL.out]; exact ho), hch, hus]
                      clear ho hp2 hch hus
                      go_upto_region 41 with fail
                      have cb := H8.out.box
                      have p0 : _root_.Go.World.cell? _ ⟨k4, 0, none⟩ = some (.int .i64 id) := blk_cell cb 0
                      have p1 : _root_.Go.World.cell? _ ⟨k4, 1, none⟩ = some (.int .i64 (f 0)) := blk_cell cb 1
                      have p2 : _root_.Go.World.cell? _ ⟨k4, 2, none⟩ = some (.int .i64 (f 1)) := blk_cell cb 2
                      have p3 : _root_.Go.World.cell? _ ⟨k4, 3, none⟩ = some (.int .i64 (f 2)) := blk_cell cb 3
                      have p4 : _root_.Go.World.cell? _ ⟨k4, 4, none⟩ = some (.int .i64 (f 3)) := blk_cell cb 4
                      have p5 : _root_.Go.World.cell? _ ⟨k4, 5, none⟩ = some (.slice a1 m1 c1) := blk_cell cb 5
                      have p6 : _root_.Go.World.cell? _ ⟨k4, 6, none⟩ = some (.slice a2 m2 c2) := blk_cell cb 6
                      clear cb
                      go_region_law (go_simp; (with_reducible refine (CE.out _ (below_up H8.out.low (by repeat (first | exact Below.refl _ _ | (with_reducible assumption) | refine bw_alloc ?_ _ | refine bw_drew ?_)))).mono ?_); rintro y u9 ⟨rfl, bx⟩; have H9 := Lib.hid ((H8.out.below (by repeat (first | exact Below.refl _ _ | (with_reducible assumption) | refine bw_alloc ?_ _ | refine bw_drew ?_))).below bx); have ct := H9.out.box; have cr := H9.out.res; have s0 : u9.cell? ⟨k4, 0, none⟩ = some (.int .i64 id) := blk_cell ct 0; have s1 : u9.cell? ⟨k4, 1, none⟩ = some (.int .i64 (f 0)) := blk_cell ct 1; have s2 : u9.cell? ⟨k4, 2, none⟩ = some (.int .i64 (f 1)) := blk_cell ct 2; have s3 : u9.cell? ⟨k4, 3, none⟩ = some (.int .i64 (f 2)) := blk_cell ct 3; have s4 : u9.cell? ⟨k4, 4, none⟩ = some (.int .i64 (f 3)) := blk_cell ct 4; have s5 : u9.cell? ⟨k4, 5, none⟩ = some (.slice a1 m1 c1) := blk_cell ct 5; have s6 : u9.cell? ⟨k4, 6, none⟩ = some (.slice a2 m2 c2) := blk_cell ct 6; have r0 : u9.cell? ⟨w.heap.size, 0, none⟩ = some (.int .i64 0) := blk_cell cr 0; have r1 : u9.cell? ⟨w.heap.size, 1, none⟩ = some (.int .i64 0) := blk_cell cr 1; have r2 : u9.cell? ⟨w.heap.size, 2, none⟩ = some (.int .i64 0) := blk_cell cr 2; have r3 : u9.cell? ⟨w.heap.size, 3, none⟩ = some (.int .i64 0) := blk_cell cr 3; have r4 : u9.cell? ⟨w.heap.size, 4, none⟩ = some (.int .i64 0) := blk_cell cr 4; have r5 : u9.cell? ⟨w.heap.size, 5, none⟩ = some (.slice none 0 0) := blk_cell cr 5; have r6 : u9.cell? ⟨w.heap.size, 6, none⟩ = some (.slice none 0 0) := blk_cell cr 6; have r7 : u9.cell? ⟨w.heap.size, 7, none⟩ = some (.int .i64 0) := blk_cell cr 7; have r8 : u9.cell? ⟨w.heap.size, 8, none⟩ = some (.int .i64 0) := blk_cell cr 8; have f0 := blk_free cr 0; have f1 := blk_free cr 1; have f2 := blk_free cr 2; have f3 := blk_free cr 3; have f4 := blk_free cr 4; have f5 := blk_free cr 5; have f6 := blk_free cr 6; have f7 := blk_free cr 7; have f8 := blk_free cr 8; have hr := lt_of_block cr; clear bx ct cr)
                      all_goals
                        go_wp2_with fail
                        refine bodyPost_ret (v := .agg #[.int .i64 id, .int .i64 (f 0), .int .i64 (f 1), .int .i64 (f 2), .int .i64 (f 3), .slice a1 m1 c1, .slice a2 m2 c2, .int .i64 (endAt W W.length), .int .i64 0]) (by simp [results, Tryz.results25, go_sem, hr, r0, r1, r2, r3, r4, r5, r6, r7, r8]) rfl ?_
                        exact rline_done H9.out HOK.out _ _ _ _ _ _ _ _ _
            
        
end Go.Proofs.YtlpffgmfgkleiaaGreatDoor

/-
  The walks over what is read alike; over a task that is made shorter.
-/
namespace Go.Proofs.YtlpffgmfgkleiaaGreatDoor
open Go.RowKit Go.Maps

theorem rlineT_any {w : World} {a : Option Addr} {n cap : Nat} {W : List WV} (h : Words w a n cap W) (hW : WordsOk W) : Calls Tryz.prog 25 #[.slice a n cap] w fun y w' =>
    ∃ x : TV, y = .returned (.agg #[.int .i64 x.id, .int .i64 x.c, .int .i64 x.d, .int .i64 x.t, .int .i64 x.p, .slice x.a1 x.ch.length x.c1, .slice x.a2 x.us.length x.c2, .int .i64 (outT W).at_, .int .i64 (outT W).e]) ∧ x.tk = (outT W).t ∧ x.ok w' ∧ Below w.heap.size w w' := by
  have q := rline_any h (fun x hx => (hW x hx).2)
  unfold RLineIs at q
  unfold outT
  cases hq : lineOf W with
  | error p =>
    rw [hq] at q
    exact q.mono fun y w' ⟨h1, h2⟩ => ⟨zTV, h1, rfl, (hold_zero 0 w').ok, h2⟩
  | ok t =>
    rw [hq] at q
    exact q.mono fun y w' ⟨x, h1, h2, h3, _, _, h6⟩ => ⟨x, h1, h2, h3, h6⟩

set_option maxRecDepth 100000 in
set_option maxHeartbeats 4000000 in
theorem reads_any {W : List WV} (hW : WordsOk W) (w : World) {a : Option Addr} {n cap : Nat} (hv : Words w a n cap W) : Calls Tryz.prog 9 #[.slice a n cap] w fun e w' => e = .returned (.bool true) ∧ Below w.heap.size w w' := by
  have C1 : Hid (Calls Tryz.prog 24 #[.slice a n cap] w (TryTIs W w)) := pline_any hW w hv
  have C2 : Hid (∀ v, Below w.heap.size w v → Calls Tryz.prog 25 #[.slice a n cap] v fun y w' =>
    ∃ x : TV, y = .returned (.agg #[.int .i64 x.id, .int .i64 x.c, .int .i64 x.d, .int .i64 x.t, .int .i64 x.p, .slice x.a1 x.ch.length x.c1, .slice x.a2 x.us.length x.c2, .int .i64 (outT W).at_, .int .i64 (outT W).e]) ∧ x.tk = (outT W).t ∧ x.ok w' ∧ Below v.heap.size v w') := fun v hb => rlineT_any (hv.below hb) hW
  unfold TryTIs at C1
  generalize outT W = O at C1 C2
  obtain ⟨tk, p, e0⟩ := O
  simp only [] at C1 C2
  clear hv
  go_enter Tryz.func9, Tryz.ntmps9
  go_upto_region 2 with (go_at_call 24; (with_reducible refine (C1.out).mono ?_); rintro y u1 ⟨x, rfl, ht1, h1, b1⟩; have T1 := Lib.hid ht1; have H1 := Lib.hid h1.ok; have B1 := Lib.hid b1; clear ht1 h1 b1)
  refine gen_world (fun v => Below w.heap.size w v ∧ x.ok v ∧ Box v u1.heap.size TT #[.int .i64 x.id, .int .i64 x.c, .int .i64 x.d, .int .i64 x.t, .int .i64 x.p, .slice x.a1 x.ch.length x.c1, .slice x.a2 x.us.length x.c2]) ⟨bw_alloc B1.out _, H1.out.below (bw_alloc (Below.refl _ _) _), heap_alloc_new u1 _⟩ ?_
  intro u2 ⟨hb2, hk2, hx2⟩
  have B2 := Lib.hid hb2
  have K2 := Lib.hid hk2
  have X2 := Lib.hid hx2
  clear hb2 hk2 hx2 B1 H1
  go_upto_region 3 with (go_at_call 25; (with_reducible refine (C2.out _ B2.out).mono ?_); rintro y u3 ⟨z, rfl, ht3, h3, b3⟩; have T3 := Lib.hid ht3; have H3 := Lib.hid h3; have B3 := Lib.hid (below_up B2.out b3); have K3 := Lib.hid (K2.out.below b3); have X3 := Lib.hid (kept_obj b3 X2.out); clear ht3 h3 b3)
  refine gen_world (fun v => Below w.heap.size w v ∧ x.ok v ∧ Box v u1.heap.size TT #[.int .i64 x.id, .int .i64 x.c, .int .i64 x.d, .int .i64 x.t, .int .i64 x.p, .slice x.a1 x.ch.length x.c1, .slice x.a2 x.us.length x.c2] ∧ z.ok v ∧ Box v u3.heap.size GotT #[.int .i64 z.id, .int .i64 z.c, .int .i64 z.d, .int .i64 z.t, .int .i64 z.p, .slice z.a1 z.ch.length z.c1, .slice z.a2 z.us.length z.c2, .int .i64 p, .int .i64 e0]) ⟨bw_alloc B3.out _, K3.out.below (bw_alloc (Below.refl _ _) _), kept_obj (bw_alloc (Below.refl _ _) _) X3.out, H3.out.below (bw_alloc (Below.refl _ _) _), heap_alloc_new u3 _⟩ ?_
  intro u4 ⟨hb4, hk4, hx4, hz4, hy4⟩
  have B4 := Lib.hid hb4
  have CS : Hid (Calls Tryz.prog 26 #[.agg #[.int .i64 x.id, .int .i64 x.c, .int .i64 x.d, .int .i64 x.t, .int .i64 x.p, .slice x.a1 x.ch.length x.c1, .slice x.a2 x.us.length x.c2], .agg #[.int .i64 z.id, .int .i64 z.c, .int .i64 z.d, .int .i64 z.t, .int .i64 z.p, .slice z.a1 z.ch.length z.c1, .slice z.a2 z.us.length z.c2]] u4 fun e w' => e = .returned (.bool true) ∧ Below u4.heap.size u4 w') := by
    have := rsame_task x z u4 hk4 hz4
    rwa [decide_eq_true (T1.out.trans T3.out.symm)] at this
  have p0 : u4.cell? ⟨u1.heap.size, 0, none⟩ = some (.int .i64 x.id) := blk_cell hx4 0
  have p1 : u4.cell? ⟨u1.heap.size, 1, none⟩ = some (.int .i64 x.c) := blk_cell hx4 1
  have p2 : u4.cell? ⟨u1.heap.size, 2, none⟩ = some (.int .i64 x.d) := blk_cell hx4 2
  have p3 : u4.cell? ⟨u1.heap.size, 3, none⟩ = some (.int .i64 x.t) := blk_cell hx4 3
  have p4 : u4.cell? ⟨u1.heap.size, 4, none⟩ = some (.int .i64 x.p) := blk_cell hx4 4
  have p5 : u4.cell? ⟨u1.heap.size, 5, none⟩ = some (.slice x.a1 x.ch.length x.c1) := blk_cell hx4 5
  have p6 : u4.cell? ⟨u1.heap.size, 6, none⟩ = some (.slice x.a2 x.us.length x.c2) := blk_cell hx4 6
  have r0 : u4.cell? ⟨u3.heap.size, 0, none⟩ = some (.int .i64 z.id) := blk_cell hy4 0
  have r1 : u4.cell? ⟨u3.heap.size, 1, none⟩ = some (.int .i64 z.c) := blk_cell hy4 1
  have r2 : u4.cell? ⟨u3.heap.size, 2, none⟩ = some (.int .i64 z.d) := blk_cell hy4 2
  have r3 : u4.cell? ⟨u3.heap.size, 3, none⟩ = some (.int .i64 z.t) := blk_cell hy4 3
  have r4 : u4.cell? ⟨u3.heap.size, 4, none⟩ = some (.int .i64 z.p) := blk_cell hy4 4
  have r5 : u4.cell? ⟨u3.heap.size, 5, none⟩ = some (.slice z.a1 z.ch.length z.c1) := blk_cell hy4 5
  have r6 : u4.cell? ⟨u3.heap.size, 6, none⟩ = some (.slice z.a2 z.us.length z.c2) := blk_cell hy4 6
  have r7 : u4.cell? ⟨u3.heap.size, 7, none⟩ = some (.int .i64 p) := blk_cell hy4 7
  have r8 : u4.cell? ⟨u3.heap.size, 8, none⟩ = some (.int .i64 e0) := blk_cell hy4 8
  clear hb4 hk4 hx4 hz4 hy4 K2 X2 B2 B3 K3 X3 H3 T1 T3 C1 C2
  go_wp2_with (go_at_call 26; (with_reducible refine (CS.out).mono ?_); rintro e u5 ⟨rfl, b5⟩; have B5 := Lib.hid (below_up B4.out b5); have r7' := kept_cell b5 r7; have r8' := kept_cell b5 r8; clear b5)
  go_ret
  exact ⟨rfl, B5.out⟩
/-- A task of 66 chunks and 66 used sets at most. -/
def lessOf (x : TV) : TV := ⟨x.id, x.c, x.d, x.t, x.p, x.a1, x.ch.take 66, x.c1, x.a2, x.us.take 66, x.c2⟩
theorem ints_take {w : World} {a : Option Addr} {l : List Int} (h : Ints w a l) (k : Nat) : Ints w a (l.take k) := by
  rcases h with rfl | ⟨g, o, rfl, hc⟩
  · exact .inl (by simp)
  · refine .inr ⟨g, o, rfl, fun j u hj => hc j u ?_⟩
    rw [List.getElem?_take] at hj
    split at hj
    · exact hj
    · cases hj
theorem less_ok {w : World} {x : TV} (h : x.ok w) : (lessOf x).ok w :=
  ⟨ints_take h.one 66, ints_take h.two 66, by have := h.l1; show (x.ch.take 66).length ≤ x.c1; rw [List.length_take]; omega, h.m1, by have := h.l2; show (x.us.take 66).length ≤ x.c2; rw [List.length_take]; omega, h.m2⟩

set_option maxRecDepth 100000 in
set_option maxHeartbeats 4000000 in
theorem less_any (x : TV) (w : World) (hx : x.ok w) : Calls Tryz.prog 5 #[x.val] w fun e w' => e = .returned (lessOf x).val ∧ Below w.heap.size w w' := by
  have hz := y_zeroTask
  unfold TV.val lessOf
  simp only []
  obtain ⟨N1, h1⟩ : ∃ n, x.ch.length = n := ⟨_, rfl⟩
  obtain ⟨N2, h2⟩ : ∃ n, x.us.length = n := ⟨_, rfl⟩
  obtain ⟨M1, m1⟩ : ∃ n, (x.ch.take 66).length = n := ⟨_, rfl⟩
  obtain ⟨M2, m2⟩ : ∃ n, (x.us.take 66).length = n := ⟨_, rfl⟩
  rw [h1, h2, m1, m2]
  rw [List.length_take, h1] at m1
  rw [List.length_take, h2] at m2
  have l1 := hx.l1
  have l2 := hx.l2
  have w1 := hx.m1
  have w2 := hx.m2
  rw [h1] at l1
  rw [h2] at l2
  have a1 : 66 < N1 → ∃ g o, x.a1 = some ⟨g, o, none⟩ := fun hl => by
    rcases hx.one with q | ⟨g, o, q, _⟩
    · rw [q] at h1; simp at h1; omega
    · exact ⟨g, o, q⟩
  have a2 : 66 < N2 → ∃ g o, x.a2 = some ⟨g, o, none⟩ := fun hl => by
    rcases hx.two with q | ⟨g, o, q, _⟩
    · rw [q] at h2; simp at h2; omega
    · exact ⟨g, o, q⟩
  obtain ⟨i, c, d, t, p, A1, ch, K1, A2, us, K2⟩ := x
  simp only [] at h1 h2 l1 l2 w1 w2 a1 a2 m1 m2 ⊢
  clear hx h1 h2
  go_enter Tryz.func5, Tryz.ntmps5
  go_upto_region 1 with fail
  refine gen_world (fun v => Below w.heap.size w v ∧ w.heap.size + 1 < v.heap.size ∧ Box v w.heap.size TT #[.int .i64 i, .int .i64 c, .int .i64 d, .int .i64 t, .int .i64 p, .slice A1 N1 K1, .slice A2 N2 K2] ∧ Box v (w.heap.size + 1) TT #[.int .i64 0, .int .i64 0, .int .i64 0, .int .i64 0, .int .i64 0, .slice none 0 0, .slice none 0 0]) ⟨(by repeat (first | exact Below.refl _ _ | (with_reducible assumption) | refine bw_alloc ?_ _ | refine bw_drew ?_)), by simp, ?_, ?_⟩ ?_
  · show (World.alloc _ _).heap[_]? = _
    rw [Below.heap_alloc _ _ _ (by simp)]; exact heap_alloc_new w _
  · have := heap_alloc_new (w.alloc (.cells #[.int .i64 i, .int .i64 c, .int .i64 d, .int .i64 t, .int .i64 p, .slice A1 N1 K1, .slice A2 N2 K2] TT)) (.cells #[.int .i64 0, .int .i64 0, .int .i64 0, .int .i64 0, .int .i64 0, .slice none 0 0, .slice none 0 0] TT)
    rwa [World.size_alloc] at this
  intro u0 ⟨hb0, hs0, hx0, hy0⟩
  have B0 := Lib.hid hb0
  have X0 := Lib.hid hx0
  have Y0 := Lib.hid hy0
  have S0 := Lib.hid hs0
  have c5 : u0.cell? ⟨w.heap.size, 5, none⟩ = some (.slice A1 N1 K1) := blk_cell hx0 5
  have c6 : u0.cell? ⟨w.heap.size, 6, none⟩ = some (.slice A2 N2 K2) := blk_cell hx0 6
  have f5 := blk_free hx0 5
  have hr := lt_of_block hx0
  clear hb0 hx0 hy0 hs0
  go_upto_if 6 with fail
  go_cut [2] from 3 to 11 (fun u wx => u = .pointer (some ⟨w.heap.size + 1, 0, none⟩) ∧ Hid (Below w.heap.size w wx) ∧ Hid (w.heap.size + 1 < wx.heap.size) ∧ Hid (Box wx w.heap.size TT #[.int .i64 i, .int .i64 c, .int .i64 d, .int .i64 t, .int .i64 p, .slice A1 M1 K1, .slice A2 N2 K2]) ∧ Hid (Box wx (w.heap.size + 1) TT #[.int .i64 0, .int .i64 0, .int .i64 0, .int .i64 0, .int .i64 0, .slice none 0 0, .slice none 0 0]))
  case first =>
    by_cases q1 : 66 < N1
    · obtain ⟨g, o, rfl⟩ := a1 q1
      obtain rfl : M1 = 66 := by omega
      have k1 : (66 : Int) < (N1 : Int) := by omega
      have k2 : (66 : Int) ≤ (K1 : Int) := by omega
      have k3 : (66 : Int) ≤ (N1 : Int) := by omega
      have k4 : 66 ≤ K1 := by omega
      clear m1 m2 a2
      go_wp2_with fail
      go_meet
      refine ⟨rfl, Lib.hid (B0.out.setCell (p := ⟨w.heap.size, 5, none⟩) (Nat.le_refl _) _), ?_, Lib.hid ((blk_set (o := 5) X0.out _).trans rfl), Lib.hid ?_⟩
      · show _ < _
        rw [World.setCell]; simp; exact S0.out
      · show _ = _
        rw [far (k := w.heap.size + 1) (b := w.heap.size) (by omega)]; exact Y0.out
    · obtain rfl : M1 = N1 := by omega
      have k1 : ¬ (66 : Int) < (M1 : Int) := by omega
      clear m1 m2 a1 a2
      go_wp2_with fail
      go_meet
      exact ⟨rfl, B0, S0, X0, Y0⟩
  case rest =>
    obtain ⟨rfl, B1, S1, X1, Y1⟩ := hcut
    clear B0 X0 Y0 S0 c5 c6 f5 hr
    have c6 : wc.cell? ⟨w.heap.size, 6, none⟩ = some (.slice A2 N2 K2) := blk_cell X1.out 6
    have f6 := blk_free X1.out 6
    have hr := lt_of_block X1.out
    go_upto_if 14 with fail
    go_cut [2] from 11 to 19 (fun u wx => u = .pointer (some ⟨w.heap.size + 1, 0, none⟩) ∧ Hid (Below w.heap.size w wx) ∧ Hid (Box wx w.heap.size TT #[.int .i64 i, .int .i64 c, .int .i64 d, .int .i64 t, .int .i64 p, .slice A1 M1 K1, .slice A2 M2 K2]) ∧ Hid (Box wx (w.heap.size + 1) TT #[.int .i64 0, .int .i64 0, .int .i64 0, .int .i64 0, .int .i64 0, .slice none 0 0, .slice none 0 0]))
    case first =>
      by_cases q1 : 66 < N2
      · obtain ⟨g, o, rfl⟩ := a2 q1
        obtain rfl : M2 = 66 := by omega
        have k1 : (66 : Int) < (N2 : Int) := by omega
        have k2 : (66 : Int) ≤ (K2 : Int) := by omega
        have k3 : (66 : Int) ≤ (N2 : Int) := by omega
        have k4 : 66 ≤ K2 := by omega
        clear m1 m2 a1
        go_wp2_with fail
        go_meet
        refine ⟨rfl, Lib.hid (B1.out.setCell (p := ⟨w.heap.size, 6, none⟩) (Nat.le_refl _) _), Lib.hid ((blk_set (o := 6) X1.out _).trans rfl), Lib.hid ?_⟩
        show _ = _
        rw [far (k := w.heap.size + 1) (b := w.heap.size) (by omega)]; exact Y1.out
      · obtain rfl : M2 = N2 := by omega
        have k1 : ¬ (66 : Int) < (M2 : Int) := by omega
        clear m1 m2 a1 a2
        go_wp2_with fail
        go_meet
        exact ⟨rfl, B1, X1, Y1⟩
    case rest =>
      obtain ⟨rfl, B2, X2, Y2⟩ := hcut
      clear B1 X1 Y1 S1 c6 f6 hr
      have hx9 := X2.out
      have hy9 := Y2.out
      have B9 := Lib.hid B2.out
      have p0 : wc.cell? ⟨w.heap.size, 0, none⟩ = some (.int .i64 i) := blk_cell hx9 0
      have p1 : wc.cell? ⟨w.heap.size, 1, none⟩ = some (.int .i64 c) := blk_cell hx9 1
      have p2 : wc.cell? ⟨w.heap.size, 2, none⟩ = some (.int .i64 d) := blk_cell hx9 2
      have p3 : wc.cell? ⟨w.heap.size, 3, none⟩ = some (.int .i64 t) := blk_cell hx9 3
      have p4 : wc.cell? ⟨w.heap.size, 4, none⟩ = some (.int .i64 p) := blk_cell hx9 4
      have p5 : wc.cell? ⟨w.heap.size, 5, none⟩ = some (.slice A1 M1 K1) := blk_cell hx9 5
      have p6 : wc.cell? ⟨w.heap.size, 6, none⟩ = some (.slice A2 M2 K2) := blk_cell hx9 6
      have q0 : wc.cell? ⟨w.heap.size + 1, 0, none⟩ = some (.int .i64 0) := blk_cell hy9 0
      have q1 : wc.cell? ⟨w.heap.size + 1, 1, none⟩ = some (.int .i64 0) := blk_cell hy9 1
      have q2 : wc.cell? ⟨w.heap.size + 1, 2, none⟩ = some (.int .i64 0) := blk_cell hy9 2
      have q3 : wc.cell? ⟨w.heap.size + 1, 3, none⟩ = some (.int .i64 0) := blk_cell hy9 3
      have q4 : wc.cell? ⟨w.heap.size + 1, 4, none⟩ = some (.int .i64 0) := blk_cell hy9 4
      have q5 : wc.cell? ⟨w.heap.size + 1, 5, none⟩ = some (.slice none 0 0) := blk_cell hy9 5
      have q6 : wc.cell? ⟨w.heap.size + 1, 6, none⟩ = some (.slice none 0 0) := blk_cell hy9 6
      have f0 := blk_free hy9 0
      have f1 := blk_free hy9 1
      have f2 := blk_free hy9 2
      have f3 := blk_free hy9 3
      have f4 := blk_free hy9 4
      have f5 := blk_free hy9 5
      have f6 := blk_free hy9 6
      have hr := lt_of_block hx9
      have hr2 := lt_of_block hy9
      have HD : Hid (∀ (y0 y1 y2 y3 y4 y5 y6 : Value), Below w.heap.size w (((((((wc.setCell ⟨w.heap.size + 1, 0, none⟩ y0).setCell ⟨w.heap.size + 1, 1, none⟩ y1).setCell ⟨w.heap.size + 1, 2, none⟩ y2).setCell ⟨w.heap.size + 1, 3, none⟩ y3).setCell ⟨w.heap.size + 1, 4, none⟩ y4).setCell ⟨w.heap.size + 1, 5, none⟩ y5).setCell ⟨w.heap.size + 1, 6, none⟩ y6)) := fun y0 y1 y2 y3 y4 y5 y6 => below_s7 B9.out (Nat.le_succ _) y0 y1 y2 y3 y4 y5 y6
      clear hx9 hy9 B2 X2 Y2 m1 m2 a1 a2
      go_wp2_with fail
      exact bodyPost_ret (v := .agg #[.int .i64 i, .int .i64 c, .int .i64 d, .int .i64 t, .int .i64 p, .slice A1 M1 K1, .slice A2 M2 K2]) (by simp [results, Tryz.results5, go_sem, q0, q1, q2, q3, q4, q5, q6, hr, hr2]) rfl ⟨rfl, HD.out _ _ _ _ _ _ _⟩
end Go.Proofs.YtlpffgmfgkleiaaGreatDoor

/-
  The walks over digits.
-/
namespace Go.Proofs.YtlpffgmfgkleiaaGreatDoor
open Go.RowKit Go.Maps

/-- The digits of a number. -/
def upOf (n : Nat) : ByteArray := if n < 10 then ⟨#[UInt8.ofNat (48 + n)]⟩ else upOf (n / 10) ++ ⟨#[UInt8.ofNat (48 + n % 10)]⟩
theorem upOf_small {n : Nat} (h : n < 10) : upOf n = ⟨#[UInt8.ofNat (48 + n)]⟩ := by rw [upOf, if_pos h]
theorem upOf_more {n : Nat} (h : ¬ n < 10) : upOf n = upOf (n / 10) ++ ⟨#[UInt8.ofNat (48 + n % 10)]⟩ := by rw [upOf, if_neg h]
theorem upOf_size : ∀ (k n : Nat), n < 10 ^ k → (upOf n).size ≤ k ∨ (upOf n).size ≤ 1
  | 0, n, h => by
    right; rw [upOf_small (by simp at h; omega)]; exact Nat.le_refl _
  | k + 1, n, h => by
    by_cases h1 : n < 10
    · right; rw [upOf_small h1]; exact Nat.le_refl _
    · left
      rw [upOf_more h1, ByteArray.size_append]
      have := upOf_size k (n / 10) (by rw [Nat.pow_succ] at h; omega)
      have e : (⟨#[UInt8.ofNat (48 + n % 10)]⟩ : ByteArray).size = 1 := rfl
      rw [e]
      rcases this with q | q
      · omega
      · have hk : 0 < k := by
          rcases Nat.eq_zero_or_pos k with z | z
          · subst z; simp at h; omega
          · exact z
        omega
theorem conv_one (m : Nat) (h : m < 10) (w : World) (b : Nat) (hc : w.cell? ⟨b, 0, none⟩ = some (.int .u8 (48 + (m : Int)))) : Sem.run Tryz.prog (convert 69 9 (.slice (some ⟨b, 0, none⟩) 1 1)) w = .ok (.string ⟨#[UInt8.ofNat (48 + m)]⟩) w := by
  refine run_convert_bytes_back w 69 9 5 ⟨b, 0, none⟩ 1 [UInt8.ofNat (48 + m)] Tryz.underlying69 Tryz.underlying5 Tryz.underlying9 ?_
  intro j hj
  have : j = 0 := by simp at hj; omega
  subst this
  rw [addr_at, Nat.zero_add, hc]
  have e : (UInt8.ofNat (48 + m)).toNat = 48 + m := by
    rw [UInt8.toNat_ofNat']; omega
  simp only [List.getElem_cons_zero, e]
  congr 2
theorem add_str (u v r : ByteArray) (hr : u ++ v = r) (hs : (u.size + v.size : Nat) ≤ 1000000000) (w : World) : Sem.run Tryz.prog (Op.stringOp .add u v) w = .ok (.string r) w := by
  subst hr
  exact run_string_add_sum (P := Tryz.prog) w u v (by omega)
set_option maxRecDepth 100000 in
set_option maxHeartbeats 1000000 in
theorem up_small (n : Nat) (h : n < 10) (w : World) : Calls Tryz.prog 42 #[.int .u64 n] w fun e w' => e = .returned (.string (upOf n)) ∧ Below w.heap.size w w' := by
  obtain ⟨v, hv⟩ : ∃ v : ByteArray, ⟨#[UInt8.ofNat (48 + n)]⟩ = v := ⟨_, rfl⟩
  rw [upOf_small h, hv]
  have h1 : (n : Int) < 10 := by omega
  have w1 : IntKind.u64.wrap (48 + (n : Int)) = 48 + (n : Int) := by rw [IntKind.wrap_u64]; omega
  have w2 : IntKind.u8.wrap (48 + (n : Int)) = 48 + (n : Int) := by rw [IntKind.wrap_u8]; omega
  have hcv := conv_one n h
  rw [hv] at hcv
  clear hv
  go_enter Tryz.func42, Tryz.ntmps42
  go_wp2_with fail
  go_ret
  exact ⟨rfl, (by repeat (first | exact Below.refl _ _ | (with_reducible assumption) | refine bw_alloc ?_ _ | refine bw_drew ?_))⟩
def UpBack (n : Nat) (w : World) (e : Ending) (w' : World) : Prop := e = .returned (.string (upOf n)) ∧ Below w.heap.size w w'
set_option maxRecDepth 100000 in
set_option maxHeartbeats 2000000 in
theorem up_any (n : Nat) : n ≤ 18446744073709551615 → ∀ w : World, Calls Tryz.prog 42 #[.int .u64 n] w (UpBack n w) := by
  induction n using Nat.strongRecOn with
  | _ n ih =>
    intro hn w
    by_cases h : n < 10
    · exact up_small n h w
    · have IH := Lib.hid (ih (n / 10) (by omega) (by omega))
      clear ih
      obtain ⟨k, hk⟩ : ∃ k, n / 10 = k := ⟨_, rfl⟩
      obtain ⟨m, hm⟩ : ∃ m, n % 10 = m := ⟨_, rfl⟩
      obtain ⟨u, hu⟩ : ∃ u, upOf k = u := ⟨_, rfl⟩
      obtain ⟨v, hv⟩ : ∃ v : ByteArray, ⟨#[UInt8.ofNat (48 + m)]⟩ = v := ⟨_, rfl⟩
      obtain ⟨r, hr⟩ : ∃ r, u ++ v = r := ⟨_, rfl⟩
      have hres : upOf n = r := by rw [upOf_more h, hk, hm, hu, hv, hr]
      have hsz : u.size + v.size ≤ 1000000000 := by
        have h1 := upOf_size 20 k (by have e : (10 : Nat) ^ 20 = 100000000000000000000 := by decide
                                      rw [e]; omega)
        rw [hu] at h1
        have h2 : v.size = 1 := by rw [← hv]; rfl
        omega
      have hadd := add_str u v r hr hsz
      have hcv := conv_one m (by omega)
      rw [hv] at hcv
      have HF : Hid (∀ w', Below w.heap.size w w' → UpBack n w (.returned (.string r)) w') := fun w' h => ⟨by rw [hres], h⟩
      have IH2 : Hid (∀ v, Calls Tryz.prog 42 #[.int .u64 (k : Int)] v fun e w' => e = .returned (.string u) ∧ Below v.heap.size v w') := by
        have := IH.out
        rw [hk] at this
        unfold UpBack at this
        rw [hu] at this
        exact this
      have e1 : (n : Int).tdiv 10 = (k : Int) := by rw [Int.tdiv_eq_ediv_of_nonneg (by omega)]; omega
      have e2 : (n : Int).tmod 10 = (m : Int) := by rw [Int.tmod_eq_emod_of_nonneg (by omega)]; omega
      have e3 : (n : Int) / 10 = (k : Int) := by omega
      have e4 : (n : Int) % 10 = (m : Int) := by omega
      have h1 : ¬ (n : Int) < 10 := by omega
      have w0 : IntKind.u64.wrap (k : Int) = (k : Int) := by rw [IntKind.wrap_u64]; omega
      have w3 : IntKind.u64.wrap (m : Int) = (m : Int) := by rw [IntKind.wrap_u64]; omega
      have w1 : IntKind.u64.wrap (48 + (m : Int)) = 48 + (m : Int) := by rw [IntKind.wrap_u64]; omega
      have w2 : IntKind.u8.wrap (48 + (m : Int)) = 48 + (m : Int) := by rw [IntKind.wrap_u8]; omega
      clear hk hm hu hv hr hres hsz IH h
      go_enter Tryz.func42, Tryz.ntmps42
      go_upto_region 3 with fail
      go_region_law (go_simp; (with_reducible refine (IH2.out _).mono ?_); rintro e w5 ⟨rfl, b5⟩; (try (have c5 := (kept_cell (v := .int .u8 (48 + (m : Int))) (b := w.heap.size) (o := 0) b5 (by first | (rw [World.cell?_alloc_new]; rfl) | (exact (World.cell?_alloc_new ..).trans rfl))))); have B5 := Lib.hid (below_up ((by repeat (first | exact Below.refl _ _ | (with_reducible assumption) | refine bw_alloc ?_ _ | refine bw_drew ?_)) : Below w.heap.size w _) b5); clear b5)
      all_goals
        go_wp2_with fail
        go_ret
        exact HF.out _ (below_up B5.out (by repeat (first | exact Below.refl _ _ | (with_reducible assumption) | refine bw_alloc ?_ _ | refine bw_drew ?_)))
end Go.Proofs.YtlpffgmfgkleiaaGreatDoor

/-
  The walks over digits of any number, and over rows of them.
-/
namespace Go.Proofs.YtlpffgmfgkleiaaGreatDoor
open Go.RowKit Go.Maps

def digOf (n : Int) : ByteArray := if n < 0 then ⟨#[45]⟩ ++ upOf n.natAbs else upOf n.natAbs
theorem digOf_size (n : Int) (h : I64 n) : (digOf n).size ≤ 22 := by
  have hn : n.natAbs < 10 ^ 20 := by
    have e : (10 : Nat) ^ 20 = 100000000000000000000 := by decide
    rw [e]; unfold I64 at h; omega
  have := upOf_size 20 n.natAbs hn
  unfold digOf
  split
  · rw [ByteArray.size_append]
    have e : (⟨#[45]⟩ : ByteArray).size = 1 := rfl
    omega
  · omega
set_option maxRecDepth 100000 in
set_option maxHeartbeats 1000000 in
theorem rdigits_any (n : Int) (hn : I64 n) (w : World) : Calls Tryz.prog 21 #[.int .i64 n] w fun e w' => e = .returned (.string (digOf n)) ∧ Below w.heap.size w w' := by
  unfold I64 at hn
  by_cases h : n < 0
  · obtain ⟨m, hm⟩ : ∃ m : Nat, n.natAbs = m := ⟨_, rfl⟩
    obtain ⟨u, hu⟩ : ∃ u, upOf m = u := ⟨_, rfl⟩
    obtain ⟨r, hr⟩ : ∃ r : ByteArray, ⟨#[45]⟩ ++ u = r := ⟨_, rfl⟩
    have hres : digOf n = r := by unfold digOf; rw [if_pos h, hm, hu, hr]
    rw [hres]
    have hsz : (⟨#[45]⟩ : ByteArray).size + u.size ≤ 1000000000 := by
      have h1 := upOf_size 20 m (by have e : (10 : Nat) ^ 20 = 100000000000000000000 := by decide
                                    rw [e]; omega)
      rw [hu] at h1
      have e : (⟨#[45]⟩ : ByteArray).size = 1 := rfl
      omega
    have hadd := add_str ⟨#[45]⟩ u r hr hsz
    have C : Hid (∀ v, Calls Tryz.prog 42 #[.int .u64 (m : Int)] v fun e w' => e = .returned (.string u) ∧ Below v.heap.size v w') := fun v => by
      have := up_any m (by omega) v
      unfold UpBack at this
      rwa [hu] at this
    have w1 : IntKind.u64.wrap n = n + 18446744073709551616 := by rw [IntKind.wrap_u64]; omega
    have w2 : IntKind.u64.wrap (-(n + 18446744073709551616)) = (m : Int) := by rw [IntKind.wrap_u64]; omega
    clear hm hu hr hres hsz
    go_enter Tryz.func21, Tryz.ntmps21
    go_wp2_with (go_at_call 42; (with_reducible refine (C.out _).mono ?_); rintro e w1 ⟨rfl, b1⟩; have B1 := Lib.hid b1; clear b1)
    go_ret
    exact ⟨rfl, B1.out⟩
  · obtain ⟨m, rfl⟩ : ∃ m : Nat, n = m := ⟨n.toNat, by omega⟩
    obtain ⟨u, hu⟩ : ∃ u, upOf m = u := ⟨_, rfl⟩
    have hres : digOf (m : Int) = u := by unfold digOf; rw [if_neg h, Int.natAbs_natCast, hu]
    rw [hres]
    have C : Hid (∀ v, Calls Tryz.prog 42 #[.int .u64 (m : Int)] v fun e w' => e = .returned (.string u) ∧ Below v.heap.size v w') := fun v => by
      have := up_any m (by omega) v
      unfold UpBack at this
      rwa [hu] at this
    have w1 : IntKind.u64.wrap (m : Int) = (m : Int) := by rw [IntKind.wrap_u64]; omega
    clear hu hres
    go_enter Tryz.func21, Tryz.ntmps21
    go_wp2_with (go_at_call 42; (with_reducible refine (C.out _).mono ?_); rintro e w1 ⟨rfl, b1⟩; have B1 := Lib.hid b1; clear b1)
    go_ret
    exact ⟨rfl, B1.out⟩

/-- The first numbers of a row, with a comma between two. -/
def jrun (l : List Int) : Nat → ByteArray
  | 0 => ⟨#[]⟩
  | i + 1 => (if i = 0 then jrun l i else jrun l i ++ ⟨#[44]⟩) ++ digOf (l[i]?.getD 0)
def joinOf (l : List Int) : ByteArray := jrun l l.length
theorem jrun_size (l : List Int) (hl : ∀ x ∈ l, I64 x) : ∀ i, (jrun l i).size ≤ 23 * i
  | 0 => Nat.le_refl _
  | i + 1 => by
    have ih := jrun_size l hl i
    have hd : (digOf (l[i]?.getD 0)).size ≤ 22 := by
      apply digOf_size
      cases e : l[i]? with
      | none => show I64 0; unfold I64; omega
      | some x => exact hl x (List.mem_of_getElem? e)
    rw [jrun, ByteArray.size_append]
    split
    · omega
    · rw [ByteArray.size_append]
      have e : (⟨#[44]⟩ : ByteArray).size = 1 := rfl
      omega
set_option maxRecDepth 100000 in
set_option maxHeartbeats 2000000 in
theorem rjoin_any (a : Option Addr) (n cap : Nat) (l : List Int) (hl : l.length = n) (hn : n ≤ 2000000) (hw : ∀ x ∈ l, I64 x) (w : World) (h : Ints w a l) : Calls Tryz.prog 22 #[.slice a n cap] w fun e w' => e = .returned (.string (joinOf l)) ∧ Below w.heap.size w w' := by
  have H := Lib.hid h
  have HL := Lib.hid hl
  have HW := Lib.hid hw
  clear h hl hw
  go_enter Tryz.func22, Tryz.ntmps22
  go_wp2_with fail
  go_loopw [3, 4] (fun v u wr => ∃ (i : Nat) (t : ByteArray), i ≤ n ∧ u = .int .i64 i ∧ v = .string t ∧ Hid (jrun l i = t) ∧ Hid (Below w.heap.size w wr)) (fun _ u _ => (n - intOf u).toNat)
  case atStart => exact ⟨0, ⟨#[]⟩, by omega, rfl, rfl, rfl, Below.refl _ _⟩
  case round =>
    obtain ⟨i, t, hi, rfl, rfl, HT, HB⟩ := hrel
    by_cases hlt : i < n
    · obtain ⟨x, hx⟩ := nth_of HL.out hlt
      obtain ⟨g, o, rfl, c0⟩ := (H.out.below HB.out).at_ hx
      have hk1 : (i : Int) < (n : Int) := by omega
      have hk0 : (0 : Int) ≤ (i : Int) := by omega
      have hxw := HW.out x (List.mem_of_getElem? hx)
      obtain ⟨d, hd⟩ : ∃ d, digOf x = d := ⟨_, rfl⟩
      have C : Hid (∀ v, Calls Tryz.prog 21 #[.int .i64 x] v fun e w' => e = .returned (.string d) ∧ Below v.heap.size v w') := fun v => by
        have := rdigits_any x hxw v
        rwa [hd] at this
      have hts : t.size ≤ 23 * i := by rw [← HT.out]; exact jrun_size l HW.out i
      have hds : d.size ≤ 22 := by rw [← hd]; exact digOf_size x hxw
      obtain ⟨t1, ht1⟩ : ∃ t1, (if i = 0 then t else t ++ ⟨#[44]⟩) = t1 := ⟨_, rfl⟩
      obtain ⟨t2, ht2⟩ : ∃ t2, t1 ++ d = t2 := ⟨_, rfl⟩
      have HT2 : Hid (jrun l (i + 1) = t2) := by
        show _ = _; rw [jrun, HT.out, hx, ht1]
        show t1 ++ digOf x = t2
        rw [hd, ht2]
      have hc44 : (⟨#[44]⟩ : ByteArray).size = 1 := rfl
      have ht1s : t1.size ≤ 23 * i + 1 := by
        rw [← ht1]; split
        · omega
        · rw [ByteArray.size_append]; omega
      have hadd2 := add_str t1 d t2 ht2 (by omega)
      by_cases h0 : i = 0
      · rw [if_pos h0] at ht1
        subst ht1
        have f1 : ¬ (0 : Int) < (i : Int) := by omega
        have f2 : ¬ 0 < i := by omega
        clear h0 hx hd ht2 hts hds ht1s hxw hc44
        go_wp2_with (go_at_call 21; (with_reducible refine (C.out _).mono ?_); rintro e w5 ⟨rfl, b5⟩; have B5 := Lib.hid (below_up HB.out b5); clear b5)
        go_roundw
        case rel => exact ⟨i + 1, t2, by omega, by go_num, rfl, HT2, B5⟩
        case measure => simp [intOf]; omega
      · rw [if_neg h0] at ht1
        have hadd1 := add_str t ⟨#[44]⟩ t1 ht1 (by omega)
        have f1 : (0 : Int) < (i : Int) := by omega
        have f2 : 0 < i := by omega
        clear h0 hx hd ht2 hts hds ht1s hxw ht1 hc44
        go_wp2_with (go_at_call 21; (with_reducible refine (C.out _).mono ?_); rintro e w5 ⟨rfl, b5⟩; have B5 := Lib.hid (below_up HB.out b5); clear b5)
        go_roundw
        case rel => exact ⟨i + 1, t2, by omega, by go_num, rfl, HT2, B5⟩
        case measure => simp [intOf]; omega
    · obtain rfl : n = i := by omega
      have HF : Hid (joinOf l = t) := by show _ = _; unfold joinOf; rw [HL.out]; exact HT.out
      go_wp2_with fail
      go_ret
      exact ⟨by rw [HF.out]; rfl, HB.out⟩
end Go.Proofs.YtlpffgmfgkleiaaGreatDoor

/-
  A task as a text, in plain words; the walk over the document's own.
-/
namespace Go.Proofs.YtlpffgmfgkleiaaGreatDoor
open Go.RowKit Go.Maps

abbrev sTask : ByteArray := ⟨#[116, 97, 115, 107, 32]⟩
abbrev sC : ByteArray := ⟨#[32, 99, 61]⟩
abbrev sD : ByteArray := ⟨#[32, 100, 61]⟩
abbrev sT : ByteArray := ⟨#[32, 116, 61]⟩
abbrev sP : ByteArray := ⟨#[32, 112, 61]⟩
abbrev sChunks : ByteArray := ⟨#[32, 99, 104, 117, 110, 107, 115, 61]⟩
abbrev sUse : ByteArray := ⟨#[32, 117, 115, 101, 61]⟩
/-- A task's words without its rows. -/
def headOf (t : Tk) : ByteArray := sTask ++ digOf t.id ++ sC ++ digOf t.c ++ sD ++ digOf t.d ++ sT ++ digOf t.t ++ sP ++ digOf t.p
def midOf (t : Tk) : ByteArray := if t.ch = [] then headOf t else headOf t ++ sChunks ++ joinOf t.ch
def wholeOf (t : Tk) : ByteArray := if t.us = [] then midOf t else midOf t ++ sUse ++ joinOf t.us
/-- A task as a text; of one that is wrong none. -/
def lineText (t : Tk) : ByteArray := if rightOf t.tv 256 = 0 then wholeOf t else ⟨#[]⟩
theorem right_tk (x : TV) (s : Int) : rightOf x s = rightOf x.tk.tv s := rfl
theorem fill_mem : ∀ (l : List Int) (c : Int), fillB l c = true → ∀ x ∈ l, 1 ≤ x ∧ x ≤ c
  | [], c, _, x, hx => by cases hx
  | y :: l, c, h, x, hx => by
    rw [fillB] at h
    by_cases q : 1 ≤ y ∧ y ≤ c
    · rw [if_pos q] at h
      rcases List.mem_cons.1 hx with rfl | hx
      · exact q
      · have := fill_mem l (c - y) h x hx
        omega
    · rw [if_neg q] at h; cases h
/-- What is right has small numbers. -/
structure Small (x : TV) : Prop where
  id : 1 ≤ x.id ∧ x.id ≤ 99
  p : 1 ≤ x.p ∧ x.p ≤ 99
  c : 1 ≤ x.c ∧ x.c ≤ x.d
  d : x.d ≤ x.t ∧ x.t ≤ 1073741824
  chl : x.ch.length ≤ 64
  ch : ∀ y ∈ x.ch, 1 ≤ y ∧ y ≤ x.c
  usl : x.us.length ≤ 64
  us : ∀ y ∈ x.us, 0 ≤ y ∧ y < 256
theorem small_of {x : TV} {s : Int} (h : rightOf x s = 0) (hs : s ≤ 256) : Small x := by
  unfold rightOf at h
  split at h
  · cases h
  · rename_i a1
    split at h
    · cases h
    · rename_i a2
      split at h
      · cases h
      · rename_i a3
        split at h
        · cases h
        · rename_i a4
          unfold idBad at a1
          unfold cdBad at a2
          unfold chBad at a3
          unfold usBad at a4
          simp only [not_or, Nat.not_lt] at a3 a4
          refine ⟨by omega, by omega, by omega, by omega, a3.1, fun y hy => ?_, a4.1, fun y hy => ?_⟩
          · have hne : x.ch ≠ [] := fun q => by rw [q] at hy; cases hy
            cases hf : fillB x.ch x.c with
            | false => exact absurd ⟨hne, hf⟩ a3.2
            | true => exact fill_mem _ _ hf y hy
          · have : badB s y = false := by
              cases hb : badB s y with
              | false => rfl
              | true => exact absurd (List.any_eq_true.2 ⟨y, hy, hb⟩) a4.2
            unfold badB at this
            simp only [decide_eq_false_iff_not] at this
            omega
theorem size_join {l : List Int} (hl : ∀ x ∈ l, I64 x) (h : l.length ≤ 64) : (joinOf l).size ≤ 1472 := by
  have := jrun_size l hl l.length
  unfold joinOf
  omega

set_option maxRecDepth 100000 in
set_option maxHeartbeats 4000000 in
theorem rtext_any (x : TV) (w : World) (hx : x.ok w) : Calls Tryz.prog 7 #[x.val] w fun e w' => e = .returned (.string (lineText x.tk)) ∧ Below w.heap.size w w' := by
  have CR : Hid (∀ v, Below w.heap.size w v → Calls Tryz.prog 20 #[x.val, .int .i64 256] v fun e w' => e = .returned (.int .i64 (rightOf x 256)) ∧ Below v.heap.size v w') := fun v hb => rright_any x 256 v (hx.below hb)
  have HX := Lib.hid hx
  have HLT : Hid (lineText x.tk = if rightOf x 256 = 0 then wholeOf x.tk else ⟨#[]⟩) := rfl
  unfold TV.val at CR ⊢
  by_cases hr : rightOf x 256 = 0
  rotate_left
  · obtain ⟨E, hE⟩ : ∃ E, rightOf x 256 = E := ⟨_, rfl⟩
    rw [hE] at CR hr
    have HL : Hid (lineText x.tk = ⟨#[]⟩) := by show _ = _; rw [HLT.out, if_neg (by rw [hE]; exact hr)]
    have d1 : (E == 0) = false := by rw [beq_eq_false_iff_ne]; exact hr
    have d2 : (E != 0) = true := by rw [bne, d1]; rfl
    clear HLT hE hr hx
    go_enter Tryz.func7, Tryz.ntmps7
    go_upto_region 1 with fail
    refine gen_world (fun v => Below w.heap.size w v ∧ AtB v w.heap.size x) ⟨bw_alloc (Below.refl _ _) _, atB_new w x _⟩ ?_
    intro u0 ⟨hb0, ⟨c0, c1, c2, c3, c4, c5, c6⟩⟩
    have B0 := Lib.hid hb0
    clear hb0
    go_wp2_with (go_at_call 20; (with_reducible refine (CR.out _ B0.out).mono ?_); rintro e u1 ⟨rfl, b1⟩; have B1 := Lib.hid (below_up B0.out b1); clear b1)
    go_ret
    exact ⟨by rw [HL.out]; rfl, B1.out⟩
  · have hsm := small_of hr (by omega)
    have HL : Hid (lineText x.tk = wholeOf x.tk) := by show _ = _; rw [HLT.out, if_pos hr]
    rw [hr] at CR
    have hchI : ∀ y ∈ x.ch, I64 y := fun y hy => by have := hsm.ch y hy; have := hsm.c; have := hsm.d; unfold I64; omega
    have husI : ∀ y ∈ x.us, I64 y := fun y hy => by have := hsm.us y hy; unfold I64; omega
    have i1 : I64 x.id := by have := hsm.id; unfold I64; omega
    have i2 : I64 x.c := by have := hsm.c; have := hsm.d; unfold I64; omega
    have i3 : I64 x.d := by have := hsm.c; have := hsm.d; unfold I64; omega
    have i4 : I64 x.t := by have := hsm.c; have := hsm.d; unfold I64; omega
    have i5 : I64 x.p := by have := hsm.p; unfold I64; omega
    obtain ⟨g1, hg1⟩ : ∃ g, digOf x.id = g := ⟨_, rfl⟩
    have z1 : g1.size ≤ 22 := by rw [← hg1]; exact digOf_size _ i1
    have D1 : Hid (∀ v, Calls Tryz.prog 21 #[.int .i64 x.id] v fun e w' => e = .returned (.string g1) ∧ Below v.heap.size v w') := fun v => by have := rdigits_any x.id i1 v; rwa [hg1] at this
    obtain ⟨g2, hg2⟩ : ∃ g, digOf x.c = g := ⟨_, rfl⟩
    have z2 : g2.size ≤ 22 := by rw [← hg2]; exact digOf_size _ i2
    have D2 : Hid (∀ v, Calls Tryz.prog 21 #[.int .i64 x.c] v fun e w' => e = .returned (.string g2) ∧ Below v.heap.size v w') := fun v => by have := rdigits_any x.c i2 v; rwa [hg2] at this
    obtain ⟨g3, hg3⟩ : ∃ g, digOf x.d = g := ⟨_, rfl⟩
    have z3 : g3.size ≤ 22 := by rw [← hg3]; exact digOf_size _ i3
    have D3 : Hid (∀ v, Calls Tryz.prog 21 #[.int .i64 x.d] v fun e w' => e = .returned (.string g3) ∧ Below v.heap.size v w') := fun v => by have := rdigits_any x.d i3 v; rwa [hg3] at this
    obtain ⟨g4, hg4⟩ : ∃ g, digOf x.t = g := ⟨_, rfl⟩
    have z4 : g4.size ≤ 22 := by rw [← hg4]; exact digOf_size _ i4
    have D4 : Hid (∀ v, Calls Tryz.prog 21 #[.int .i64 x.t] v fun e w' => e = .returned (.string g4) ∧ Below v.heap.size v w') := fun v => by have := rdigits_any x.t i4 v; rwa [hg4] at this
    obtain ⟨g5, hg5⟩ : ∃ g, digOf x.p = g := ⟨_, rfl⟩
    have z5 : g5.size ≤ 22 := by rw [← hg5]; exact digOf_size _ i5
    have D5 : Hid (∀ v, Calls Tryz.prog 21 #[.int .i64 x.p] v fun e w' => e = .returned (.string g5) ∧ Below v.heap.size v w') := fun v => by have := rdigits_any x.p i5 v; rwa [hg5] at this
    have ksUse : sUse.size = 5 := rfl
    have ksChunks : sChunks.size = 8 := rfl
    have ksP : sP.size = 3 := rfl
    have ksT : sT.size = 3 := rfl
    have ksD : sD.size = 3 := rfl
    have ksC : sC.size = 3 := rfl
    have ksTask : sTask.size = 5 := rfl
    obtain ⟨s1, hs1⟩ : ∃ s, sTask ++ g1 = s := ⟨_, rfl⟩
    have y1 : s1.size = sTask.size + g1.size := by rw [← hs1, ByteArray.size_append]
    obtain ⟨s2, hs2⟩ : ∃ s, s1 ++ sC = s := ⟨_, rfl⟩
    have y2 : s2.size = s1.size + sC.size := by rw [← hs2, ByteArray.size_append]
    obtain ⟨s3, hs3⟩ : ∃ s, s2 ++ g2 = s := ⟨_, rfl⟩
    have y3 : s3.size = s2.size + g2.size := by rw [← hs3, ByteArray.size_append]
    obtain ⟨s4, hs4⟩ : ∃ s, s3 ++ sD = s := ⟨_, rfl⟩
    have y4 : s4.size = s3.size + sD.size := by rw [← hs4, ByteArray.size_append]
    obtain ⟨s5, hs5⟩ : ∃ s, s4 ++ g3 = s := ⟨_, rfl⟩
    have y5 : s5.size = s4.size + g3.size := by rw [← hs5, ByteArray.size_append]
    obtain ⟨s6, hs6⟩ : ∃ s, s5 ++ sT = s := ⟨_, rfl⟩
    have y6 : s6.size = s5.size + sT.size := by rw [← hs6, ByteArray.size_append]
    obtain ⟨s7, hs7⟩ : ∃ s, s6 ++ g4 = s := ⟨_, rfl⟩
    have y7 : s7.size = s6.size + g4.size := by rw [← hs7, ByteArray.size_append]
    obtain ⟨s8, hs8⟩ : ∃ s, s7 ++ sP = s := ⟨_, rfl⟩
    have y8 : s8.size = s7.size + sP.size := by rw [← hs8, ByteArray.size_append]
    obtain ⟨s9, hs9⟩ : ∃ s, s8 ++ g5 = s := ⟨_, rfl⟩
    have y9 : s9.size = s8.size + g5.size := by rw [← hs9, ByteArray.size_append]
    have A1 := Lib.hid (add_str sTask g1 s1 hs1 (by omega))
    have A2 := Lib.hid (add_str s1 sC s2 hs2 (by omega))
    have A3 := Lib.hid (add_str s2 g2 s3 hs3 (by omega))
    have A4 := Lib.hid (add_str s3 sD s4 hs4 (by omega))
    have A5 := Lib.hid (add_str s4 g3 s5 hs5 (by omega))
    have A6 := Lib.hid (add_str s5 sT s6 hs6 (by omega))
    have A7 := Lib.hid (add_str s6 g4 s7 hs7 (by omega))
    have A8 := Lib.hid (add_str s7 sP s8 hs8 (by omega))
    have A9 := Lib.hid (add_str s8 g5 s9 hs9 (by omega))
    have HHD : Hid (headOf x.tk = s9) := by
      show _ = _
      unfold headOf TV.tk
      simp only []
      rw [hg1, hg2, hg3, hg4, hg5, hs1, hs2, hs3, hs4, hs5, hs6, hs7, hs8, hs9]
    have HS9 : Hid (s9.size ≤ 200) := by show _ ≤ _; omega
    obtain ⟨M, hM⟩ : ∃ M, midOf x.tk = M := ⟨_, rfl⟩
    obtain ⟨Z, hZ⟩ : ∃ Z, wholeOf x.tk = Z := ⟨_, rfl⟩
    have HM := Lib.hid hM
    have HZ := Lib.hid hZ
    have HCH := Lib.hid hchI
    have HUS := Lib.hid husI
    have HSM := Lib.hid hsm
    have HMS : Hid (M.size ≤ 2000) := by
      show _ ≤ _
      rw [← HM.out]
      unfold midOf
      split
      · rw [HHD.out]; have := HS9.out; omega
      · rw [ByteArray.size_append, ByteArray.size_append, HHD.out]
        have := HS9.out
        have e : (joinOf x.tk.ch).size ≤ 1472 := size_join HCH.out HSM.out.chl
        omega
    clear hM hZ hchI husI hsm i1 i2 i3 i4 i5 hg1 z1 hg2 z2 hg3 z3 hg4 z4 hg5 z5 hs1 y1 hs2 y2 hs3 y3 hs4 y4 hs5 y5 hs6 y6 hs7 y7 hs8 y8 hs9 y9 ksTask ksC ksD ksT ksP ksChunks ksUse hr hx HLT
    go_enter Tryz.func7, Tryz.ntmps7
    go_upto_region 1 with fail
    refine gen_world (fun v => Below w.heap.size w v ∧ AtB v w.heap.size x) ⟨bw_alloc (Below.refl _ _) _, atB_new w x _⟩ ?_
    intro u0 ⟨hb0, ht0⟩
    have B0 := Lib.hid hb0
    have T0 := Lib.hid ht0
    obtain ⟨c0, c1, c2, c3, c4, c5, c6⟩ := ht0
    clear hb0
    go_upto_region 3 with (go_at_call 20; (with_reducible refine (CR.out _ B0.out).mono ?_); rintro e u1 ⟨rfl, b1⟩; have B1 := Lib.hid (below_up B0.out b1); have T1 := Lib.hid (T0.out.below b1); clear b1)
    clear CR B0 T0 c0 c1 c2 c3 c4 c5 c6
    have MK : Hid (∀ v, Below u1.heap.size u1 v → (Below u1.heap.size u1 v ∧ v.cell? ⟨w.heap.size, 0, none⟩ = some (.int .i64 x.id) ∧ v.cell? ⟨w.heap.size, 1, none⟩ = some (.int .i64 x.c) ∧ v.cell? ⟨w.heap.size, 2, none⟩ = some (.int .i64 x.d) ∧ v.cell? ⟨w.heap.size, 3, none⟩ = some (.int .i64 x.t) ∧ v.cell? ⟨w.heap.size, 4, none⟩ = some (.int .i64 x.p))) := fun v hb => ⟨hb, kept_cell hb T1.out.c0, kept_cell hb T1.out.c1, kept_cell hb T1.out.c2, kept_cell hb T1.out.c3, kept_cell hb T1.out.c4⟩
    have E1 : Hid (∀ v, Below u1.heap.size u1 v → Calls Tryz.prog 21 #[.int .i64 x.id] v fun e w' => e = .returned (.string g1) ∧ Below u1.heap.size u1 w') := fun v hb => (D1.out v).mono fun _ _ ⟨h1, h2⟩ => ⟨h1, below_up hb h2⟩
    have E2 : Hid (∀ v, Below u1.heap.size u1 v → Calls Tryz.prog 21 #[.int .i64 x.c] v fun e w' => e = .returned (.string g2) ∧ Below u1.heap.size u1 w') := fun v hb => (D2.out v).mono fun _ _ ⟨h1, h2⟩ => ⟨h1, below_up hb h2⟩
    have E3 : Hid (∀ v, Below u1.heap.size u1 v → Calls Tryz.prog 21 #[.int .i64 x.d] v fun e w' => e = .returned (.string g3) ∧ Below u1.heap.size u1 w') := fun v hb => (D3.out v).mono fun _ _ ⟨h1, h2⟩ => ⟨h1, below_up hb h2⟩
    have E4 : Hid (∀ v, Below u1.heap.size u1 v → Calls Tryz.prog 21 #[.int .i64 x.t] v fun e w' => e = .returned (.string g4) ∧ Below u1.heap.size u1 w') := fun v hb => (D4.out v).mono fun _ _ ⟨h1, h2⟩ => ⟨h1, below_up hb h2⟩
    have E5 : Hid (∀ v, Below u1.heap.size u1 v → Calls Tryz.prog 21 #[.int .i64 x.p] v fun e w' => e = .returned (.string g5) ∧ Below u1.heap.size u1 w') := fun v hb => (D5.out v).mono fun _ _ ⟨h1, h2⟩ => ⟨h1, below_up hb h2⟩
    have a1 := A1.out
    have a2 := A2.out
    have a3 := A3.out
    have a4 := A4.out
    have a5 := A5.out
    have a6 := A6.out
    have a7 := A7.out
    have a8 := A8.out
    have a9 := A9.out
    go_cut [3] from 9 to 32 (fun u wx => u = .string s9 ∧ Hid (Below u1.heap.size u1 wx))
    case first =>
      go_region_held3 (fun v => Below u1.heap.size u1 v ∧ v.cell? ⟨w.heap.size, 0, none⟩ = some (.int .i64 x.id) ∧ v.cell? ⟨w.heap.size, 1, none⟩ = some (.int .i64 x.c) ∧ v.cell? ⟨w.heap.size, 2, none⟩ = some (.int .i64 x.d) ∧ v.cell? ⟨w.heap.size, 3, none⟩ = some (.int .i64 x.t) ∧ v.cell? ⟨w.heap.size, 4, none⟩ = some (.int .i64 x.p)) (exact MK.out _ (by repeat (first | exact Below.refl _ _ | (with_reducible assumption) | refine bw_alloc ?_ _ | refine bw_drew ?_))) (first
        | (go_at_call 21; (with_reducible refine (E1.out _ (by repeat (first | exact Below.refl _ _ | (with_reducible assumption) | refine bw_alloc ?_ _ | refine bw_drew ?_))).mono ?_); rintro e wx ⟨rfl, bx⟩)
        | (go_at_call 21; (with_reducible refine (E2.out _ (by repeat (first | exact Below.refl _ _ | (with_reducible assumption) | refine bw_alloc ?_ _ | refine bw_drew ?_))).mono ?_); rintro e wx ⟨rfl, bx⟩)
        | (go_at_call 21; (with_reducible refine (E3.out _ (by repeat (first | exact Below.refl _ _ | (with_reducible assumption) | refine bw_alloc ?_ _ | refine bw_drew ?_))).mono ?_); rintro e wx ⟨rfl, bx⟩)
        | (go_at_call 21; (with_reducible refine (E4.out _ (by repeat (first | exact Below.refl _ _ | (with_reducible assumption) | refine bw_alloc ?_ _ | refine bw_drew ?_))).mono ?_); rintro e wx ⟨rfl, bx⟩)
        | (go_at_call 21; (with_reducible refine (E5.out _ (by repeat (first | exact Below.refl _ _ | (with_reducible assumption) | refine bw_alloc ?_ _ | refine bw_drew ?_))).mono ?_); rintro e wx ⟨rfl, bx⟩))
      all_goals
        go_wp2_with fail
        go_meet
        exact ⟨rfl, Lib.hid (by assumption)⟩
    case rest =>
      obtain ⟨rfl, HB2⟩ := hcut
      have T2 := Lib.hid (T1.out.below HB2.out)
      have B2 := Lib.hid (below_up B1.out HB2.out)
      clear MK E1 E2 E3 E4 E5 D1 D2 D3 D4 D5 A1 A2 A3 A4 A5 A6 A7 A8 A9 a1 a2 a3 a4 a5 a6 a7 a8 a9 T1 B1 HB2
      have c5 := T2.out.c5
      obtain ⟨N, hN⟩ : ∃ N, x.ch.length = N := ⟨_, rfl⟩
      rw [hN] at c5
      go_upto_if 36 with fail
      go_cut [3] from 36 to 42 (fun u wy => u = .string M ∧ Hid (Below w.heap.size w wy) ∧ Hid (AtB wy w.heap.size x))
      case first =>
        by_cases hc : x.ch = []
        · have hM : Hid (M = s9) := by show _ = _; rw [← HM.out, ← HHD.out]; unfold midOf; rw [if_pos (show x.tk.ch = [] from hc)]
          have hl0 : N = 0 := by rw [← hN, hc]; rfl
          have hl1 : ¬ (0 : Int) < (N : Int) := by omega
          clear hl0 hc hN
          go_wp2_with fail
          go_meet
          exact ⟨by rw [hM.out], B2, T2⟩
        · have hlp : 0 < x.ch.length := List.length_pos_iff.2 hc
          obtain ⟨q, hq⟩ : ∃ q, joinOf x.ch = q := ⟨_, rfl⟩
          obtain ⟨m1, hm1⟩ : ∃ m, s9 ++ sChunks = m := ⟨_, rfl⟩
          have hM : m1 ++ q = M := by rw [← HM.out]; unfold midOf; rw [if_neg (show ¬ x.tk.ch = [] from hc), HHD.out, hm1]; show m1 ++ q = m1 ++ joinOf x.ch; rw [hq]
          have hqs : q.size ≤ 1472 := by rw [← hq]; exact size_join HCH.out HSM.out.chl
          have k8 : sChunks.size = 8 := rfl
          have hm1s : m1.size = s9.size + 8 := by rw [← hm1, ByteArray.size_append, k8]
          have CJ : Hid (∀ v, Below w.heap.size w v → Calls Tryz.prog 22 #[.slice x.a1 N x.c1] v fun e w' => e = .returned (.string q) ∧ Below v.heap.size v w') := fun v hb => by
            have := rjoin_any x.a1 N x.c1 x.ch hN (by have := HSM.out.chl; omega) HCH.out v (HX.out.one.below hb)
            rwa [hq] at this
          have b1 := add_str s9 sChunks m1 hm1 (by have := HS9.out; omega)
          have b2 := add_str m1 q M hM (by have := HS9.out; omega)
          rw [hN] at hlp
          have hlp2 : (0 : Int) < (N : Int) := by omega
          clear hN hq hm1 hM hqs k8 hm1s hc
          go_wp2_with (go_at_call 22; (with_reducible refine (CJ.out _ B2.out).mono ?_); rintro e wx ⟨rfl, bx⟩; have B3 := Lib.hid (below_up B2.out bx); have T3 := Lib.hid (T2.out.below bx); clear bx)
          go_meet
          exact ⟨rfl, B3, T3⟩
      case rest =>
        clear B2 T2 c5
        obtain ⟨rfl, B3, T3⟩ := hcut
        have c6 := T3.out.c6
        by_cases hu : x.us = []
        · have hZ : Hid (Z = M) := by show _ = _; rw [← HZ.out, ← HM.out]; unfold wholeOf; rw [if_pos (show x.tk.us = [] from hu)]
          have hl0 : x.us.length = 0 := by rw [hu]; rfl
          rw [hl0] at c6
          clear hl0 hu
          go_wp2_with fail
          go_ret
          exact ⟨by rw [HL.out, HZ.out, hZ.out]; rfl, B3.out⟩
        · have hlp : 0 < x.us.length := List.length_pos_iff.2 hu
          have hl64 := HSM.out.usl
          obtain ⟨K, hK⟩ : ∃ K, x.us.length = K := ⟨_, rfl⟩
          obtain ⟨q, hq⟩ : ∃ q, joinOf x.us = q := ⟨_, rfl⟩
          obtain ⟨m1, hm1⟩ : ∃ m, M ++ sUse = m := ⟨_, rfl⟩
          have hZ : m1 ++ q = Z := by rw [← HZ.out]; unfold wholeOf; rw [if_neg (show ¬ x.tk.us = [] from hu), HM.out, hm1]; show m1 ++ q = m1 ++ joinOf x.us; rw [hq]
          have hqs : q.size ≤ 1472 := by rw [← hq]; exact size_join HUS.out HSM.out.usl
          have k5 : sUse.size = 5 := rfl
          have hm1s : m1.size = M.size + 5 := by rw [← hm1, ByteArray.size_append, k5]
          have a1 := Lib.hid (add_str M sUse m1 hm1 (by have := HMS.out; omega))
          have a2 := Lib.hid (add_str m1 q Z hZ (by have := HMS.out; omega))
          rw [hK] at c6 hlp hl64
          have hlp2 : (0 : Int) < (K : Int) := by omega
          have CJ : Hid (∀ (a : Option Addr) (c : Nat) v, Ints v a x.us → Calls Tryz.prog 22 #[.slice a K c] v fun e w' => e = .returned (.string q) ∧ Below v.heap.size v w') := fun a c v hi => by
            have := rjoin_any a K c x.us hK (by omega) HUS.out v hi
            rwa [hq] at this
          have HK := Lib.hid hK
          have HX2 : Hid (∀ v, Below w.heap.size w v → Ints v x.a2 x.us) := fun v hb => HX.out.two.below hb
          have hdK : decide (0 < K) = true := by rw [decide_eq_true_eq]; exact hlp
          clear hq hm1 hZ hqs k5 hm1s hu hlp hN hK
          go_wp2_with fail
          try rw [hdK]
          try rw [show decide ((0 : Int) < (K : Int)) = true from decide_eq_true hlp2]
          go_loopw [4, 5] (fun v u wr => ∃ (k : Nat) (a' : Option Addr) (cp' : Nat), k ≤ K ∧ u = .int .i64 k ∧ v = .slice a' k cp' ∧ Hid (Below w.heap.size w wr) ∧ Hid (AtB wr w.heap.size x) ∧ Hid (OwnI wr 2 (w.heap.size + 1) (.slice a' k cp') (x.us.take k))) (fun _ u _ => (K - intOf u).toNat)
          case atStart => exact ⟨0, _, _, by omega, rfl, rfl, B3, T3, OwnI.nil _ _ _⟩
          case round =>
            obtain ⟨k, a', cp', hk, rfl, rfl, HB, HT, HP⟩ := hrel
            clear B3 T3 c6
            have c6 := HT.out.c6
            rw [HK.out] at c6
            by_cases hlt : k < K
            · obtain ⟨y, hy⟩ := nth_of HK.out hlt
              obtain ⟨g, o, eq, z0⟩ := (HX2.out wr HB.out).at_ hy
              rw [eq] at c6
              have hk1 : (k : Int) < (K : Int) := by omega
              have hk0 : (0 : Int) ≤ (k : Int) := by omega
              have HTL : Hid ((x.us.take k).length = k) := by show _ = _; rw [List.length_take, HK.out]; omega
              have HT2 : Hid (x.us.take k ++ [y] = x.us.take (k + 1)) := by show _ = _; rw [List.take_add_one, hy]; rfl
              have HSM2 : Hid ((((x.us.take k).length : Int) + ((1 : Nat) : Int)) ≤ 17592186044416) := by show _ ≤ _; rw [HTL.out]; omega
              have HNN : Hid ((x.us.take k).length + 1 = k + 1) := by show _ = _; rw [HTL.out]
              have hwr : w.heap.size < wr.heap.size := block_of_cell HT.out.c0
              have HSZ : Hid (w.heap.size + 1 ≤ (wr.alloc (.cells #[.int .i64 y] 2)).heap.size) := by show _ ≤ _; rw [World.size_alloc]; omega
              have HG : Hid (∀ w3, Below (w.heap.size + 1) wr w3 → Below w.heap.size w w3 ∧ AtB w3 w.heap.size x) := fun w3 h3 => ⟨HB.out.trans (h3.mono (by omega)), HT.out.belowB h3 (by omega)⟩
              clear hy eq
              go_wp2_with (at_builtin; refine wp_ints (m := 1) (l := [y]) numL rfl _ _ rfl rfl rfl (HP.out.below (by repeat (first | exact Below.refl _ _ | (with_reducible assumption) | refine bw_alloc ?_ _ | refine bw_drew ?_))) HSZ.out (ints_new _ _ _) rfl HSM2.out (fun z => by cases z) (k + 1) HNN.out ?_; intro a3 k3 w3 o3 g3 l3; have HO := Lib.hid (HT2.out ▸ o3); have HG3 := HG.out w3 (growni_new (((by repeat (first | exact Below.refl _ _ | (with_reducible assumption) | refine bw_alloc ?_ _ | refine bw_drew ?_)) : Below wr.heap.size wr _).mono hwr) (HP.out.below (by repeat (first | exact Below.refl _ _ | (with_reducible assumption) | refine bw_alloc ?_ _ | refine bw_drew ?_))) HSZ.out g3); have HB3 := Lib.hid HG3.1; have HT3 := Lib.hid HG3.2; clear o3 g3 l3 HG3)
              go_roundw
              case rel => first | exact ⟨k + 1, a3, k3, by omega, by go_num, rfl, HB3, HT3, HO⟩ | (simp only [hdK]; exact ⟨_, _, _, _, _, _, _, _, _, _, _, _, _, _, _, _, _, ⟨k + 1, a3, k3, by omega, by go_num, rfl, HB3, HT3, HO⟩, rfl⟩)
              case measure => simp [intOf]; omega
            · obtain rfl : K = k := by omega
              have HTT : Hid (x.us.take K = x.us) := by show _ = _; rw [← HK.out, List.take_length]
              have HI : Hid (Ints wr a' x.us) := by have := HP.out.ints.1; rwa [HTT.out] at this
              have b1 := a1.out
              have b2 := a2.out
              clear HTT HP hlt hk
              go_wp2_with (go_at_call 22; (with_reducible refine (CJ.out _ _ _ HI.out).mono ?_); rintro e wx ⟨rfl, bx⟩; have B4 := Lib.hid (below_up HB.out bx); clear bx)
              go_ret
              exact ⟨by rw [HL.out, HZ.out]; rfl, B4.out⟩
end Go.Proofs.YtlpffgmfgkleiaaGreatDoor

/-
  A system as a text, in plain words; the walk over the document's own.
-/
namespace Go.Proofs.YtlpffgmfgkleiaaGreatDoor
open Go.RowKit Go.Maps

abbrev sCache : ByteArray := ⟨#[99, 97, 99, 104, 101, 32]⟩
abbrev sSp : ByteArray := ⟨#[32]⟩
abbrev sNl : ByteArray := ⟨#[10]⟩
def headText (S R : Int) : ByteArray := sCache ++ digOf S ++ sSp ++ digOf R ++ sNl
def printRun (h : ByteArray) : List Tk → ByteArray
  | [] => h
  | t :: l => printRun (h ++ lineText t ++ sNl) l
/-- A system as a text; of one that is wrong none. -/
def printText (S R : Int) (l : List Tk) : ByteArray := if checkT S R l = 0 then printRun (headText S R) l else ⟨#[]⟩
theorem run_snoc (t : Tk) : ∀ (l : List Tk) (h : ByteArray), printRun h (l ++ [t]) = printRun h l ++ lineText t ++ sNl
  | [], _ => rfl
  | x :: l, h => by rw [List.cons_append, printRun, printRun, run_snoc t l]
theorem run_next {l : List Tk} {k : Nat} {t : Tk} (ht : l[k]? = some t) (h : ByteArray) : printRun h (l.take (k + 1)) = printRun h (l.take k) ++ lineText t ++ sNl := by
  rw [List.take_add_one, ht]
  exact run_snoc t _ h
theorem line_size (x : TV) : (lineText x.tk).size ≤ 3400 := by
  unfold lineText
  by_cases h : rightOf x.tk.tv 256 = 0
  rotate_left
  · rw [if_neg h]; exact Nat.zero_le _
  rw [if_pos h]
  have hs := small_of (x := x) (s := 256) h (by omega)
  have e1 := hs.id
  have e2 := hs.p
  have e3 := hs.c
  have e4 := hs.d
  have z1 := digOf_size x.tk.id (by unfold I64; show _ ≤ x.id ∧ x.id ≤ _; omega)
  have z2 := digOf_size x.tk.c (by unfold I64; show _ ≤ x.c ∧ x.c ≤ _; omega)
  have z3 := digOf_size x.tk.d (by unfold I64; show _ ≤ x.d ∧ x.d ≤ _; omega)
  have z4 := digOf_size x.tk.t (by unfold I64; show _ ≤ x.t ∧ x.t ≤ _; omega)
  have z5 := digOf_size x.tk.p (by unfold I64; show _ ≤ x.p ∧ x.p ≤ _; omega)
  have hh : (headOf x.tk).size ≤ 200 := by
    unfold headOf
    simp only [ByteArray.size_append]
    have k1 : sTask.size = 5 := rfl
    have k2 : sC.size = 3 := rfl
    have k3 : sD.size = 3 := rfl
    have k4 : sT.size = 3 := rfl
    have k5 : sP.size = 3 := rfl
    omega
  have hj1 := size_join (l := x.ch) (fun y hy => by have := hs.ch y hy; unfold I64; omega) hs.chl
  have hj2 := size_join (l := x.us) (fun y hy => by have := hs.us y hy; unfold I64; omega) hs.usl
  have hm : (midOf x.tk).size ≤ 1680 := by
    unfold midOf
    split
    · omega
    · simp only [ByteArray.size_append]
      have k1 : sChunks.size = 8 := rfl
      have : (joinOf x.tk.ch).size ≤ 1472 := hj1
      omega
  unfold wholeOf
  split
  · omega
  · simp only [ByteArray.size_append]
    have k1 : sUse.size = 5 := rfl
    have : (joinOf x.tk.us).size ≤ 1472 := hj2
    omega
theorem run_size (h : ByteArray) (L : List TV) (k : Nat) : (printRun h ((L.map TV.tk).take k)).size ≤ h.size + 3401 * k := by
  induction k with
  | zero => rw [List.take_zero]; exact Nat.le_refl _
  | succ k ih =>
    cases hx : L[k]? with
    | none =>
      have : L.length ≤ k := List.getElem?_eq_none_iff.1 hx
      rw [List.take_of_length_le (by rw [List.length_map]; omega)]
      rw [List.take_of_length_le (by rw [List.length_map]; omega)] at ih
      omega
    | some x =>
      rw [run_next (t := x.tk) (by rw [List.getElem?_map, hx]; rfl), ByteArray.size_append, ByteArray.size_append]
      have h1 := line_size x
      have h2 : sNl.size = 1 := rfl
      omega
/-- What is right by its system. -/
theorem first_all {s : Int} : ∀ (L : List TV) (last : Int) (seen : List Int), firstOf s last seen L = 0 → ∀ x ∈ L, rightOf x s = 0
  | [], _, _, _, x, hx => by cases hx
  | y :: L, last, seen, h, x, hx => by
    rw [firstOf] at h
    by_cases h1 : rightOf y s = 0
    rotate_left
    · rw [if_pos h1] at h; exact absurd h h1
    rw [if_neg (fun z => z h1)] at h
    split at h
    · cases h
    · split at h
      · cases h
      · rcases List.mem_cons.1 hx with rfl | hx
        · exact h1
        · exact first_all L _ _ h x hx
structure CheckOk (S R : Int) (L : List TV) : Prop where
  s : 0 ≤ S ∧ S ≤ 256
  r : 0 ≤ R ∧ R ≤ 1000
  pos : 0 < L.length
  most : L.length ≤ 64
  all : ∀ x ∈ L, rightOf x S = 0
  first : firstOf S 0 [] L = 0
theorem check_pass {S R : Int} {L : List TV} (h : checkOf S R L = 0) : CheckOk S R L := by
  unfold checkOf at h
  split at h
  · cases h
  · rename_i hb
    unfold sysBad at hb
    split at h
    · cases h
    · exact ⟨by omega, by omega, by omega, by omega, first_all L _ _ h, h⟩
theorem print_tk (S R : Int) (L : List TV) : printText S R (L.map TV.tk) = if checkOf S R L = 0 then printRun (headText S R) (L.map TV.tk) else ⟨#[]⟩ := by
  unfold printText; rw [check_tk]
theorem print_size (S R : Int) (L : List TV) : (printText S R (L.map TV.tk)).size ≤ 300000 := by
  rw [print_tk]
  by_cases h : checkOf S R L = 0
  rotate_left
  · rw [if_neg h]; exact Nat.zero_le _
  rw [if_pos h]
  have q := check_pass h
  have := run_size (headText S R) L L.length
  rw [List.take_of_length_le (by rw [List.length_map]; omega)] at this
  have h2 : (headText S R).size ≤ 60 := by
    unfold headText
    have z1 := digOf_size S (by have := q.s; unfold I64; omega)
    have z2 := digOf_size R (by have := q.r; unfold I64; omega)
    simp only [ByteArray.size_append]
    have k1 : sCache.size = 6 := rfl
    have k2 : sSp.size = 1 := rfl
    have k3 : sNl.size = 1 := rfl
    omega
  have := q.most
  omega

set_option maxRecDepth 100000 in
set_option maxHeartbeats 4000000 in
theorem rprint_any {w : World} {a : Option Addr} {n cap : Nat} {L : List TV} (S R : Int) (ha : Tasks w a n cap L) : Calls Tryz.prog 13 #[.agg #[.int .i64 S, .int .i64 R, .slice a n cap]] w fun e w' => e = .returned (.string (printText S R (L.map TV.tk))) ∧ Below w.heap.size w w' := by
  have CK : Hid (∀ v, Below w.heap.size w v → Calls Tryz.prog 30 #[.agg #[.int .i64 S, .int .i64 R, .slice a n cap]] v fun e w' => e = .returned (.int .i64 (checkOf S R L)) ∧ Below v.heap.size v w') := fun v hb => rcheck_any S R (ha.below hb)
  have HA := Lib.hid ha
  have HPT : Hid (printText S R (L.map TV.tk) = if checkOf S R L = 0 then printRun (headText S R) (L.map TV.tk) else ⟨#[]⟩) := print_tk S R L
  by_cases hr : checkOf S R L = 0
  rotate_left
  · obtain ⟨E, hE⟩ : ∃ E, checkOf S R L = E := ⟨_, rfl⟩
    rw [hE] at CK hr
    have HL : Hid (printText S R (L.map TV.tk) = ⟨#[]⟩) := by show _ = _; rw [HPT.out, if_neg (by rw [hE]; exact hr)]
    have d1 : (E == 0) = false := by rw [beq_eq_false_iff_ne]; exact hr
    have d2 : (E != 0) = true := by rw [bne, d1]; rfl
    clear HPT hE hr ha
    go_enter Tryz.func13, Tryz.ntmps13
    go_upto_region 1 with fail
    refine gen_world (SysB w w.heap.size S R a n cap) sysB_new ?_
    intro u0 h0
    have H0 := Lib.hid h0
    obtain ⟨-, c0, c1, c2⟩ := h0
    go_wp2_with (go_at_call 30; (with_reducible refine (CK.out _ H0.out.low).mono ?_); rintro e u1 ⟨rfl, b1⟩; have B1 := Lib.hid (below_up H0.out.low b1); clear b1)
    go_ret
    exact ⟨by rw [HL.out]; rfl, B1.out⟩
  · have hq := check_pass hr
    have HL : Hid (printText S R (L.map TV.tk) = printRun (headText S R) (L.map TV.tk)) := by show _ = _; rw [HPT.out, if_pos hr]
    rw [hr] at CK
    have i1 : I64 S := by have := hq.s; unfold I64; omega
    have i2 : I64 R := by have := hq.r; unfold I64; omega
    have hn : L.length = n := ha.len
    have hn64 : n ≤ 64 := by have := hq.most; omega
    obtain ⟨g1, hg1⟩ : ∃ g, digOf S = g := ⟨_, rfl⟩
    have z1 : g1.size ≤ 22 := by rw [← hg1]; exact digOf_size _ i1
    have D1 : Hid (∀ v, Calls Tryz.prog 21 #[.int .i64 S] v fun e w' => e = .returned (.string g1) ∧ Below v.heap.size v w') := fun v => by have := rdigits_any S i1 v; rwa [hg1] at this
    obtain ⟨g2, hg2⟩ : ∃ g, digOf R = g := ⟨_, rfl⟩
    have z2 : g2.size ≤ 22 := by rw [← hg2]; exact digOf_size _ i2
    have D2 : Hid (∀ v, Calls Tryz.prog 21 #[.int .i64 R] v fun e w' => e = .returned (.string g2) ∧ Below v.heap.size v w') := fun v => by have := rdigits_any R i2 v; rwa [hg2] at this
    have kCache : sCache.size = 6 := rfl
    have kSp : sSp.size = 1 := rfl
    have kNl : sNl.size = 1 := rfl
    obtain ⟨s1, hs1⟩ : ∃ s, sCache ++ g1 = s := ⟨_, rfl⟩
    have y1 : s1.size = sCache.size + g1.size := by rw [← hs1, ByteArray.size_append]
    obtain ⟨s2, hs2⟩ : ∃ s, s1 ++ sSp = s := ⟨_, rfl⟩
    have y2 : s2.size = s1.size + sSp.size := by rw [← hs2, ByteArray.size_append]
    obtain ⟨s3, hs3⟩ : ∃ s, s2 ++ g2 = s := ⟨_, rfl⟩
    have y3 : s3.size = s2.size + g2.size := by rw [← hs3, ByteArray.size_append]
    obtain ⟨s4, hs4⟩ : ∃ s, s3 ++ sNl = s := ⟨_, rfl⟩
    have y4 : s4.size = s3.size + sNl.size := by rw [← hs4, ByteArray.size_append]
    have A1 := Lib.hid (add_str sCache g1 s1 hs1 (by omega))
    have A2 := Lib.hid (add_str s1 sSp s2 hs2 (by omega))
    have A3 := Lib.hid (add_str s2 g2 s3 hs3 (by omega))
    have A4 := Lib.hid (add_str s3 sNl s4 hs4 (by omega))
    have HHD : Hid (headText S R = s4) := by
      show _ = _
      unfold headText
      rw [hg1, hg2, hs1, hs2, hs3, hs4]
    have HS4 : Hid (s4.size ≤ 60) := by show _ ≤ _; omega
    have HRL : Hid (∀ x ∈ L, rightOf x 256 = 0 → True) := fun _ _ _ => trivial
    have HRS : Hid (∀ k, (printRun s4 ((L.map TV.tk).take k)).size ≤ s4.size + 3401 * k) := fun k => run_size s4 L k
    rw [HHD.out] at HL
    clear i1 i2 hg1 hg2 z1 z2 hs1 hs2 hs3 hs4 y1 y2 y3 y4 kCache kSp kNl HRL hq hr HPT HHD ha
    have HN := Lib.hid hn
    clear hn
    go_enter Tryz.func13, Tryz.ntmps13
    go_upto_region 1 with fail
    refine gen_world (SysB w w.heap.size S R a n cap) sysB_new ?_
    intro u0 h0
    have H0 := Lib.hid h0
    obtain ⟨-, c0, c1, c2⟩ := h0
    go_upto_region 3 with (go_at_call 30; (with_reducible refine (CK.out _ H0.out.low).mono ?_); rintro e u1 ⟨rfl, b1⟩; have H1 := Lib.hid (H0.out.below b1); clear b1)
    clear CK H0 c0 c1 c2
    have MK : Hid (∀ v, Below u1.heap.size u1 v → (Below u1.heap.size u1 v ∧ v.cell? ⟨w.heap.size, 0, none⟩ = some (.int .i64 S) ∧ v.cell? ⟨w.heap.size, 1, none⟩ = some (.int .i64 R))) := fun v hb => ⟨hb, kept_cell hb H1.out.s0, kept_cell hb H1.out.s1⟩
    have E1 : Hid (∀ v, Below u1.heap.size u1 v → Calls Tryz.prog 21 #[.int .i64 S] v fun e w' => e = .returned (.string g1) ∧ Below u1.heap.size u1 w') := fun v hb => (D1.out v).mono fun _ _ ⟨h1, h2⟩ => ⟨h1, below_up hb h2⟩
    have E2 : Hid (∀ v, Below u1.heap.size u1 v → Calls Tryz.prog 21 #[.int .i64 R] v fun e w' => e = .returned (.string g2) ∧ Below u1.heap.size u1 w') := fun v hb => (D2.out v).mono fun _ _ ⟨h1, h2⟩ => ⟨h1, below_up hb h2⟩
    have a1 := A1.out
    have a2 := A2.out
    have a3 := A3.out
    have a4 := A4.out
    go_cut [3] from 8 to 18 (fun u wx => u = .string s4 ∧ Hid (Below u1.heap.size u1 wx))
    case first =>
      go_region_held3 (fun v => Below u1.heap.size u1 v ∧ v.cell? ⟨w.heap.size, 0, none⟩ = some (.int .i64 S) ∧ v.cell? ⟨w.heap.size, 1, none⟩ = some (.int .i64 R)) (exact MK.out _ (by repeat (first | exact Below.refl _ _ | (with_reducible assumption) | refine bw_alloc ?_ _ | refine bw_drew ?_))) (first
        | (go_at_call 21; (with_reducible refine (E1.out _ (by repeat (first | exact Below.refl _ _ | (with_reducible assumption) | refine bw_alloc ?_ _ | refine bw_drew ?_))).mono ?_); rintro e wx ⟨rfl, bx⟩)
        | (go_at_call 21; (with_reducible refine (E2.out _ (by repeat (first | exact Below.refl _ _ | (with_reducible assumption) | refine bw_alloc ?_ _ | refine bw_drew ?_))).mono ?_); rintro e wx ⟨rfl, bx⟩))
      all_goals
        go_wp2_with fail
        go_meet
        exact ⟨rfl, Lib.hid (by assumption)⟩
    case rest =>
      obtain ⟨rfl, HB2⟩ := hcut
      have H2 := Lib.hid (H1.out.below HB2.out)
      clear MK E1 E2 D1 D2 A1 A2 A3 A4 a1 a2 a3 a4 H1 HB2
      go_wp2_with fail
      go_loopw [3, 4] (fun v u wr => ∃ (k : Nat), k ≤ n ∧ u = .int .i64 k ∧ v = .string (printRun s4 ((L.map TV.tk).take k)) ∧ Hid (SysB w w.heap.size S R a n cap wr)) (fun _ u _ => (n - intOf u).toNat)
      case atStart => exact ⟨0, by omega, rfl, rfl, H2⟩
      case round =>
        obtain ⟨k, hk, rfl, rfl, HP⟩ := hrel
        clear H2
        obtain ⟨_, q0, q1, q2⟩ := HP.out
        by_cases hlt : k < n
        · obtain ⟨x, hx⟩ := nth_of HA.out.len hlt
          obtain ⟨g, o, rfl, ⟨c0, c1, c2, c3, c4, c5, c6⟩⟩ := (HA.out.view.below HP.out.low).at_ hx
          have hk1 : (k : Int) < (n : Int) := by omega
          have hk0 : (0 : Int) ≤ (k : Int) := by omega
          obtain ⟨X, hX⟩ : ∃ X, printRun s4 ((L.map TV.tk).take k) = X := ⟨_, rfl⟩
          obtain ⟨Y, hY⟩ : ∃ Y, lineText x.tk = Y := ⟨_, rfl⟩
          obtain ⟨m1, hm1⟩ : ∃ m, X ++ Y = m := ⟨_, rfl⟩
          obtain ⟨m2, hm2⟩ : ∃ m, m1 ++ sNl = m := ⟨_, rfl⟩
          have HNX : Hid (printRun s4 ((L.map TV.tk).take (k + 1)) = m2) := by
            show _ = _
            rw [run_next (t := x.tk) (by rw [List.getElem?_map, hx]; rfl), hX, hY, hm1, hm2]
          have hYs : Y.size ≤ 3400 := by rw [← hY]; exact line_size x
          have hXs : X.size ≤ s4.size + 3401 * k := by rw [← hX]; exact HRS.out k
          have hm1s : m1.size = X.size + Y.size := by rw [← hm1, ByteArray.size_append]
          have k1 : sNl.size = 1 := rfl
          have b1 := add_str X Y m1 hm1 (by have := HS4.out; omega)
          have b2 := add_str m1 sNl m2 hm2 (by have := HS4.out; omega)
          have CL : Hid (∀ v, Below wr.heap.size wr v → Calls Tryz.prog 7 #[x.val] v fun e w' => e = .returned (.string Y) ∧ Below v.heap.size v w') := fun v hb => by
            have := rtext_any x v (((HA.out.ok.at_ hx).below HP.out.low).below hb)
            rwa [hY] at this
          unfold TV.val at CL
          rw [hX]
          clear hx hX hY hm1 hm2 hYs hXs hm1s k1
          go_wp2_with (go_at_call 7; (with_reducible refine (CL.out _ (by repeat (first | exact Below.refl _ _ | (with_reducible assumption) | refine bw_alloc ?_ _ | refine bw_drew ?_))).mono ?_); rintro e w2 ⟨rfl, b2⟩; have HP2 := Lib.hid (HP.out.below b2); clear b2)
          go_roundw
          case rel => exact ⟨k + 1, by omega, by go_num, by rw [HNX.out], HP2⟩
          case measure => simp [intOf]; omega
        · obtain rfl : n = k := by omega
          have HT : Hid (printRun s4 ((L.map TV.tk).take n) = printText S R (L.map TV.tk)) := by
            show _ = _
            rw [HL.out, List.take_of_length_le (by rw [List.length_map, HN.out]; exact Nat.le_refl _)]
          rw [HT.out]
          go_wp2_with fail
          go_ret
          exact ⟨rfl, HP.out.low⟩
end Go.Proofs.YtlpffgmfgkleiaaGreatDoor

/-
  The walk over whether two rows of words are the same.
-/
namespace Go.Proofs.YtlpffgmfgkleiaaGreatDoor
open Go.RowKit Go.Maps

theorem wordGuard : Tryz.prog.eqGuardType Tryz.prog.depth 66 = false := by kernel_rfl
theorem wordFields : Tryz.prog.underlying 66 = some (.struct (Tryz.prog.fieldsOf 66)) := by kernel_rfl
theorem wordStood : Tryz.prog.stoodInHeld 66 = false := by kernel_rfl
theorem word_ne (x y : WV) (w : World) : (binOp .neq 66 (.agg #[.int .i64 x.at_, .int .i64 x.ln, .string x.tx]) (.agg #[.int .i64 y.at_, .int .i64 y.ln, .string y.tx])).run Tryz.prog w = .ok (.bool (decide (¬ x = y))) w := by
  have u1 := Tryz.underlying3
  have u2 := Tryz.underlying9
  rw [run_neq_struct, show (10000 : Nat) = 9999 + 1 from rfl, run_equalIn_agg w 9999 _ _ _ wordFields wordStood]
  simp only [Program.fieldsOf, Tryz.underlying66]
  go_simp
  obtain ⟨a, b, c⟩ := x
  obtain ⟨d, e, f⟩ := y
  simp only [WV.mk.injEq]
  have e3 := beq_toListBytes c f
  by_cases h3 : c = f
  · subst h3
    by_cases h1 : a = d <;> by_cases h2 : b = e <;> simp [h1, h2]
  · have d3 : (c == f) = false := by
      obtain ⟨c⟩ := c
      obtain ⟨f⟩ := f
      change (c == f) = false
      rw [beq_eq_false_iff_ne]
      intro q; exact h3 (by rw [q])
    rw [d3] at e3
    have q3 : ¬ c.toList = f.toList := by have := e3.symm; rwa [beq_eq_false_iff_ne] at this
    by_cases h1 : a = d <;> by_cases h2 : b = e <;> simp [h1, h2, h3, q3]

theorem wsame_step {l m : List WV} {k : Nat} {x y : WV} (h : l.take k = m.take k) (hx : l[k]? = some x) (hy : m[k]? = some y) (e : x = y) : l.take (k + 1) = m.take (k + 1) := by
  rw [List.take_add_one, List.take_add_one, h, hx, hy, e]
theorem wsame_end {l m : List WV} {k : Nat} (h : l.take k = m.take k) (hl : l.length = k) (hm : m.length = k) : l = m := by
  rwa [List.take_of_length_le (by omega), List.take_of_length_le (by omega)] at h
theorem wsame_not {l m : List WV} {k : Nat} {x y : WV} (hx : l[k]? = some x) (hy : m[k]? = some y) (e : ¬ x = y) : ¬ l = m := by
  rintro rfl; rw [hx] at hy; cases hy; exact e rfl

attribute [-go_sem] run_neq_struct
attribute [local go_sem] word_ne wordGuard
end Go.Proofs.YtlpffgmfgkleiaaGreatDoor

/-
  The walks over digits, as the program writes them; what is asked of all words at the beginning.
-/
namespace Go.Proofs.YtlpffgmfgkleiaaGreatDoor
open Go.RowKit Go.Maps

/-- The table of the powers of ten. -/
def PT (w : World) : Prop := Lib.TabIs Tryz.prog w "internal/strconv.uint64pow10" .u64 Lib.pow10Tab
theorem PT.below {w w' : World} (h : PT w) (hb : Below w.heap.size w w') : PT w' := Lib.tabBelow_of_tabIs h w' hb
theorem upOf_dec (n : Nat) : upOf n = ⟨(Lib.decDigits n).toArray⟩ := by
  induction n using Nat.strongRecOn with
  | _ n ih =>
    by_cases h : n < 10
    · rw [upOf_small h, Lib.decDigits, dif_pos h]
    · rw [upOf_more h, Lib.decDigits, dif_neg h, ih (n / 10) (by omega)]
      apply ByteArray.ext
      rw [ByteArray.data_append]
      simp
theorem digOf_itoa (n : Int) : (⟨(Lib.itoa n).toArray⟩ : ByteArray) = digOf n := by
  unfold Lib.itoa digOf
  split
  · rw [upOf_dec]
    apply ByteArray.ext
    rw [ByteArray.data_append]
    simp
  · rw [upOf_dec, show n.natAbs = n.toNat by omega]
theorem digits_any (n : Int) (hn : I64 n) (w : World) (hT : PT w) : Calls Tryz.prog 16 #[.int .i64 n] w fun e w' => e = .returned (.string (digOf n)) ∧ Below w.heap.size w w' := by
  have C := Lib.hid (Tryz.strconv_FormatInt_10 n hn.1 hn.2 w hT)
  rw [digOf_itoa] at C
  generalize digOf n = s at C ⊢
  clear hT
  go_enter Tryz.func16, Tryz.ntmps16
  go_wp2_with (go_at_call 39; (with_reducible refine C.out.mono ?_); rintro e w' ⟨rfl, hw⟩)
  go_ret
  obtain ⟨k, os, rfl⟩ := hw
  exact ⟨rfl, Lib.below_grow _ _ (Nat.le_refl _) k os⟩
theorem digits_12 (w : World) : Calls Tryz.prog 16 #[.int .i64 12] w fun e w' => e = .returned (.string ⟨#[49, 50]⟩) ∧ Below w.heap.size w w' := by
  have C := Lib.hid (Tryz.strconv_FormatInt_10_small 12 (by decide) w)
  rw [show Lib.decDigits 12 = [49, 50] by rw [Lib.decDigits, dif_neg (by decide), Lib.decDigits, dif_pos (by decide)]; rfl] at C
  go_enter Tryz.func16, Tryz.ntmps16
  go_wp2_with (go_at_call 39; (refine C.out.mono ?_); rintro e w' ⟨rfl, rfl⟩)
  go_ret
  exact ⟨rfl, Below.refl _ _⟩

/-- The words of the chapter's example. -/
def exWords : List WV := [⟨0, 1, ⟨#[97]⟩⟩, ⟨3, 1, ⟨#[98]⟩⟩, ⟨7, 2, ⟨#[100]⟩⟩]
theorem exWords_is : wordsOf ⟨#[97, 32, 32, 98, 35, 99, 10, 100]⟩ = exWords := by decide +kernel
theorem ex_view (w : World) : WView (w.alloc (.cells #[.int .i64 0, .int .i64 1, .string ⟨#[97]⟩, .int .i64 3, .int .i64 1, .string ⟨#[98]⟩, .int .i64 7, .int .i64 2, .string ⟨#[100]⟩] WT)) (some ⟨w.heap.size, 0, none⟩) exWords :=
  .inr ⟨_, 0, rfl, fun j u hj => by
    rw [World.cell?_alloc_new]
    match j, hj with
    | 0, hj => exact hj
    | 1, hj => exact hj
    | 2, hj => exact hj
    | 3, hj => exact hj
    | 4, hj => exact hj
    | 5, hj => exact hj
    | 6, hj => exact hj
    | 7, hj => exact hj
    | 8, hj => exact hj
    | j + 9, hj => simp [exWords, wflat, WV.cells] at hj⟩
end Go.Proofs.YtlpffgmfgkleiaaGreatDoor

/-
  The walk over numbers put together, as the program does.
-/
namespace Go.Proofs.YtlpffgmfgkleiaaGreatDoor
open Go.RowKit Go.Maps

abbrev Bld (B : Nat) (t : ByteArray) (w : World) : Prop := Lib.IsBuilderF 71 5 B B (Lib.byteCells t.data.toList) w
theorem grown_of {w w' : World} (h : Below w.heap.size w w') : w.grownBy w' none := ⟨h.os, h.tape, h.output, h.size, fun k hk _ => h.block k hk⟩
theorem atF_below {T e : TypeId} {B b : Nat} {p : Value} {bs : List Value} {w w' : World} (h : Lib.BuilderAtF T e B b p bs w) (hb : Below w.heap.size w w') : Lib.BuilderAtF T e B b p bs w' := by
  obtain ⟨h1, v, h2, h3, h4⟩ := h
  refine ⟨h1, v, kept_obj hb h2, h3.kept (grown_of hb) ?_, h4⟩
  cases v.ownBlock with
  | none => exact .inl rfl
  | some k => exact .inr (by simp)
theorem bld_below {B : Nat} {t : ByteArray} {w w' : World} (h : Bld B t w) (hb : Below w.heap.size w w') : Bld B t w' := h.elim (fun x => .inl (atF_below x hb)) (fun x => .inr (atF_below x hb))
theorem list_size (t : ByteArray) : t.data.toList.length = t.size := by simp
theorem bld_comma {B : Nat} {t : ByteArray} {w : World} (h : Bld B t w) (ht : t.size ≤ 1000000000) (hB : B ≤ w.heap.size) : Calls Tryz.prog 40 #[.pointer (some ⟨B, 0, none⟩), .int .u8 44] w fun e w' =>
    e = .returned .nilIface ∧ Bld B (t ++ ⟨#[44]⟩) w' ∧ Below B w w' :=
  (Any.Builder_WriteByte_k Tryz.buildLays167 Tryz.buildExtra B B (Lib.byteCells t.data.toList) 44 w h (by rw [Lib.byteCells_length, list_size]; omega) hB).mono fun e w' ⟨h1, h2, h3, _⟩ => ⟨h1, .inr (by rw [ByteArray.data_append, Array.toList_append, Lib.byteCells_append]; exact h2), h3⟩
theorem bld_text {B : Nat} {t : ByteArray} {w : World} (h : Bld B t w) (u : ByteArray) (ht : t.size + u.size ≤ 1000000000) (hB : B ≤ w.heap.size) : Calls Tryz.prog 28 #[.pointer (some ⟨B, 0, none⟩), .string u] w fun e w' =>
    ∃ v, e = .returned v ∧ Bld B (t ++ u) w' ∧ Below B w w' :=
  (Any.Builder_WriteString_k Tryz.buildLays166 Tryz.buildExtra B B (Lib.byteCells t.data.toList) u w h (by rw [Lib.byteCells_length, list_size]; omega) hB).mono fun e w' ⟨h1, h2, h3, _⟩ => ⟨_, h1, .inr (by rw [ByteArray.data_append, Array.toList_append, Lib.byteCells_append]; exact h2), h3⟩
theorem bld_string {B : Nat} {t : ByteArray} {w : World} (h : Bld B t w) (hB : B ≤ w.heap.size) : Calls Tryz.prog 29 #[.pointer (some ⟨B, 0, none⟩)] w fun e w' =>
    e = .returned (.string t) ∧ Below B w w' :=
  (Tryz.Builder_String_any_k B B t.data.toList w h hB).mono fun e w' ⟨h1, _, h3, _⟩ => ⟨by rw [h1], h3⟩

set_option maxRecDepth 100000 in
set_option maxHeartbeats 4000000 in
theorem join_any (a : Option Addr) (n cap : Nat) (l : List Int) (hl : l.length = n) (hn : n ≤ 2000000) (hw : ∀ x ∈ l, I64 x) (w : World) (h : Ints w a l) (hT : PT w) : Calls Tryz.prog 17 #[.slice a n cap] w fun e w' => e = .returned (.string (joinOf l)) ∧ Below w.heap.size w w' := by
  have H := Lib.hid h
  have HL := Lib.hid hl
  have HW := Lib.hid hw
  have HT : Hid (PT w) := hT
  clear h hl hw hT
  go_enter Tryz.func17, Tryz.ntmps17
  go_wp2
  go_loopw [8] (fun u wr => ∃ (i : Nat) (t : ByteArray), i ≤ n ∧ u = .int .i64 i ∧ Hid (jrun l i = t) ∧ Hid (Below w.heap.size w wr) ∧ Hid (Bld w.heap.size t wr)) (fun u _ => (n - intOf u).toNat)
  case atStart => exact ⟨0, ⟨#[]⟩, by omega, rfl, rfl, (Below.refl _ w).alloc (Nat.le_refl _) _, Lib.IsBuilderF.of (Lib.fresh_isBuilder _ _ w)⟩
  case round =>
    obtain ⟨i, t, hi, rfl, HJ, HB, HP⟩ := hrel
    by_cases hlt : i < n
    · obtain ⟨x, hx⟩ := nth_of HL.out hlt
      obtain ⟨g, o, rfl, hc⟩ := (H.out.below HB.out).at_ hx
      have hxI := HW.out x (List.mem_of_getElem? hx)
      have HTB : Hid (PT wr) := HT.out.below HB.out
      have hsz := jrun_size l HW.out i
      rw [HJ.out] at hsz
      have hds := digOf_size x hxI
      obtain ⟨d, hd⟩ : ∃ d, digOf x = d := ⟨_, rfl⟩
      have HD := Lib.hid (fun w hT => digits_any x hxI w hT)
      rw [hd] at HD hds
      have hpl : (i : Int) < (n : Int) := by omega
      have hwi : IntKind.i64.wrap ((i : Int) + 1) = (i : Int) + 1 := IntWalk.i64_in _ (by omega)
      have hwB := HB.out.size
      by_cases h0 : i = 0
      · have hp0 : ¬ (0 : Int) < (i : Int) := by omega
        have HJ2 : Hid (jrun l (i + 1) = t ++ d) := by show _ = _; rw [jrun, if_pos h0, hx, HJ.out]; simp only [Option.getD_some]; rw [hd]
        have HSZ : Hid (t.size + d.size ≤ 1000000000) := by show _ ≤ _; omega
        clear h0 hd hsz hds hx
        go_wp2_with (first
          | (go_at_call 16; (with_reducible refine (HD.out _ HTB.out).mono ?_); rintro e w1 ⟨rfl, b1⟩; have B1 := Lib.hid b1; have P1 := Lib.hid (bld_below HP.out b1); have S1 := b1.size; clear b1)
          | (go_at_call 28; (with_reducible refine (bld_text P1.out d HSZ.out (Nat.le_trans hwB S1)).mono ?_); rintro e w2 ⟨v, rfl, p2, b2⟩; have B2 := Lib.hid b2; have P2 := Lib.hid p2; clear b2 p2))
        go_roundw
        case rel => exact ⟨i + 1, t ++ d, by omega, by go_num, HJ2, (below_up HB.out B1.out).trans B2.out, P2⟩
        case measure => simp [intOf]; omega
      · have hp0 : (0 : Int) < (i : Int) := by omega
        have hns : (⟨#[44]⟩ : ByteArray).size = 1 := rfl
        have HJ2 : Hid (jrun l (i + 1) = t ++ ⟨#[44]⟩ ++ d) := by show _ = _; rw [jrun, if_neg h0, hx, HJ.out]; simp only [Option.getD_some]; rw [hd]
        have HSZ : Hid ((t ++ ⟨#[44]⟩).size + d.size ≤ 1000000000) := by show _ ≤ _; rw [ByteArray.size_append, hns]; omega
        have HS0 : Hid (t.size ≤ 1000000000) := by show _ ≤ _; omega
        clear h0 hd hsz hds hx
        go_wp2_with (first
          | (go_at_call 40; (with_reducible refine (bld_comma HP.out HS0.out hwB).mono ?_); rintro e w0 ⟨rfl, p0, b0⟩; have B0 := Lib.hid b0; have P0 := Lib.hid p0; have S0 := b0.size; have T0 := Lib.hid (HT.out.below (HB.out.trans b0)); clear b0 p0)
          | (go_at_call 16; (with_reducible refine (HD.out _ T0.out).mono ?_); rintro e w1 ⟨rfl, b1⟩; have B1 := Lib.hid b1; have P1 := Lib.hid (bld_below P0.out b1); have S1 := b1.size; clear b1)
          | (go_at_call 28; (with_reducible refine (bld_text P1.out d HSZ.out (Nat.le_trans hwB (Nat.le_trans S0 S1))).mono ?_); rintro e w2 ⟨v, rfl, p2, b2⟩; have B2 := Lib.hid b2; have P2 := Lib.hid p2; clear b2 p2))
        go_roundw
        case rel => exact ⟨i + 1, t ++ ⟨#[44]⟩ ++ d, by omega, by go_num, HJ2, ((HB.out.trans B0.out).trans (B1.out.mono (Nat.le_trans hwB S0))).trans B2.out, P2⟩
        case measure => simp [intOf]; omega
    · obtain rfl : i = n := by omega
      have HF : Hid (joinOf l = t) := by show _ = _; unfold joinOf; rw [HL.out, HJ.out]
      have hwB := HB.out.size
      go_wp2_with (go_at_call 29; (with_reducible refine (bld_string HP.out hwB).mono ?_); rintro e w2 ⟨rfl, b2⟩; have B2 := Lib.hid b2; clear b2)
      go_ret
      exact ⟨by rw [HF.out]; rfl, HB.out.trans B2.out⟩
end Go.Proofs.YtlpffgmfgkleiaaGreatDoor

/-
  Rows of texts: what lies in memory; a text put behind one's own; texts joined.
-/
namespace Go.Proofs.YtlpffgmfgkleiaaGreatDoor
open Go.RowKit Go.Maps

def Strs (w : World) (a : Option Addr) (l : List ByteArray) : Prop := l = [] ∨ ∃ g o, a = some ⟨g, o, none⟩ ∧ ∀ j u, l[j]? = some u → w.cell? ⟨g, o + j, none⟩ = some (.string u)
def vz (l : List ByteArray) : List Value := l.map .string
theorem vz_len (l : List ByteArray) : (vz l).length = l.length := by simp [vz]
theorem vz_at {l : List ByteArray} {j : Nat} {u : ByteArray} (h : l[j]? = some u) : (vz l)[j]? = some (.string u) := by simp [vz, h]
theorem vz_one (l : List ByteArray) : ∀ u ∈ vz l, u.oneCell' = true := by
  intro u hu
  obtain ⟨_, _, rfl⟩ := List.mem_map.1 hu
  rfl
/-- A row of texts of one's own. -/
def OwnZ (w : World) (B : Nat) (v : Value) (l : List ByteArray) : Prop := w.ownsRow B 9 1 v l.length (vz l)
theorem OwnZ.slice {w : World} {B : Nat} {v : Value} {l : List ByteArray} (h : OwnZ w B v l) : ∃ a cap, v = .slice a l.length cap ∧ Strs w a l ∧ l.length ≤ cap := by
  rcases h.2 with ⟨rfl, h0⟩ | ⟨g, cap, cur, rfl, _, h3, h1, h2, h4, h5⟩
  · exact ⟨none, 0, by rw [h0], .inl (List.length_eq_zero_iff.1 h0), by omega⟩
  · refine ⟨_, cap, rfl, .inr ⟨g, 0, rfl, fun j u hj => ?_⟩, h1⟩
    rw [Nat.zero_add, blk_cell h3]
    have := vz_at hj
    rw [← h5, List.getElem?_take] at this
    split at this
    · simpa using this
    · cases this
theorem OwnZ.below {w w' : World} {B : Nat} {v : Value} {l : List ByteArray} (h : OwnZ w B v l) (hb : Below w.heap.size w w') : OwnZ w' B v l := by
  rcases h with ⟨h0, h | ⟨g, cap, cur, rfl, hB, h3, r⟩⟩
  · exact ⟨h0, .inl h⟩
  · exact ⟨h0, .inr ⟨g, cap, cur, rfl, hB, kept_obj hb h3, r⟩⟩
theorem strs_new (w : World) (x : ByteArray) (T : TypeId) : Strs (w.alloc (.cells #[.string x] T)) (some ⟨w.heap.size, 0, none⟩) [x] :=
  .inr ⟨_, 0, rfl, fun j u hj => by
    match j, hj with
    | 0, hj => simp at hj; subst hj; rw [World.cell?_alloc_new]; rfl
    | j + 1, hj => simp at hj⟩
theorem ownz_six (w : World) (x0 x1 x2 x3 x4 x5 : ByteArray) : OwnZ (w.alloc (.cells #[.string x0, .string x1, .string x2, .string x3, .string x4, .string x5] 9)) w.heap.size (.slice (some ⟨w.heap.size, 0, none⟩) 6 6) [x0, x1, x2, x3, x4, x5] :=
  ⟨rfl, .inr ⟨w.heap.size, 6, #[.string x0, .string x1, .string x2, .string x3, .string x4, .string x5], rfl, Nat.le_refl _, heap_alloc_new w _, Nat.le_refl _, by unfold maxLen; omega, rfl, rfl⟩⟩
theorem strType : ∃ i, Tryz.prog.info? 9 = some i ∧ i.zero = some (.string ⟨#[]⟩) ∧ i.size = 1 ∧ i.bytes = 16 := by
  have h : (Tryz.prog.info? 9).map (fun i => (i.zero, i.size, i.bytes)) = some (some (.string ⟨#[]⟩), 1, 16) := by kernel_rfl
  obtain ⟨i, h1, h2⟩ := Option.map_eq_some_iff.1 h
  simp only [Prod.mk.injEq] at h2
  exact ⟨i, h1, h2.1, h2.2.1, h2.2.2⟩
theorem append_strs {w : World} {B m c : Nat} {v : Value} {q l : List ByteArray} {x : Addr} (h : OwnZ w B v q) (hB : B ≤ w.heap.size) (hv : Strs w (some x) l) (hl : l.length = m) (hs : (q.length + m : Int) ≤ 2000000) (ty : TypeId) :
    ∃ v' w', (Builtin.append_ #[49, 49] ty #[v, .slice (some x) m c]).run Tryz.prog w = .ok v' w' ∧ OwnZ w' B v' (q ++ l) ∧ w.grownBy w' v.ownBlock ∧ ∀ k, v'.ownBlock = some k → v.ownBlock = some k ∨ w.heap.size ≤ k := by
  obtain ⟨i0, hi, hz0, hz1, hz2⟩ := strType
  have hnews : ∀ j u, (vz l)[j]? = some u → w.cell? (x.add j) = some u := by
    intro j u hj
    rcases hv with rfl | ⟨g, o, e, hc⟩
    · simp [vz] at hj
    · cases e
      simp only [vz, List.getElem?_map, Option.map_eq_some_iff] at hj
      obtain ⟨y, hy, rfl⟩ := hj
      rw [addr_at]; exact hc j y hy
  obtain ⟨v', w', h1, h2, h3, _, h5⟩ := run_append_own_at (P := Tryz.prog) w B 49 ty 9 i0 _ 1 16 Tryz.underlying49 hi hz0 hz1 hz2 rfl (by decide) v q.length (vz q) h x m c (vz l) (by simp [vz, hl]) hnews (vz_one l) (by unfold maxLen; omega) (by omega) hB
  refine ⟨v', w', h1, ?_, h3, fun k hk => ?_⟩
  · unfold OwnZ
    rw [List.length_append, hl]
    unfold vz at h2 ⊢
    rw [List.map_append]
    exact h2
  · rcases h5 with z | z
    · left; rw [← z]; exact hk
    · right; rw [z] at hk; cases hk; exact Nat.le_refl _
theorem wp_strs {ops : Array Oper} {rest : List Oper} {o : Oper} {a : Act} {Q : Exit → Act → World → Prop} {w : World} (hgd : o.guard = none) (s x : Operand)
    (ho : o.op = .call { callee := .builtin .append, args := #[s, x], argTypes := #[49, 49] }) {B m c : Nat} {v : Value} {q l : List ByteArray} {ad : Addr} (hs : a.eval s = v) (hx : a.eval x = .slice (some ad) m c)
    (hown : OwnZ w B v q) (hB : B ≤ w.heap.size) (hv : Strs w (some ad) l) (hl : l.length = m) (hsm : (q.length + m : Int) ≤ 2000000) (N : Nat) (hN : q.length + m = N)
    (h : ∀ a' cp' w', OwnZ w' B (.slice a' N cp') (q ++ l) → w.grownBy w' v.ownBlock → (∀ k, (Value.slice a' N cp').ownBlock = some k → v.ownBlock = some k ∨ w.heap.size ≤ k) → wpList Tryz.prog ops Q rest (a.put o.dst (.slice a' N cp')) w') : wpList Tryz.prog ops Q (o :: rest) a w := by
  refine wpList_step fun K hK => ?_
  have hw : Region.wanted o (yielded ops a.tmps) = true := by simp [Region.wanted, hgd]
  rw [if_pos hw]
  obtain ⟨v', w', hr, h2, h3, h4⟩ := append_strs (c := c) hown hB hv hl hsm o.type
  obtain ⟨a', cp', hv', _⟩ := h2.slice
  rw [List.length_append, hl, hN] at hv'
  subst hv'
  unfold Oper.wp execOp
  simp only [ho, resolve, invoke, builtin, Sem.run_bind, Sem.run_pure, Result.andThen_ok, List.map_toArray, List.map_cons, List.map_nil, hs, hx, hr]
  exact hK _ _ (h a' cp' w' h2 h3 h4)
theorem grownz_new {w w1 w2 : World} {B N : Nat} {v : Value} {q : List ByteArray} (hl : Below N w w1) (ho : OwnZ w1 B v q) (hB : N ≤ B) (hN : N ≤ w1.heap.size) (hg : w1.grownBy w2 v.ownBlock) : Below N w w2 :=
  hl.grown hg hN (fun k hk => by have := (World.ownsRow.lt ho k hk).1; omega)

/-- Texts with a blank between. -/
def joinZ : List ByteArray → ByteArray
  | [] => ⟨#[]⟩
  | [x] => x
  | x :: y :: l => x ++ ⟨#[32]⟩ ++ joinZ (y :: l)
theorem joinz_lib : ∀ l : List ByteArray, (joinZ l).data.toList = Lib.join (l.map (·.data.toList)) [32]
  | [] => rfl
  | [x] => by rw [joinZ, List.map_cons, List.map_nil, Lib.join_one]
  | x :: y :: l => by
    have ih := joinz_lib (y :: l)
    rw [joinZ, ByteArray.data_append, ByteArray.data_append, Array.toList_append, Array.toList_append, ih, List.map_cons, List.map_cons, Lib.join_cons, Lib.join_cons]
    simp [Lib.joinTail]
theorem strjoin_any (g o c n : Nat) (l : List ByteArray) (hl : l.length = n) (w : World) (h : Strs w (some ⟨g, o, none⟩) l) (hp : 0 < n) (hn : n ≤ 2000000) (hc : n ≤ c) (hs : (joinZ l).size ≤ 1000000000) :
    Calls Tryz.prog 19 #[.slice (some ⟨g, o, none⟩) n c, .string ⟨#[32]⟩] w fun e w' => e = .returned (.string (joinZ l)) ∧ Below w.heap.size w w' := by
  subst hl
  have hcells : ∀ (j : Nat) x, l[j]? = some x → w.cell? ⟨g, o + j, none⟩ = some (.string x) := by
    rcases h with rfl | ⟨g', o', e, hc⟩
    · intro j x hj; cases hj
    · cases e; exact hc
  have hbk : g < w.heap.size := by
    obtain ⟨x, hx⟩ := nth_of (rfl : l.length = l.length) hp
    exact block_of_cell (hcells 0 x hx)
  have e := joinz_lib l
  have h2 : (joinZ l).data.toList.length = (joinZ l).size := by simp
  have := Tryz.strings_Join g o c l ⟨#[32]⟩ w hcells hbk (by omega) hc (by show (Lib.join (l.map (·.data.toList)) [32]).length ≤ _; rw [← e, h2]; omega)
  refine this.mono fun e' w' ⟨h1, h3⟩ => ⟨?_, h3⟩
  rw [h1]
  show Ending.returned (.string ⟨(Lib.join (l.map (·.data.toList)) [32]).toArray⟩) = _
  rw [← e]
end Go.Proofs.YtlpffgmfgkleiaaGreatDoor

/-
  The words of a task's text, in plain words.
-/
namespace Go.Proofs.YtlpffgmfgkleiaaGreatDoor
open Go.RowKit Go.Maps

abbrev tC : ByteArray := ⟨#[99, 61]⟩
abbrev tD : ByteArray := ⟨#[100, 61]⟩
abbrev tT : ByteArray := ⟨#[116, 61]⟩
abbrev tP : ByteArray := ⟨#[112, 61]⟩
abbrev tChunks : ByteArray := ⟨#[99, 104, 117, 110, 107, 115, 61]⟩
abbrev tUse : ByteArray := ⟨#[117, 115, 101, 61]⟩
def sixOf (t : Tk) : List ByteArray := [bTask, digOf t.id, tC ++ digOf t.c, tD ++ digOf t.d, tT ++ digOf t.t, tP ++ digOf t.p]
def chZ (t : Tk) : List ByteArray := if t.ch = [] then [] else [tChunks ++ joinOf t.ch]
def usZ (t : Tk) : List ByteArray := if t.us = [] then [] else [tUse ++ joinOf t.us]
theorem sTask_is : sTask = bTask ++ ⟨#[32]⟩ := rfl
theorem sC_is : sC = ⟨#[32]⟩ ++ tC := rfl
theorem sD_is : sD = ⟨#[32]⟩ ++ tD := rfl
theorem sT_is : sT = ⟨#[32]⟩ ++ tT := rfl
theorem sP_is : sP = ⟨#[32]⟩ ++ tP := rfl
theorem sChunks_is : sChunks = ⟨#[32]⟩ ++ tChunks := rfl
theorem sUse_is : sUse = ⟨#[32]⟩ ++ tUse := rfl
theorem whole_words (t : Tk) : wholeOf t = joinZ (sixOf t ++ chZ t ++ usZ t) := by
  unfold wholeOf midOf headOf chZ usZ sixOf
  by_cases h1 : t.ch = []
  · by_cases h2 : t.us = []
    · simp only [if_pos h1, if_pos h2, List.append_nil, joinZ, sTask_is, sC_is, sD_is, sT_is, sP_is, ByteArray.append_assoc]
    · simp only [if_pos h1, if_neg h2, List.append_nil, List.cons_append, List.nil_append, joinZ, sTask_is, sC_is, sD_is, sT_is, sP_is, sUse_is, ByteArray.append_assoc]
  · by_cases h2 : t.us = []
    · simp only [if_neg h1, if_pos h2, List.append_nil, List.cons_append, List.nil_append, joinZ, sTask_is, sC_is, sD_is, sT_is, sP_is, sChunks_is, ByteArray.append_assoc]
    · simp only [if_neg h1, if_neg h2, List.append_nil, List.cons_append, List.nil_append, joinZ, sTask_is, sC_is, sD_is, sT_is, sP_is, sChunks_is, sUse_is, ByteArray.append_assoc]
end Go.Proofs.YtlpffgmfgkleiaaGreatDoor

/-
  The walk over a task as a text, as the program writes it.
-/
namespace Go.Proofs.YtlpffgmfgkleiaaGreatDoor
open Go.RowKit Go.Maps

theorem ownz_six_low {N : Nat} {u w : World} (hb : Below u.heap.size u w) (hN : N ≤ u.heap.size) (x0 x1 x2 x3 x4 x5 : ByteArray) : OwnZ (w.alloc (.cells #[.string x0, .string x1, .string x2, .string x3, .string x4, .string x5] 9)) N (.slice (some ⟨w.heap.size, 0, none⟩) 6 6) [x0, x1, x2, x3, x4, x5] :=
  ⟨rfl, .inr ⟨w.heap.size, 6, #[.string x0, .string x1, .string x2, .string x3, .string x4, .string x5], rfl, Nat.le_trans hN hb.size, heap_alloc_new w _, Nat.le_refl _, by unfold maxLen; omega, rfl, rfl⟩⟩
theorem OwnZ.some_ {w : World} {B n c : Nat} {a : Option Addr} {l : List ByteArray} (h : OwnZ w B (.slice a n c) l) (hl : 0 < l.length) : ∃ g, a = some ⟨g, 0, none⟩ ∧ Strs w (some ⟨g, 0, none⟩) l ∧ l.length = n ∧ n ≤ c := by
  rcases h.2 with ⟨e, h0⟩ | ⟨g, cap, cur, e, _, _, h1, _, _, _⟩
  · omega
  · cases e
    obtain ⟨a', cap', e', hs, _⟩ := h.slice
    cases e'
    exact ⟨g, rfl, hs, rfl, h1⟩

set_option maxRecDepth 100000 in
set_option maxHeartbeats 4000000 in
theorem line_any (x : TV) (w : World) (hx : x.ok w) (hT : PT w) : Calls Tryz.prog 6 #[x.val] w fun e w' => e = .returned (.string (lineText x.tk)) ∧ Below w.heap.size w w' := by
  have CR : Hid (∀ v, Below w.heap.size w v → Calls Tryz.prog 15 #[x.val, .int .i64 256] v fun e w' => e = .returned (.int .i64 (rightOf x 256)) ∧ Below v.heap.size v w') := fun v hb => right_any x 256 v (hx.below hb)
  have HX := Lib.hid hx
  have HPT : Hid (PT w) := hT
  have HLT : Hid (lineText x.tk = if rightOf x 256 = 0 then wholeOf x.tk else ⟨#[]⟩) := rfl
  unfold TV.val at CR ⊢
  by_cases hr : rightOf x 256 = 0
  rotate_left
  · obtain ⟨E, hE⟩ : ∃ E, rightOf x 256 = E := ⟨_, rfl⟩
    rw [hE] at CR hr
    have HL : Hid (lineText x.tk = ⟨#[]⟩) := by show _ = _; rw [HLT.out, if_neg (by rw [hE]; exact hr)]
    have d1 : (E == 0) = false := by rw [beq_eq_false_iff_ne]; exact hr
    have d2 : (E != 0) = true := by rw [bne, d1]; rfl
    clear HLT hE hr hx hT
    go_enter Tryz.func6, Tryz.ntmps6
    go_upto_region 1 with fail
    refine gen_world (fun v => Below w.heap.size w v ∧ AtB v w.heap.size x) ⟨bw_alloc (Below.refl _ _) _, atB_new w x _⟩ ?_
    intro u0 ⟨hb0, ⟨c0, c1, c2, c3, c4, c5, c6⟩⟩
    have B0 := Lib.hid hb0
    clear hb0
    go_wp2_with (go_at_call 15; (with_reducible refine (CR.out _ B0.out).mono ?_); rintro e u1 ⟨rfl, b1⟩; have B1 := Lib.hid (below_up B0.out b1); clear b1)
    go_ret
    exact ⟨by rw [HL.out]; rfl, B1.out⟩
  · have hsm := small_of hr (by omega)
    have HL : Hid (lineText x.tk = wholeOf x.tk) := by show _ = _; rw [HLT.out, if_pos hr]
    rw [hr] at CR
    have hchI : ∀ y ∈ x.ch, I64 y := fun y hy => by have := hsm.ch y hy; have := hsm.c; have := hsm.d; unfold I64; omega
    have husI : ∀ y ∈ x.us, I64 y := fun y hy => by have := hsm.us y hy; unfold I64; omega
    have i1 : I64 x.id := by have := hsm.id; unfold I64; omega
    have i2 : I64 x.c := by have := hsm.c; have := hsm.d; unfold I64; omega
    have i3 : I64 x.d := by have := hsm.c; have := hsm.d; unfold I64; omega
    have i4 : I64 x.t := by have := hsm.c; have := hsm.d; unfold I64; omega
    have i5 : I64 x.p := by have := hsm.p; unfold I64; omega
    obtain ⟨g1, hg1⟩ : ∃ g, digOf x.id = g := ⟨_, rfl⟩
    have z1 : g1.size ≤ 22 := by rw [← hg1]; exact digOf_size _ i1
    have D1 : Hid (∀ v, PT v → Calls Tryz.prog 16 #[.int .i64 x.id] v fun e w' => e = .returned (.string g1) ∧ Below v.heap.size v w') := fun v hT => by have := digits_any x.id i1 v hT; rwa [hg1] at this
    obtain ⟨g2, hg2⟩ : ∃ g, digOf x.c = g := ⟨_, rfl⟩
    have z2 : g2.size ≤ 22 := by rw [← hg2]; exact digOf_size _ i2
    have D2 : Hid (∀ v, PT v → Calls Tryz.prog 16 #[.int .i64 x.c] v fun e w' => e = .returned (.string g2) ∧ Below v.heap.size v w') := fun v hT => by have := digits_any x.c i2 v hT; rwa [hg2] at this
    obtain ⟨h2, hh2⟩ : ∃ h, tC ++ g2 = h := ⟨_, rfl⟩
    have y2 : tC.size = 2 := rfl
    have A2 := Lib.hid (add_str tC g2 h2 hh2 (by omega))
    obtain ⟨g3, hg3⟩ : ∃ g, digOf x.d = g := ⟨_, rfl⟩
    have z3 : g3.size ≤ 22 := by rw [← hg3]; exact digOf_size _ i3
    have D3 : Hid (∀ v, PT v → Calls Tryz.prog 16 #[.int .i64 x.d] v fun e w' => e = .returned (.string g3) ∧ Below v.heap.size v w') := fun v hT => by have := digits_any x.d i3 v hT; rwa [hg3] at this
    obtain ⟨h3, hh3⟩ : ∃ h, tD ++ g3 = h := ⟨_, rfl⟩
    have y3 : tD.size = 2 := rfl
    have A3 := Lib.hid (add_str tD g3 h3 hh3 (by omega))
    obtain ⟨g4, hg4⟩ : ∃ g, digOf x.t = g := ⟨_, rfl⟩
    have z4 : g4.size ≤ 22 := by rw [← hg4]; exact digOf_size _ i4
    have D4 : Hid (∀ v, PT v → Calls Tryz.prog 16 #[.int .i64 x.t] v fun e w' => e = .returned (.string g4) ∧ Below v.heap.size v w') := fun v hT => by have := digits_any x.t i4 v hT; rwa [hg4] at this
    obtain ⟨h4, hh4⟩ : ∃ h, tT ++ g4 = h := ⟨_, rfl⟩
    have y4 : tT.size = 2 := rfl
    have A4 := Lib.hid (add_str tT g4 h4 hh4 (by omega))
    obtain ⟨g5, hg5⟩ : ∃ g, digOf x.p = g := ⟨_, rfl⟩
    have z5 : g5.size ≤ 22 := by rw [← hg5]; exact digOf_size _ i5
    have D5 : Hid (∀ v, PT v → Calls Tryz.prog 16 #[.int .i64 x.p] v fun e w' => e = .returned (.string g5) ∧ Below v.heap.size v w') := fun v hT => by have := digits_any x.p i5 v hT; rwa [hg5] at this
    obtain ⟨h5, hh5⟩ : ∃ h, tP ++ g5 = h := ⟨_, rfl⟩
    have y5 : tP.size = 2 := rfl
    have A5 := Lib.hid (add_str tP g5 h5 hh5 (by omega))
    have HSIX : Hid (sixOf x.tk = [bTask, g1, h2, h3, h4, h5]) := by
      show _ = _
      unfold sixOf TV.tk
      simp only []
      rw [hg1, hg2, hg3, hg4, hg5, hh2, hh3, hh4, hh5]
    have HCH := Lib.hid hchI
    have HUS := Lib.hid husI
    have HSM := Lib.hid hsm
    have HZS : Hid ((joinZ (sixOf x.tk ++ chZ x.tk ++ usZ x.tk)).size ≤ 3400) := by
      show _ ≤ _
      rw [← whole_words, ← HL.out]
      have := HL.out
      exact line_size x
    have HWZ := Lib.hid (whole_words x.tk)
    clear hchI husI hsm i1 i2 i3 i4 i5 hg1 z1 hg2 z2 hh2 y2 hg3 z3 hh3 y3 hg4 z4 hh4 y4 hg5 z5 hh5 y5 hr hx HLT hT
    go_enter Tryz.func6, Tryz.ntmps6
    go_upto_region 1 with fail
    refine gen_world (fun v => Below w.heap.size w v ∧ AtB v w.heap.size x) ⟨bw_alloc (Below.refl _ _) _, atB_new w x _⟩ ?_
    intro u0 ⟨hb0, ht0⟩
    have B0 := Lib.hid hb0
    have T0 := Lib.hid ht0
    obtain ⟨c0, c1, c2, c3, c4, c5, c6⟩ := ht0
    clear hb0
    go_upto_region 3 with (go_at_call 15; (with_reducible refine (CR.out _ B0.out).mono ?_); rintro e u1 ⟨rfl, b1⟩; have B1 := Lib.hid (below_up B0.out b1); have T1 := Lib.hid (T0.out.below b1); clear b1)
    clear CR B0 T0 c0 c1 c2 c3 c4 c5 c6
    have HP1 : Hid (PT u1) := HPT.out.below B1.out
    have HN1 : Hid (w.heap.size + 1 ≤ u1.heap.size) := block_of_cell T1.out.c0
    have MK : Hid (∀ v, Below u1.heap.size u1 v → (Below u1.heap.size u1 v ∧ v.cell? ⟨w.heap.size, 0, none⟩ = some (.int .i64 x.id) ∧ v.cell? ⟨w.heap.size, 1, none⟩ = some (.int .i64 x.c) ∧ v.cell? ⟨w.heap.size, 2, none⟩ = some (.int .i64 x.d) ∧ v.cell? ⟨w.heap.size, 3, none⟩ = some (.int .i64 x.t) ∧ v.cell? ⟨w.heap.size, 4, none⟩ = some (.int .i64 x.p))) := fun v hb => ⟨hb, kept_cell hb T1.out.c0, kept_cell hb T1.out.c1, kept_cell hb T1.out.c2, kept_cell hb T1.out.c3, kept_cell hb T1.out.c4⟩
    have E1 : Hid (∀ v, Below u1.heap.size u1 v → Calls Tryz.prog 16 #[.int .i64 x.id] v fun e w' => e = .returned (.string g1) ∧ Below u1.heap.size u1 w') := fun v hb => (D1.out v (HP1.out.below hb)).mono fun _ _ ⟨h1, h2⟩ => ⟨h1, below_up hb h2⟩
    have E2 : Hid (∀ v, Below u1.heap.size u1 v → Calls Tryz.prog 16 #[.int .i64 x.c] v fun e w' => e = .returned (.string g2) ∧ Below u1.heap.size u1 w') := fun v hb => (D2.out v (HP1.out.below hb)).mono fun _ _ ⟨h1, h2⟩ => ⟨h1, below_up hb h2⟩
    have E3 : Hid (∀ v, Below u1.heap.size u1 v → Calls Tryz.prog 16 #[.int .i64 x.d] v fun e w' => e = .returned (.string g3) ∧ Below u1.heap.size u1 w') := fun v hb => (D3.out v (HP1.out.below hb)).mono fun _ _ ⟨h1, h2⟩ => ⟨h1, below_up hb h2⟩
    have E4 : Hid (∀ v, Below u1.heap.size u1 v → Calls Tryz.prog 16 #[.int .i64 x.t] v fun e w' => e = .returned (.string g4) ∧ Below u1.heap.size u1 w') := fun v hb => (D4.out v (HP1.out.below hb)).mono fun _ _ ⟨h1, h2⟩ => ⟨h1, below_up hb h2⟩
    have E5 : Hid (∀ v, Below u1.heap.size u1 v → Calls Tryz.prog 16 #[.int .i64 x.p] v fun e w' => e = .returned (.string g5) ∧ Below u1.heap.size u1 w') := fun v hb => (D5.out v (HP1.out.below hb)).mono fun _ _ ⟨h1, h2⟩ => ⟨h1, below_up hb h2⟩
    have a2 := A2.out
    have a3 := A3.out
    have a4 := A4.out
    have a5 := A5.out
    go_cut [3] from 7 to 27 (fun u wx => ∃ g : Nat, u = .slice (some ⟨g, 0, none⟩) 6 6 ∧ Hid (Below u1.heap.size u1 wx) ∧ Hid (OwnZ wx (w.heap.size + 1) (.slice (some ⟨g, 0, none⟩) 6 6) [bTask, g1, h2, h3, h4, h5]))
    case first =>
      go_region_held3 (fun v => Below u1.heap.size u1 v ∧ v.cell? ⟨w.heap.size, 0, none⟩ = some (.int .i64 x.id) ∧ v.cell? ⟨w.heap.size, 1, none⟩ = some (.int .i64 x.c) ∧ v.cell? ⟨w.heap.size, 2, none⟩ = some (.int .i64 x.d) ∧ v.cell? ⟨w.heap.size, 3, none⟩ = some (.int .i64 x.t) ∧ v.cell? ⟨w.heap.size, 4, none⟩ = some (.int .i64 x.p)) (exact MK.out _ (by repeat (first | exact Below.refl _ _ | (with_reducible assumption) | refine bw_alloc ?_ _ | refine bw_drew ?_))) (first
        | (go_at_call 16; (with_reducible refine (E1.out _ (by repeat (first | exact Below.refl _ _ | (with_reducible assumption) | refine bw_alloc ?_ _ | refine bw_drew ?_))).mono ?_); rintro e wx ⟨rfl, bx⟩)
        | (go_at_call 16; (with_reducible refine (E2.out _ (by repeat (first | exact Below.refl _ _ | (with_reducible assumption) | refine bw_alloc ?_ _ | refine bw_drew ?_))).mono ?_); rintro e wx ⟨rfl, bx⟩)
        | (go_at_call 16; (with_reducible refine (E3.out _ (by repeat (first | exact Below.refl _ _ | (with_reducible assumption) | refine bw_alloc ?_ _ | refine bw_drew ?_))).mono ?_); rintro e wx ⟨rfl, bx⟩)
        | (go_at_call 16; (with_reducible refine (E4.out _ (by repeat (first | exact Below.refl _ _ | (with_reducible assumption) | refine bw_alloc ?_ _ | refine bw_drew ?_))).mono ?_); rintro e wx ⟨rfl, bx⟩)
        | (go_at_call 16; (with_reducible refine (E5.out _ (by repeat (first | exact Below.refl _ _ | (with_reducible assumption) | refine bw_alloc ?_ _ | refine bw_drew ?_))).mono ?_); rintro e wx ⟨rfl, bx⟩))
      all_goals
        go_wp2_with fail
        go_meet
        exact ⟨_, rfl, Lib.hid (by repeat (first | exact Below.refl _ _ | (with_reducible assumption) | refine bw_alloc ?_ _ | refine bw_drew ?_)), Lib.hid (ownz_six_low (u := u1) (by repeat (first | exact Below.refl _ _ | (with_reducible assumption) | refine bw_alloc ?_ _ | refine bw_drew ?_)) HN1.out _ _ _ _ _ _)⟩
    case rest =>
      obtain ⟨g6, rfl, HB2, HO2⟩ := hcut
      have T2 := Lib.hid (T1.out.below HB2.out)
      have B2 := Lib.hid (below_up B1.out HB2.out)
      clear MK E1 E2 E3 E4 E5 D1 D2 D3 D4 D5 A2 A3 A4 A5 a2 a3 a4 a5 T1 B1 HB2 HP1 HN1
      have c5 := T2.out.c5
      obtain ⟨N, hN⟩ : ∃ N, x.ch.length = N := ⟨_, rfl⟩
      rw [hN] at c5
      go_upto_if 30 with fail
      go_cut [3] from 27 to 38 (fun u wy => ∃ (a' : Option Addr) (n' cp' : Nat), u = .slice a' n' cp' ∧ Hid (Below w.heap.size w wy) ∧ Hid (AtB wy w.heap.size x) ∧ Hid (OwnZ wy (w.heap.size + 1) (.slice a' n' cp') (sixOf x.tk ++ chZ x.tk)))
      case first =>
        by_cases hc : x.ch = []
        · have hM : Hid (sixOf x.tk ++ chZ x.tk = [bTask, g1, h2, h3, h4, h5]) := by show _ = _; unfold chZ; rw [if_pos (show x.tk.ch = [] from hc), HSIX.out]; rfl
          have hl0 : N = 0 := by rw [← hN, hc]; rfl
          have hl1 : ¬ (0 : Int) < (N : Int) := by omega
          clear hl0 hc hN
          go_wp2_with fail
          go_meet
          exact ⟨_, _, _, rfl, B2, T2, by rw [hM.out]; exact HO2⟩
        · have hlp : 0 < x.ch.length := List.length_pos_iff.2 hc
          obtain ⟨q, hq⟩ : ∃ q, joinOf x.ch = q := ⟨_, rfl⟩
          obtain ⟨m1, hm1⟩ : ∃ m, tChunks ++ q = m := ⟨_, rfl⟩
          have hM : Hid (sixOf x.tk ++ chZ x.tk = [bTask, g1, h2, h3, h4, h5] ++ [m1]) := by show _ = _; unfold chZ; rw [if_neg (show ¬ x.tk.ch = [] from hc), HSIX.out]; show _ ++ [tChunks ++ joinOf x.ch] = _; rw [hq, hm1]
          have hqs : q.size ≤ 1472 := by rw [← hq]; exact size_join HCH.out HSM.out.chl
          have k8 : tChunks.size = 7 := rfl
          have CJ : Hid (∀ v, Below w.heap.size w v → Calls Tryz.prog 17 #[.slice x.a1 N x.c1] v fun e w' => e = .returned (.string q) ∧ Below v.heap.size v w') := fun v hb => by
            have := join_any x.a1 N x.c1 x.ch hN (by have := HSM.out.chl; omega) HCH.out v (HX.out.one.below hb) (HPT.out.below hb)
            rwa [hq] at this
          have b1 := add_str tChunks q m1 hm1 (by omega)
          rw [hN] at hlp
          have hlp2 : (0 : Int) < (N : Int) := by omega
          clear hN hq hm1 hqs k8 hc
          go_wp2_with (first
            | (go_at_call 17; (with_reducible refine (CJ.out _ B2.out).mono ?_); rintro e wx ⟨rfl, bx⟩; have B3 := Lib.hid (below_up B2.out bx); have T3 := Lib.hid (T2.out.below bx); have O3 := Lib.hid (HO2.out.below bx); have N3 : Hid (w.heap.size + 1 ≤ wx.heap.size) := (block_of_cell T3.out.c0 : w.heap.size < wx.heap.size); clear bx)
            | (at_builtin; refine wp_strs (m := 1) (l := [m1]) rfl _ _ rfl rfl rfl (O3.out.below (by repeat (first | exact Below.refl _ _ | (with_reducible assumption) | refine bw_alloc ?_ _ | refine bw_drew ?_))) (by rw [World.size_alloc]; have := N3.out; omega) (strs_new _ _ _) rfl (by simp) 7 rfl ?_; intro a3 k3 w3 o3 g3 l3; have HG := grownz_new (N := w.heap.size + 1) ((bw_alloc (Below.refl _ _) _ : Below wx.heap.size wx _).mono N3.out) (O3.out.below (by repeat (first | exact Below.refl _ _ | (with_reducible assumption) | refine bw_alloc ?_ _ | refine bw_drew ?_))) (Nat.le_refl _) (by rw [World.size_alloc]; have := N3.out; omega) g3; have B4 := Lib.hid (B3.out.trans (HG.mono (by omega))); have T4 := Lib.hid (T3.out.belowB HG (by omega)); have O4 := Lib.hid o3; clear o3 g3 l3 HG))
          go_meet
          exact ⟨_, _, _, rfl, B4, T4, by rw [hM.out]; exact O4⟩
      case rest =>
        clear B2 T2 c5 hN HO2
        obtain ⟨a3, n3, p3, rfl, B3, T3, O3⟩ := hcut
        have c6 := T3.out.c6
        obtain ⟨K, hK⟩ : ∃ K, x.us.length = K := ⟨_, rfl⟩
        rw [hK] at c6
        go_upto_if 41 with fail
        go_cut [3] from 38 to 50 (fun u wy => ∃ (a' : Option Addr) (n' cp' : Nat), u = .slice a' n' cp' ∧ Hid (Below w.heap.size w wy) ∧ Hid (OwnZ wy (w.heap.size + 1) (.slice a' n' cp') (sixOf x.tk ++ chZ x.tk ++ usZ x.tk)))
        case first =>
          by_cases hc : x.us = []
          · have hM : Hid (sixOf x.tk ++ chZ x.tk ++ usZ x.tk = sixOf x.tk ++ chZ x.tk) := by show _ = _; unfold usZ; rw [if_pos (show x.tk.us = [] from hc), List.append_nil]
            have hl0 : K = 0 := by rw [← hK, hc]; rfl
            have hl1 : ¬ (0 : Int) < (K : Int) := by omega
            clear hl0 hc hK
            go_wp2_with fail
            go_meet
            exact ⟨_, _, _, rfl, B3, by rw [hM.out]; exact O3⟩
          · have hlp : 0 < x.us.length := List.length_pos_iff.2 hc
            obtain ⟨q, hq⟩ : ∃ q, joinOf x.us = q := ⟨_, rfl⟩
            obtain ⟨m1, hm1⟩ : ∃ m, tUse ++ q = m := ⟨_, rfl⟩
            have hM : Hid (sixOf x.tk ++ chZ x.tk ++ usZ x.tk = (sixOf x.tk ++ chZ x.tk) ++ [m1]) := by show _ = _; unfold usZ; rw [if_neg (show ¬ x.tk.us = [] from hc)]; show _ ++ [tUse ++ joinOf x.us] = _; rw [hq, hm1]
            have hqs : q.size ≤ 1472 := by rw [← hq]; exact size_join HUS.out HSM.out.usl
            have k8 : tUse.size = 4 := rfl
            have CA : Hid (∀ v, Below w.heap.size w v → Calls Tryz.prog 18 #[.slice x.a2 K x.c2] v (AsBack 2 x.us K v)) := fun v hb => as_qi x.a2 K x.c2 x.us hK (by have := HSM.out.usl; omega) v (HX.out.two.below hb)
            have CJ : Hid (∀ (a : Option Addr) (c : Nat) v, Below w.heap.size w v → Ints v a x.us → Calls Tryz.prog 17 #[.slice a K c] v fun e w' => e = .returned (.string q) ∧ Below v.heap.size v w') := fun a c v hb hi => by
              have := join_any a K c x.us hK (by have := HSM.out.usl; omega) HUS.out v hi (HPT.out.below hb)
              rwa [hq] at this
            have b1 := add_str tUse q m1 hm1 (by omega)
            have HLN : Hid ((sixOf x.tk ++ chZ x.tk).length = n3) := by
              show _ = _
              obtain ⟨_, _, e, _⟩ := O3.out.slice
              injection e with _ e _
              exact e.symm
            have HL7 : Hid ((sixOf x.tk ++ chZ x.tk).length ≤ 7) := by
              show _ ≤ _
              rw [List.length_append]
              have : (chZ x.tk).length ≤ 1 := by unfold chZ; split <;> simp
              have h6 : (sixOf x.tk).length = 6 := rfl
              omega
            rw [hK] at hlp
            have hlp2 : (0 : Int) < (K : Int) := by omega
            clear hK hq hm1 hqs k8 hc
            go_wp2_with (first
              | (go_at_call 18; (with_reducible refine (CA.out _ B3.out).mono ?_); rintro e wa ⟨a9, c9, rfl, o9, b9⟩; have B8 := Lib.hid (below_up B3.out b9); have O8 := Lib.hid (O3.out.below b9); have T8 := Lib.hid (T3.out.below b9); have I8 := Lib.hid o9.ints.1; clear o9 b9)
              | (go_at_call 17; (with_reducible refine (CJ.out _ _ _ B8.out I8.out).mono ?_); rintro e wx ⟨rfl, bx⟩; have B9 := Lib.hid (below_up B8.out bx); have O9 := Lib.hid (O8.out.below bx); have N9 : Hid (w.heap.size + 1 ≤ wx.heap.size) := (block_of_cell (T8.out.below bx).c0 : w.heap.size < wx.heap.size); clear bx)
              | (at_builtin; refine wp_strs (m := 1) (l := [m1]) rfl _ _ rfl rfl rfl (O9.out.below (by repeat (first | exact Below.refl _ _ | (with_reducible assumption) | refine bw_alloc ?_ _ | refine bw_drew ?_))) (by rw [World.size_alloc]; have := N9.out; omega) (strs_new _ _ _) rfl (by have := HL7.out; omega) (n3 + 1) (by rw [HLN.out]) ?_; intro a4 k4 w4 o4 g4 l4; have HG := grownz_new (N := w.heap.size + 1) ((bw_alloc (Below.refl _ _) _ : Below wx.heap.size wx _).mono N9.out) (O9.out.below (by repeat (first | exact Below.refl _ _ | (with_reducible assumption) | refine bw_alloc ?_ _ | refine bw_drew ?_))) (Nat.le_refl _) (by rw [World.size_alloc]; have := N9.out; omega) g4; have B4 := Lib.hid (B9.out.trans (HG.mono (by omega))); have O4 := Lib.hid o4; clear o4 g4 l4 HG))
            go_meet
            exact ⟨_, _, _, rfl, B4, by rw [hM.out]; exact O4⟩
        case rest =>
          clear B3 T3 c6 hK O3
          obtain ⟨a5, n5, p5, rfl, B5, O5⟩ := hcut
          obtain ⟨g5, rfl, hS5, hl5, hc5⟩ := O5.out.some_ (by rw [List.length_append, List.length_append]; show 0 < 6 + _ + _; omega)
          have hn5 : 0 < n5 ∧ n5 ≤ 2000000 := by
            rw [← hl5, List.length_append, List.length_append]
            have h1 : (chZ x.tk).length ≤ 1 := by unfold chZ; split <;> simp
            have h2 : (usZ x.tk).length ≤ 1 := by unfold usZ; split <;> simp
            have h6 : (sixOf x.tk).length = 6 := rfl
            omega
          have CZ := Lib.hid (strjoin_any g5 0 p5 n5 _ hl5 _ hS5 hn5.1 hn5.2 hc5 (by have := HZS.out; omega))
          rw [← HWZ.out, ← HL.out] at CZ
          clear hS5 hl5 hc5 hn5
          go_wp2_with (go_at_call 19; (with_reducible refine (CZ.out).mono ?_); rintro e wx ⟨rfl, bx⟩; have B6 := Lib.hid (below_up B5.out bx); clear bx)
          go_ret
          exact ⟨rfl, B6.out⟩
end Go.Proofs.YtlpffgmfgkleiaaGreatDoor

/-
  The walk over a system as a text, as the program writes it.
-/
namespace Go.Proofs.YtlpffgmfgkleiaaGreatDoor
open Go.RowKit Go.Maps

theorem bld_drew {B : Nat} {t : ByteArray} {w : World} (h : Bld B t w) : Bld B t w.drew := bld_below h (Below.refl _ w).drew
theorem sz_drew {n : Nat} {w : World} (h : n ≤ w.heap.size) : n ≤ w.drew.heap.size := h
theorem at_lit {T e : TypeId} {B b : Nat} {p : Value} {bs : List Value} {w : World} (h : Lib.BuilderAtF T e B b p bs w) : b < w.heap.size := by
  obtain ⟨_, v, h2, _⟩ := h
  exact (Array.getElem?_eq_some_iff.1 h2).1
theorem le_lit {B : Nat} {t : ByteArray} {w : World} (h : Bld B t w) : B < w.heap.size := h.elim (fun x => at_lit x) (fun x => at_lit x)
theorem bld_alloc {B : Nat} {t : ByteArray} {w : World} (h : Bld B t w) (o : Obj) : Bld B t (w.alloc o) := bld_below h ((Below.refl _ w).alloc (Nat.le_refl _) o)
/-- What is written behind a world lies behind it. -/
theorem below_at {u v v' : World} (h : Below u.heap.size u v) (k : Below u.heap.size v v') : Below u.heap.size u v' := h.trans k

set_option maxRecDepth 100000 in
set_option maxHeartbeats 4000000 in
theorem print_any {w : World} {a : Option Addr} {n cap : Nat} {L : List TV} (S R : Int) (ha : Tasks w a n cap L) (hw : ∀ x ∈ L, I64 x.p ∧ I64 x.id) (hT : PT w) : Calls Tryz.prog 12 #[.agg #[.int .i64 S, .int .i64 R, .slice a n cap]] w fun e w' => e = .returned (.string (printText S R (L.map TV.tk))) ∧ Below w.heap.size w w' := by
  have CK : Hid (∀ v, Below w.heap.size w v → Calls Tryz.prog 27 #[.agg #[.int .i64 S, .int .i64 R, .slice a n cap]] v fun e w' => e = .returned (.int .i64 (checkOf S R L)) ∧ Below v.heap.size v w') := fun v hb => check_any S R (ha.below hb) hw
  have HA := Lib.hid ha
  have HPT : Hid (PT w) := hT
  have HPX : Hid (printText S R (L.map TV.tk) = if checkOf S R L = 0 then printRun (headText S R) (L.map TV.tk) else ⟨#[]⟩) := print_tk S R L
  clear hT hw
  by_cases hr : checkOf S R L = 0
  rotate_left
  · obtain ⟨E, hE⟩ : ∃ E, checkOf S R L = E := ⟨_, rfl⟩
    rw [hE] at CK hr
    have HL : Hid (printText S R (L.map TV.tk) = ⟨#[]⟩) := by show _ = _; rw [HPX.out, if_neg (by rw [hE]; exact hr)]
    have d1 : (E == 0) = false := by rw [beq_eq_false_iff_ne]; exact hr
    have d2 : (E != 0) = true := by rw [bne, d1]; rfl
    clear HPX hE hr ha
    go_enter Tryz.func12, Tryz.ntmps12
    go_upto_region 1 with fail
    refine gen_world (SysB w w.heap.size S R a n cap) sysB_new ?_
    intro u0 h0
    have H0 := Lib.hid h0
    obtain ⟨-, c0, c1, c2⟩ := h0
    go_wp2_with (go_at_call 27; (with_reducible refine (CK.out _ H0.out.low).mono ?_); rintro e u1 ⟨rfl, b1⟩; have B1 := Lib.hid (below_up H0.out.low b1); clear b1)
    go_ret
    exact ⟨by rw [HL.out]; rfl, B1.out⟩
  · have hq := check_pass hr
    have HL : Hid (printText S R (L.map TV.tk) = printRun (headText S R) (L.map TV.tk)) := by show _ = _; rw [HPX.out, if_pos hr]
    rw [hr] at CK
    have i1 : I64 S := by have := hq.s; unfold I64; omega
    have i2 : I64 R := by have := hq.r; unfold I64; omega
    have hn : L.length = n := ha.len
    have hn64 : n ≤ 64 := by have := hq.most; omega
    obtain ⟨g1, hg1⟩ : ∃ g, digOf S = g := ⟨_, rfl⟩
    have z1 : g1.size ≤ 22 := by rw [← hg1]; exact digOf_size _ i1
    have D1 : Hid (∀ v, PT v → Calls Tryz.prog 16 #[.int .i64 S] v fun e w' => e = .returned (.string g1) ∧ Below v.heap.size v w') := fun v hT => by have := digits_any S i1 v hT; rwa [hg1] at this
    obtain ⟨g2, hg2⟩ : ∃ g, digOf R = g := ⟨_, rfl⟩
    have z2 : g2.size ≤ 22 := by rw [← hg2]; exact digOf_size _ i2
    have D2 : Hid (∀ v, PT v → Calls Tryz.prog 16 #[.int .i64 R] v fun e w' => e = .returned (.string g2) ∧ Below v.heap.size v w') := fun v hT => by have := digits_any R i2 v hT; rwa [hg2] at this
    have kCache : sCache.size = 6 := rfl
    have kSp : sSp.size = 1 := rfl
    have kNl : sNl.size = 1 := rfl
    obtain ⟨s1, hs1⟩ : ∃ s, sCache ++ g1 = s := ⟨_, rfl⟩
    have y1 : s1.size = sCache.size + g1.size := by rw [← hs1, ByteArray.size_append]
    obtain ⟨s2, hs2⟩ : ∃ s, s1 ++ sSp = s := ⟨_, rfl⟩
    have y2 : s2.size = s1.size + sSp.size := by rw [← hs2, ByteArray.size_append]
    obtain ⟨s3, hs3⟩ : ∃ s, s2 ++ g2 = s := ⟨_, rfl⟩
    have y3 : s3.size = s2.size + g2.size := by rw [← hs3, ByteArray.size_append]
    obtain ⟨s4, hs4⟩ : ∃ s, s3 ++ sNl = s := ⟨_, rfl⟩
    have y4 : s4.size = s3.size + sNl.size := by rw [← hs4, ByteArray.size_append]
    have A1 := Lib.hid (add_str sCache g1 s1 hs1 (by omega))
    have A2 := Lib.hid (add_str s1 sSp s2 hs2 (by omega))
    have A3 := Lib.hid (add_str s2 g2 s3 hs3 (by omega))
    have A4 := Lib.hid (add_str s3 sNl s4 hs4 (by omega))
    have HHD : Hid (headText S R = s4) := by
      show _ = _
      unfold headText
      rw [hg1, hg2, hs1, hs2, hs3, hs4]
    have HS4 : Hid (s4.size ≤ 60) := by show _ ≤ _; omega
    have HRS : Hid (∀ k, (printRun s4 ((L.map TV.tk).take k)).size ≤ s4.size + 3401 * k) := fun k => run_size s4 L k
    rw [HHD.out] at HL
    clear i1 i2 hg1 hg2 z1 z2 hs1 hs2 hs3 hs4 y1 y2 y3 y4 kCache kSp kNl hq hr HPX HHD ha
    have HN := Lib.hid hn
    clear hn
    go_enter Tryz.func12, Tryz.ntmps12
    go_upto_region 1 with fail
    refine gen_world (SysB w w.heap.size S R a n cap) sysB_new ?_
    intro u0 h0
    have H0 := Lib.hid h0
    obtain ⟨-, c0, c1, c2⟩ := h0
    go_upto_region 4 with (go_at_call 27; (with_reducible refine (CK.out _ H0.out.low).mono ?_); rintro e u1 ⟨rfl, b1⟩; have H1 := Lib.hid (H0.out.below b1); clear b1)
    clear CK H0 c0 c1 c2
    have HP1 : Hid (PT u1) := HPT.out.below H1.out.low
    refine gen_world (fun v => Below u1.heap.size u1 v ∧ Bld u1.heap.size ⟨#[]⟩ v ∧ u1.heap.size < v.heap.size) ⟨bw_alloc (Below.refl _ _) _, Lib.IsBuilderF.of (Lib.fresh_isBuilder _ _ u1), by rw [World.size_alloc]; omega⟩ ?_
    intro ub ⟨hlb, hbb, hgb⟩
    have SZ : Hid (u1.heap.size < ub.heap.size) := hgb
    clear hgb
    have MK : Hid (∀ v, Below u1.heap.size u1 v → (Below u1.heap.size u1 v ∧ v.cell? ⟨w.heap.size, 0, none⟩ = some (.int .i64 S) ∧ v.cell? ⟨w.heap.size, 1, none⟩ = some (.int .i64 R))) := fun v hb => ⟨hb, kept_cell hb H1.out.s0, kept_cell hb H1.out.s1⟩
    have E1 : Hid (∀ v, Below u1.heap.size u1 v → Bld u1.heap.size ⟨#[]⟩ v → ub.heap.size ≤ v.heap.size → Calls Tryz.prog 16 #[.int .i64 S] v fun e w' => e = .returned (.string g1) ∧ Below u1.heap.size u1 w' ∧ Bld u1.heap.size ⟨#[]⟩ w' ∧ ub.heap.size ≤ w'.heap.size) := fun v hb hl hs => (D1.out v (HP1.out.below hb)).mono fun _ _ ⟨h1, h2⟩ => ⟨h1, below_up hb h2, bld_below hl h2, Nat.le_trans hs h2.size⟩
    have E2 : Hid (∀ v, Below u1.heap.size u1 v → Bld u1.heap.size ⟨#[]⟩ v → ub.heap.size ≤ v.heap.size → Calls Tryz.prog 16 #[.int .i64 R] v fun e w' => e = .returned (.string g2) ∧ Below u1.heap.size u1 w' ∧ Bld u1.heap.size ⟨#[]⟩ w' ∧ ub.heap.size ≤ w'.heap.size) := fun v hb hl hs => (D2.out v (HP1.out.below hb)).mono fun _ _ ⟨h1, h2⟩ => ⟨h1, below_up hb h2, bld_below hl h2, Nat.le_trans hs h2.size⟩
    have E3 : Hid (∀ v, Below u1.heap.size u1 v → Bld u1.heap.size ⟨#[]⟩ v → ub.heap.size ≤ v.heap.size → Calls Tryz.prog 28 #[.pointer (some ⟨u1.heap.size, 0, none⟩), .string s4] v fun e w' => ∃ z, e = .returned z ∧ Below u1.heap.size u1 w' ∧ Bld u1.heap.size s4 w') := fun v hb hl hs => (bld_text hl s4 (by have := HS4.out; show 0 + s4.size ≤ _; omega) (by have := SZ.out; omega)).mono fun _ _ ⟨z, h1, h2, h3⟩ => ⟨z, h1, below_at hb h3, by rwa [show (⟨#[]⟩ : ByteArray) ++ s4 = s4 from ba_nil_add s4] at h2⟩
    have a1 := A1.out
    have a2 := A2.out
    have a3 := A3.out
    have a4 := A4.out
    have hgg : ub.heap.size ≤ ub.heap.size := Nat.le_refl _
    go_cut [3] from 9 to 20 (fun u wx => u = .pointer (some ⟨u1.heap.size, 0, none⟩) ∧ Hid (Below u1.heap.size u1 wx) ∧ Hid (Bld u1.heap.size s4 wx))
    case first =>
      go_region_held3 (fun v => Below u1.heap.size u1 v ∧ v.cell? ⟨w.heap.size, 0, none⟩ = some (.int .i64 S) ∧ v.cell? ⟨w.heap.size, 1, none⟩ = some (.int .i64 R)) (exact MK.out _ (by repeat (first | (with_reducible assumption) | refine bw_drew ?_))) (first
        | (go_at_call 16; (with_reducible refine (E1.out _ (by repeat (first | (with_reducible assumption) | refine bw_drew ?_)) (by repeat (first | (with_reducible assumption) | refine bld_drew ?_)) (by repeat (first | (with_reducible assumption) | refine sz_drew ?_))).mono ?_); rintro e wx ⟨rfl, bx, lx, sx⟩)
        | (go_at_call 16; (with_reducible refine (E2.out _ (by repeat (first | (with_reducible assumption) | refine bw_drew ?_)) (by repeat (first | (with_reducible assumption) | refine bld_drew ?_)) (by repeat (first | (with_reducible assumption) | refine sz_drew ?_))).mono ?_); rintro e wx ⟨rfl, bx, lx, sx⟩)
        | (go_at_call 28; (with_reducible refine (E3.out _ (by repeat (first | (with_reducible assumption) | refine bw_drew ?_)) (by repeat (first | (with_reducible assumption) | refine bld_drew ?_)) (by repeat (first | (with_reducible assumption) | refine sz_drew ?_))).mono ?_); rintro e wx ⟨z, rfl, bx, lx⟩))
      all_goals
        go_wp2_with fail
        go_meet
        exact ⟨rfl, Lib.hid (by with_reducible assumption), Lib.hid (by with_reducible assumption)⟩
    case rest =>
      obtain ⟨rfl, HB2, HB3⟩ := hcut
      clear MK E1 E2 E3 D1 D2 A1 A2 A3 A4 a1 a2 a3 a4 hlb hbb hgg SZ
      have H2 := Lib.hid (H1.out.below HB2.out)
      obtain ⟨_, c0, c1, c2⟩ := H2.out
      have LB := Lib.hid (le_lit HB3.out)
      go_wp2_with fail
      go_loopw [23] (fun u wr => ∃ (k : Nat), k ≤ n ∧ u = .int .i64 k ∧ Hid (Below u1.heap.size u1 wr) ∧ Hid (Bld u1.heap.size (printRun s4 ((L.map TV.tk).take k)) wr) ∧ Hid (u1.heap.size < wr.heap.size)) (fun u _ => (n - intOf u).toNat)
      case atStart => exact ⟨0, by omega, rfl, HB2, HB3, LB⟩
      case round =>
        obtain ⟨k, hk, rfl, HQ, HW, HZ⟩ := hrel
        clear HB2 HB3 LB H2
        have HP := Lib.hid (H1.out.below HQ.out)
        obtain ⟨_, q0, q1, q2⟩ := HP.out
        by_cases hlt : k < n
        · obtain ⟨x, hx⟩ := nth_of HA.out.len hlt
          obtain ⟨g, o, rfl, ⟨c0, c1, c2, c3, c4, c5, c6⟩⟩ := (HA.out.view.below HP.out.low).at_ hx
          have hk1 : (k : Int) < (n : Int) := by omega
          have hk0 : (0 : Int) ≤ (k : Int) := by omega
          obtain ⟨X, hX⟩ : ∃ X, printRun s4 ((L.map TV.tk).take k) = X := ⟨_, rfl⟩
          obtain ⟨Y, hY⟩ : ∃ Y, lineText x.tk = Y := ⟨_, rfl⟩
          obtain ⟨m1, hm1⟩ : ∃ m, Y ++ sNl = m := ⟨_, rfl⟩
          have HNX : Hid (printRun s4 ((L.map TV.tk).take (k + 1)) = X ++ m1) := by
            show _ = _
            rw [run_next (t := x.tk) (by rw [List.getElem?_map, hx]; rfl), hX, hY, ByteArray.append_assoc, hm1]
          have hYs : Y.size ≤ 3400 := by rw [← hY]; exact line_size x
          have hXs : X.size ≤ s4.size + 3401 * k := by rw [← hX]; exact HRS.out k
          have hm1s : m1.size = Y.size + sNl.size := by rw [← hm1, ByteArray.size_append]
          have k1 : sNl.size = 1 := rfl
          have b1 := add_str Y sNl m1 hm1 (by omega)
          have HXM : Hid (X.size + m1.size ≤ 1000000000) := by show _ ≤ _; have := HS4.out; omega
          have CL : Hid (∀ v, Below wr.heap.size wr v → Calls Tryz.prog 6 #[x.val] v fun e w' => e = .returned (.string Y) ∧ Below v.heap.size v w') := fun v hb => by
            have := line_any x v (((HA.out.ok.at_ hx).below HP.out.low).below hb) (HPT.out.below (below_up HP.out.low hb))
            rwa [hY] at this
          unfold TV.val at CL
          rw [hX] at HW
          have CW : Hid (∀ v, Below wr.heap.size wr v → Calls Tryz.prog 28 #[.pointer (some ⟨u1.heap.size, 0, none⟩), .string m1] v fun e w' => ∃ z, e = .returned z ∧ Below u1.heap.size u1 w' ∧ Bld u1.heap.size (X ++ m1) w' ∧ u1.heap.size < w'.heap.size) := fun v hb => (bld_text (bld_below HW.out hb) m1 HXM.out (by have := HZ.out; have := hb.size; omega)).mono fun _ _ ⟨z, h1, h2, h3⟩ => ⟨z, h1, below_at (below_up HQ.out hb) h3, h2, by have := HZ.out; have := hb.size; have := h3.size; omega⟩
          clear hx hX hY hm1 hYs hXs hm1s k1
          go_wp2_with (first
            | (go_at_call 6; (with_reducible refine (CL.out _ (by repeat (first | exact Below.refl _ _ | (with_reducible assumption) | refine bw_alloc ?_ _ | refine bw_drew ?_))).mono ?_); rintro e w2 ⟨rfl, b2⟩; have HB2 := Lib.hid (below_up (by repeat (first | exact Below.refl _ _ | (with_reducible assumption) | refine bw_alloc ?_ _ | refine bw_drew ?_) : Below wr.heap.size wr _) b2); clear b2)
            | (go_at_call 28; (with_reducible refine (CW.out _ HB2.out).mono ?_); rintro e w3 ⟨z, rfl, b3, b4, b5⟩; have R3 := Lib.hid b3; have R4 := Lib.hid b4; have R5 := Lib.hid b5; clear b3 b4 b5))
          go_roundw
          case rel => exact ⟨k + 1, by omega, by go_num, R3, by rw [HNX.out]; exact R4, R5⟩
          case measure => simp [intOf]; omega
        · obtain rfl : n = k := by omega
          have HX : Hid (printRun s4 ((L.map TV.tk).take n) = printText S R (L.map TV.tk)) := by
            show _ = _
            rw [HL.out, List.take_of_length_le (by rw [List.length_map, HN.out]; exact Nat.le_refl _)]
          rw [HX.out] at HW
          have CS : Hid (Calls Tryz.prog 29 #[.pointer (some ⟨u1.heap.size, 0, none⟩)] wr fun e w' => e = .returned (.string (printText S R (L.map TV.tk))) ∧ Below w.heap.size w w') := (bld_string HW.out (by have := HZ.out; omega)).mono fun _ _ ⟨h1, h2⟩ => ⟨h1, H1.out.low.trans ((below_at HQ.out h2).mono H1.out.low.size)⟩
          go_wp2_with (go_at_call 29; (with_reducible refine CS.out.mono ?_); rintro e w3 ⟨rfl, b3⟩)
          go_ret
          exact ⟨rfl, b3⟩
end Go.Proofs.YtlpffgmfgkleiaaGreatDoor

/-
  The document's Same; what is asked of all at the beginning.
-/
namespace Go.Proofs.YtlpffgmfgkleiaaGreatDoor
open Go.RowKit Go.Maps

abbrev exOne : ByteArray := ⟨#[99, 97, 99, 104, 101, 32, 52, 32, 49, 10, 116, 97, 115, 107, 32, 49, 32, 99, 61, 50, 32, 100, 61, 53, 32, 116, 61, 53]⟩
abbrev exTwo : ByteArray := ⟨#[99, 97, 99, 104, 101, 32, 52, 32, 49, 10, 116, 97, 115, 107, 32, 49, 32, 99, 61, 50, 32, 100, 61, 53, 32, 116, 61, 53, 32, 112, 61, 51, 32, 117, 115, 101, 61, 48, 44, 49]⟩
theorem out_one : outOf exOne = ⟨0, 0, [], 28, 10⟩ := by kernel_rfl
theorem out_two : outOf exTwo = ⟨4, 1, [⟨1, 2, 5, 5, 3, [], [0, 1]⟩], 40, 0⟩ := by kernel_rfl
/-- A system that was read, as its callers see it. -/
theorem Holds.open_ {S R : Int} {l : List Tk} {B n c : Nat} {a : Option Addr} {w : World} (h : Holds S R l B (.agg #[.int .i64 S, .int .i64 R, .slice a n c]) w) : ∃ L : List TV, L.map TV.tk = l ∧ Tasks w a n c L ∧ ∀ x ∈ L, I64 x.p ∧ I64 x.id := by
  obtain ⟨a', n', c', L, e, hl, ho, hok, -, -, hs⟩ := h
  cases e
  obtain ⟨a2, cap2, e2, hv, hl2, hm⟩ := ho.slice
  cases e2
  exact ⟨L, hl, ⟨rfl, hv, hok, hl2, hm⟩, hs⟩

set_option maxRecDepth 100000 in
set_option maxHeartbeats 4000000 in
theorem awake_any (w : World) : Calls Tryz.prog 4 #[] w fun e w' => e = .returned (.bool true) ∧ Below w.heap.size w w' := by
  have hz := w_zeroSys
  have C1 : Hid (∀ v, Calls Tryz.prog 14 #[.string exOne] v (TryIs exOne v)) := fun v => parse_any exOne (by show 28 ≤ 1050000; omega) v
  have C2 : Hid (∀ v, Calls Tryz.prog 14 #[.string exTwo] v (TryIs exTwo v)) := fun v => parse_any exTwo (by show 40 ≤ 1050000; omega) v
  unfold TryIs at C1 C2
  rw [out_one] at C1
  rw [out_two] at C2
  simp only [] at C1 C2
  go_enter Tryz.func4, Tryz.ntmps4
  go_upto_region 2 with (go_at_call 14; (with_reducible refine (C1.out _).mono ?_); rintro y u1 ⟨a1, n1, k1, rfl, -, b1⟩; have B1 := Lib.hid b1; clear b1)
  refine gen_world (fun v => Below w.heap.size w v) ?_ ?_
  · exact bw_alloc B1.out _
  intro u2 b2
  have B2 := Lib.hid b2
  clear b2 B1
  go_upto_region 3 with (go_at_call 14; (with_reducible refine (C2.out _).mono ?_); rintro y u3 ⟨a2, n2, k2, rfl, h3, b3⟩; have H3 := Lib.hid h3; have B3 := Lib.hid (below_up B2.out b3); clear h3 b3)
  obtain ⟨L, hL, hT, -⟩ := H3.out.open_
  cases L with
  | nil => cases hL
  | cons x L2 =>
    obtain rfl : L2 = [] := by
      have := congrArg List.length hL
      simp only [List.map_cons, List.length_cons, List.length_map, List.length_nil] at this
      exact List.length_eq_zero_iff.1 (by omega)
    simp only [List.map_cons, List.map_nil, List.cons.injEq, and_true] at hL
    have hp : x.p = 3 := by have := congrArg Tk.p hL; exact this
    have hn : 1 = n2 := hT.len
    subst hn
    obtain ⟨g, o, rfl, ⟨c0, c1, c2, c3, c4, c5, c6⟩⟩ := hT.view.at_ (k := 0) (x := x) rfl
    rw [hp] at c4
    have hg : g < u3.heap.size := block_of_cell c4
    refine gen_world (fun v => Below w.heap.size w v ∧ v.cell? ⟨u3.heap.size, 2, none⟩ = some (.slice (some ⟨g, o, none⟩) 1 k2) ∧ v.cell? ⟨g, o + 0 * 7 + 4, none⟩ = some (.int .i64 3)) ⟨?_, ?_, ?_⟩ ?_
    · exact bw_alloc B3.out _
    · exact blk_cell (heap_alloc_new u3 (.cells #[.int .i64 4, .int .i64 1, .slice (some ⟨g, o, none⟩) 1 k2] SysT)) 2
    · exact kept_cell (w := u3) (bw_alloc (Below.refl _ _) _) c4
    intro u4 ⟨hb4, e2, e4⟩
    have B4 := Lib.hid hb4
    clear hb4 c0 c1 c2 c3 c4 c5 c6
    go_wp2_with fail
    go_ret
    exact ⟨rfl, B4.out⟩
end Go.Proofs.YtlpffgmfgkleiaaGreatDoor
