/- Texts of this claim, put together: YRef1, YRef2, YRef3, YRst, YRef4. -/
import Derived.Test.YtlpffgmfgkleiaaDoorMR7

/-
  The walks over the document's own places and values of a row.
-/
namespace Go.Proofs.YtlpffgmfgkleiaaDoor
open Go.RowKit Go.Maps

theorem zeroGot (w : World) : (zeroValue 73).run Tryd.prog w = .ok (.agg #[.int .i64 0, .int .i64 0, .int .i64 0, .int .i64 0, .int .i64 0, .slice none 0 0, .slice none 0 0, .int .i64 0, .int .i64 0]) w := by kernel_rfl
theorem w64_in {x : Int} (h : I64 x) : wrap64 x = x := by
  exact IntWalk.wrap64_in x h
set_option maxRecDepth 100000 in
set_option maxHeartbeats 2000000 in
theorem rend_any {w : World} {a : Option Addr} {n cap : Nat} {W : List WV} (h : Words w a n cap W) : Calls Tryd.prog 43 #[.slice a n cap] w fun y w' => y = .returned (.int .i64 (endAt W W.length)) ∧ Below w.heap.size w w' := by
  have hl := h.len
  have hn9 : (n : Int) ≤ 9223372036854775807 := by have := h.le; have := h.small; omega
  have hz := zeroWord
  cases n with
  | zero =>
    have hw : W = [] := List.length_eq_zero_iff.1 hl
    subst hw
    go_enter Tryd.func43, Tryd.ntmps43
    go_wp2
    go_ret
    exact ⟨rfl, Below.refl _ _⟩
  | succ m =>
    obtain ⟨x, hx⟩ := nth_of hl (show m < m + 1 by omega)
    obtain ⟨g, o, rfl, z0, z1, z2⟩ := h.view.at_ hx
    have HE : Hid (endAt W W.length = wrap64 (x.at_ + (x.tx.size : Int))) := by show _ = _; rw [hl, endAt_succ hx]; rfl
    have d1 : ¬ ((m + 1 : Nat) : Int) = 0 := by omega
    have d3 : (0 : Int) ≤ (m : Int) := by omega
    have d4 : (m : Int) < ((m + 1 : Nat) : Int) := by omega
    have d6 : wrap64 (m : Int) = (m : Int) := w64_in (by unfold I64; omega)
    clear h hx hl hn9
    go_enter Tryd.func43, Tryd.ntmps43
    go_wp2
    go_ret
    rw [HE.out]
    exact ⟨rfl, bw_alloc (Below.refl _ _) _⟩
/-- A place that is wrong, as it comes back. -/
def WrongIs (p : Int) (w : World) (y : Ending) (w' : World) : Prop :=
  y = .returned (.agg #[.int .i64 0, .int .i64 0, .int .i64 0, .int .i64 0, .int .i64 0, .slice none 0 0, .slice none 0 0, .int .i64 p, .int .i64 10]) ∧ Below w.heap.size w w'
abbrev GotT : TypeId := 73
set_option maxRecDepth 100000 in
set_option maxHeartbeats 4000000 in
theorem wrong_any {w : World} {a : Option Addr} {n cap i : Nat} {W : List WV} (h : Words w a n cap W) (hi : i ≤ 1000) : Calls Tryd.prog 25 #[.slice a n cap, .int .i64 i] w (WrongIs (placeAt W i) w) := by
  have hl := h.len
  have hn9 : (n : Int) ≤ 9223372036854775807 := by have := h.le; have := h.small; omega
  have hz := zeroGot
  have HW := Lib.hid h
  have HL := Lib.hid hl
  unfold WrongIs
  by_cases hlt : i < n
  · obtain ⟨x, hx⟩ := nth_of hl hlt
    obtain ⟨g, o, rfl, z0, z1, z2⟩ := h.view.at_ hx
    rw [placeAt_some hx]
    have d1 : (i : Int) < (n : Int) := by omega
    have d2 : (0 : Int) ≤ (i : Int) := by omega
    have Z0 := Lib.hid z0
    clear h hx hl
    go_enter Tryd.func25, Tryd.ntmps25
    go_upto_region 1 with fail
    refine gen_world (fun v => Below w.heap.size w v ∧ v.heap[w.heap.size]? = some (.cells #[.int .i64 0, .int .i64 0, .int .i64 0, .int .i64 0, .int .i64 0, .slice none 0 0, .slice none 0 0, .int .i64 0, .int .i64 0] GotT (0, 0))) ⟨bw_alloc (Below.refl _ _) _, heap_alloc_new w _⟩ ?_
    intro u0 ⟨hb0, hx0⟩
    have B0 := Lib.hid hb0
    have y0 := kept_cell hb0 Z0.out
    have r0 : u0.cell? ⟨w.heap.size, 0, none⟩ = some (.int .i64 0) := blk_cell hx0 0
    have r1 : u0.cell? ⟨w.heap.size, 1, none⟩ = some (.int .i64 0) := blk_cell hx0 1
    have r2 : u0.cell? ⟨w.heap.size, 2, none⟩ = some (.int .i64 0) := blk_cell hx0 2
    have r3 : u0.cell? ⟨w.heap.size, 3, none⟩ = some (.int .i64 0) := blk_cell hx0 3
    have r4 : u0.cell? ⟨w.heap.size, 4, none⟩ = some (.int .i64 0) := blk_cell hx0 4
    have r5 : u0.cell? ⟨w.heap.size, 5, none⟩ = some (.slice none 0 0) := blk_cell hx0 5
    have r6 : u0.cell? ⟨w.heap.size, 6, none⟩ = some (.slice none 0 0) := blk_cell hx0 6
    have r7 : u0.cell? ⟨w.heap.size, 7, none⟩ = some (.int .i64 0) := blk_cell hx0 7
    have r8 : u0.cell? ⟨w.heap.size, 8, none⟩ = some (.int .i64 0) := blk_cell hx0 8
    have f0 := blk_free hx0 0
    have f1 := blk_free hx0 1
    have f2 := blk_free hx0 2
    have f3 := blk_free hx0 3
    have f4 := blk_free hx0 4
    have f5 := blk_free hx0 5
    have f6 := blk_free hx0 6
    have f7 := blk_free hx0 7
    have f8 := blk_free hx0 8
    have hr := lt_of_block hx0
    clear hb0 hx0 z0 z1 z2
    go_wp2_with fail
    exact bodyPost_ret (v := .agg #[.int .i64 0, .int .i64 0, .int .i64 0, .int .i64 0, .int .i64 0, .slice none 0 0, .slice none 0 0, .int .i64 x.at_, .int .i64 10]) (by simp [results, Tryd.results25, go_sem, hr, r0, r1, r2, r3, r4, r5, r6, r7, r8]) rfl ⟨rfl, (by repeat (first | with_reducible exact B0.out | refine Below.setCell ?_ (by simp) _))⟩
  · rw [placeAt_none (by omega)]
    have d1 : ¬ (i : Int) < (n : Int) := by omega
    have CE : Hid (∀ v, Below w.heap.size w v → Calls Tryd.prog 43 #[.slice a n cap] v fun y w' => y = .returned (.int .i64 (endAt W W.length)) ∧ Below v.heap.size v w') := fun v hb => rend_any (HW.out.below hb)
    clear h hl
    go_enter Tryd.func25, Tryd.ntmps25
    go_upto_region 3 with fail
    refine gen_world (fun v => Below w.heap.size w v ∧ v.heap[w.heap.size]? = some (.cells #[.int .i64 0, .int .i64 0, .int .i64 0, .int .i64 0, .int .i64 0, .slice none 0 0, .slice none 0 0, .int .i64 0, .int .i64 0] GotT (0, 0))) ⟨bw_alloc (Below.refl _ _) _, heap_alloc_new w _⟩ ?_
    intro u0 ⟨hb0, hx0⟩
    have B0 := Lib.hid hb0
    have X0 := Lib.hid hx0
    clear hb0 hx0
    go_wp2_with (go_at_call 43; (with_reducible refine (CE.out _ B0.out).mono ?_); rintro y u1 ⟨rfl, b1⟩; have B1 := Lib.hid (below_up B0.out b1); have hx := kept_obj b1 X0.out; have r0 : u1.cell? ⟨w.heap.size, 0, none⟩ = some (.int .i64 0) := blk_cell hx 0; have r1 : u1.cell? ⟨w.heap.size, 1, none⟩ = some (.int .i64 0) := blk_cell hx 1; have r2 : u1.cell? ⟨w.heap.size, 2, none⟩ = some (.int .i64 0) := blk_cell hx 2; have r3 : u1.cell? ⟨w.heap.size, 3, none⟩ = some (.int .i64 0) := blk_cell hx 3; have r4 : u1.cell? ⟨w.heap.size, 4, none⟩ = some (.int .i64 0) := blk_cell hx 4; have r5 : u1.cell? ⟨w.heap.size, 5, none⟩ = some (.slice none 0 0) := blk_cell hx 5; have r6 : u1.cell? ⟨w.heap.size, 6, none⟩ = some (.slice none 0 0) := blk_cell hx 6; have r7 : u1.cell? ⟨w.heap.size, 7, none⟩ = some (.int .i64 0) := blk_cell hx 7; have r8 : u1.cell? ⟨w.heap.size, 8, none⟩ = some (.int .i64 0) := blk_cell hx 8; have f0 := blk_free hx 0; have f1 := blk_free hx 1; have f2 := blk_free hx 2; have f3 := blk_free hx 3; have f4 := blk_free hx 4; have f5 := blk_free hx 5; have f6 := blk_free hx 6; have f7 := blk_free hx 7; have f8 := blk_free hx 8; have hr := lt_of_block hx; clear b1 hx)
    exact bodyPost_ret (v := .agg #[.int .i64 0, .int .i64 0, .int .i64 0, .int .i64 0, .int .i64 0, .slice none 0 0, .slice none 0 0, .int .i64 (endAt W W.length), .int .i64 10]) (by simp [results, Tryd.results25, go_sem, hr, r0, r1, r2, r3, r4, r5, r6, r7, r8]) rfl ⟨rfl, (by repeat (first | with_reducible exact B1.out | refine Below.setCell ?_ (by simp) _))⟩
end Go.Proofs.YtlpffgmfgkleiaaDoor

/-
  The walk over the document's own value of a word.
-/
namespace Go.Proofs.YtlpffgmfgkleiaaDoor
open Go.RowKit Go.Maps

/-- What stands behind a name, as it comes back. -/
def twoVal (o : Option ByteArray) (name : ByteArray) : Value := match o with
  | some v => .agg #[.string name, .string v, .bool true]
  | none => .agg #[.string ⟨#[]⟩, .string ⟨#[]⟩, .bool false]
def ValIs (o : Option ByteArray) (name : ByteArray) (w : World) (y : Ending) (w' : World) : Prop := y = .returned (twoVal o name) ∧ Below w.heap.size w w'
abbrev TwoT : TypeId := 103
set_option maxRecDepth 100000 in
set_option maxHeartbeats 4000000 in
theorem rvalue_any {w : World} {a : Option Addr} {n cap i : Nat} {W : List WV} (h : Words w a n cap W) (hi : i ≤ 1000) (hW : ∀ x ∈ W, (x.tx.size : Int) ≤ 9223372036854775807) (name : ByteArray) : Calls Tryd.prog 45 #[.slice a n cap, .int .i64 i, .string name] w (ValIs (valAt W i name) name w) := by
  have hl := h.len
  have hn9 : (n : Int) ≤ 9223372036854775807 := by have := h.le; have := h.small; omega
  have hz := zeroTwo
  unfold ValIs
  by_cases hlt : i < n
  · obtain ⟨x, hx⟩ := nth_of hl hlt
    obtain ⟨g, o, rfl, z0, z1, z2⟩ := h.view.at_ hx
    have HV : Hid (valAt W i name = namedV x.tx name) := by show _ = _; unfold valAt; rw [wordAt_some hx]; rfl
    have CP : Hid (∀ v, Calls Tryd.prog 67 #[.string x.tx] v (PairBack x.tx v)) := fun v => rpair_any x.tx (hW x (List.mem_of_getElem? hx)) v
    have Z2 := Lib.hid z2
    have d1 : ¬ (n : Int) ≤ (i : Int) := by omega
    have d2 : (0 : Int) ≤ (i : Int) := by omega
    have d3 : (i : Int) < (n : Int) := by omega
    clear h hx hl
    go_enter Tryd.func45, Tryd.ntmps45
    go_upto_region 3 with fail
    refine gen_world (fun v => Below w.heap.size w v ∧ v.heap[w.heap.size]? = some (.cells #[.string ⟨#[]⟩, .string ⟨#[]⟩, .bool false] TwoT (0, 0))) ⟨bw_alloc (Below.refl _ _) _, heap_alloc_new w _⟩ ?_
    intro u0 ⟨hb0, hx0⟩
    have B0 := Lib.hid hb0
    have X0 := Lib.hid hx0
    have y2 := kept_cell hb0 z2
    clear hb0 hx0 z0 z1 z2
    go_upto_region 4 with (go_at_call 67; (with_reducible refine (CP.out _).mono ?_); rintro y u1 ⟨p, q, b, rfl, hp, b1⟩; have HP := Lib.hid hp; have B1 := Lib.hid (below_up B0.out b1); have X1 := Lib.hid (kept_obj b1 X0.out); clear hp b1)
    refine gen_world (fun v => Below w.heap.size w v ∧ v.heap[w.heap.size]? = some (.cells #[.string ⟨#[]⟩, .string ⟨#[]⟩, .bool false] TwoT (0, 0)) ∧ v.heap[u1.heap.size]? = some (.cells #[.string p, .string q, .bool b] TwoT (0, 0))) ⟨below_up B1.out (bw_alloc (Below.refl _ _) _), kept_obj (bw_alloc (Below.refl _ _) _) X1.out, heap_alloc_new u1 _⟩ ?_
    intro u2 ⟨hb2, hx2, hx3⟩
    have B2 := Lib.hid hb2
    generalize u1.heap.size = k at hx3 ⊢
    have ar0 : u2.cell? ⟨w.heap.size, 0, none⟩ = some (.string ⟨#[]⟩) := blk_cell hx2 0
    have ar1 : u2.cell? ⟨w.heap.size, 1, none⟩ = some (.string ⟨#[]⟩) := blk_cell hx2 1
    have ar2 : u2.cell? ⟨w.heap.size, 2, none⟩ = some (.bool false) := blk_cell hx2 2
    have af0 := blk_free hx2 0
    have af1 := blk_free hx2 1
    have af2 := blk_free hx2 2
    have ahr := lt_of_block hx2
    have br0 : u2.cell? ⟨k, 0, none⟩ = some (.string p) := blk_cell hx3 0
    have br1 : u2.cell? ⟨k, 1, none⟩ = some (.string q) := blk_cell hx3 1
    have br2 : u2.cell? ⟨k, 2, none⟩ = some (.bool b) := blk_cell hx3 2
    have bf0 := blk_free hx3 0
    have bf1 := blk_free hx3 1
    have bf2 := blk_free hx3 2
    have bhr := lt_of_block hx3
    have hq := named_of_pair (name := name) HP.out
    have HPP := Lib.hid HP.out
    clear hb2 hx2 hx3 B0 X0 B1 X1 CP HP Z2 y2
    by_cases hb : b = true ∧ p = name
    · obtain ⟨rfl, rfl⟩ := hb
      rw [if_pos ⟨rfl, rfl⟩] at hq
      have HQ : Hid (valAt W i p = some q) := HV.out.trans hq
      have d4 : (p.toList == p.toList) = true := by rw [beq_bytes, decide_eq_true rfl]
      have d5 : (p.toList != p.toList) = false := by rw [bne, d4]; rfl
      clear HV hq
      go_wp2_with fail
      exact bodyPost_ret (v := .agg #[.string p, .string q, .bool true]) (by simp [results, Tryd.results45, go_sem, ahr, ar0, ar1, ar2]) rfl ⟨by rw [HQ.out]; rfl, (by repeat (first | with_reducible exact B2.out | refine Below.setCell ?_ (by simp) _))⟩
    · rw [if_neg hb] at hq
      have HQ : Hid (valAt W i name = none) := HV.out.trans hq
      by_cases hpn : p = name
      · have hb0 : b = false := by cases b with | true => exact absurd ⟨rfl, hpn⟩ hb | false => rfl
        subst hb0
        subst hpn
        obtain ⟨-, rfl, rfl, -⟩ | ⟨h1, -⟩ := pairOf_is HPP.out
        rotate_left
        · cases h1
        have d4 : ((⟨#[]⟩ : ByteArray).toList == (⟨#[]⟩ : ByteArray).toList) = true := by rw [beq_bytes, decide_eq_true rfl]
        have d5 : ((⟨#[]⟩ : ByteArray).toList != (⟨#[]⟩ : ByteArray).toList) = false := by rw [bne, d4]; rfl
        clear HV hq hb HPP
        go_wp2_with fail
        exact bodyPost_ret (v := .agg #[.string ⟨#[]⟩, .string ⟨#[]⟩, .bool false]) (by simp [results, Tryd.results45, go_sem, ahr, ar0, ar1, ar2]) rfl ⟨by rw [HQ.out]; rfl, (by repeat (first | with_reducible exact B2.out | refine Below.setCell ?_ (by simp) _))⟩
      · have d4 : (p.toList == name.toList) = false := by rw [beq_bytes, decide_eq_false hpn]
        have d5 : (p.toList != name.toList) = true := by rw [bne, d4]; rfl
        clear HV hq hb hpn
        go_wp2_with fail
        exact bodyPost_ret (v := .agg #[.string ⟨#[]⟩, .string ⟨#[]⟩, .bool false]) (by simp [results, Tryd.results45, go_sem, ahr, ar0, ar1, ar2]) rfl ⟨by rw [HQ.out]; rfl, (by repeat (first | with_reducible exact B2.out | refine Below.setCell ?_ (by simp) _))⟩
  · have HV : Hid (valAt W i name = none) := by show _ = _; unfold valAt; rw [wordAt_none (by omega)]; rfl
    have d1 : (n : Int) ≤ (i : Int) := by omega
    clear h hl
    go_enter Tryd.func45, Tryd.ntmps45
    go_wp2
    exact bodyPost_ret (v := .agg #[.string ⟨#[]⟩, .string ⟨#[]⟩, .bool false]) (by simp [results, Tryd.results45, go_sem]) rfl ⟨by rw [HV.out]; rfl, (by repeat (first | (with_reducible exact Below.refl _ _) | (with_reducible assumption) | (with_reducible refine bw_alloc ?_ _) | (with_reducible refine bw_drew ?_) | refine Below.setCell ?_ (by simp) _))⟩
end Go.Proofs.YtlpffgmfgkleiaaDoor

/-
  The walk over the document's own number behind a name.
-/
namespace Go.Proofs.YtlpffgmfgkleiaaDoor
open Go.RowKit Go.Maps

abbrev NumT : TypeId := 70
def RNumIs (o : Option Nat) (w : World) (y : Ending) (w' : World) : Prop := y = .returned (.agg #[.int .i64 ((o.getD 0 : Nat) : Int), .bool o.isSome]) ∧ Below w.heap.size w w'
set_option maxRecDepth 100000 in
set_option maxHeartbeats 4000000 in
theorem rnum_any {w : World} {a : Option Addr} {n cap i : Nat} {W : List WV} (h : Words w a n cap W) (hi : i ≤ 1000) (hW : ∀ x ∈ W, (x.tx.size : Int) ≤ 9223372036854775807) (name : ByteArray) (most : Int) : Calls Tryd.prog 44 #[.slice a n cap, .int .i64 i, .string name, .int .i64 most] w (RNumIs (numAt W i name most) w) := by
  have hz := zeroNumb
  have hz2 := zeroTwo
  have CV : Hid (∀ v, Below w.heap.size w v → Calls Tryd.prog 45 #[.slice a n cap, .int .i64 i, .string name] v (ValIs (valAt W i name) name v)) := fun v hb => rvalue_any (h.below hb) hi hW name
  have HS : Hid (∀ z, valAt W i name = some z → (z.size : Int) ≤ 9223372036854775807) := fun z hz => by
    unfold valAt at hz
    obtain ⟨s, h1, h2⟩ := Option.bind_eq_some_iff.1 hz
    have h3 := namedV_size h2
    unfold wordAt at h1
    obtain ⟨x, hx, rfl⟩ := Option.map_eq_some_iff.1 h1
    have := hW x (List.mem_of_getElem? hx)
    omega
  have HNA : Hid (numAt W i name most = (valAt W i name).bind fun v => numOf v most) := rfl
  unfold RNumIs
  clear h
  unfold ValIs at CV
  go_enter Tryd.func44, Tryd.ntmps44
  go_upto_region 1 with fail
  refine gen_world (fun v => Below w.heap.size w v ∧ v.heap[w.heap.size]? = some (.cells #[.int .i64 0, .bool false] NumT (0, 0))) ⟨bw_alloc (Below.refl _ _) _, heap_alloc_new w _⟩ ?_
  intro u0 ⟨hb0, hx0⟩
  have B0 := Lib.hid hb0
  have X0 := Lib.hid hx0
  clear hb0 hx0
  cases ho : valAt W i name with
  | none =>
    rw [ho] at CV HNA
    have CV2 : Hid (∀ v, Below w.heap.size w v → Calls Tryd.prog 45 #[.slice a n cap, .int .i64 i, .string name] v fun y w' => y = .returned (.agg #[.string ⟨#[]⟩, .string ⟨#[]⟩, .bool false]) ∧ Below v.heap.size v w') := CV
    have HQ : Hid (numAt W i name most = none) := HNA.out
    clear ho HNA HS
    go_upto_region 2 with (go_at_call 45; (with_reducible refine (CV2.out _ B0.out).mono ?_); rintro y u1 ⟨rfl, b1⟩; have B1 := Lib.hid (below_up B0.out b1); have X1 := Lib.hid (kept_obj b1 X0.out); clear b1)
    refine gen_world (fun v => Below w.heap.size w v ∧ v.heap[w.heap.size]? = some (.cells #[.int .i64 0, .bool false] NumT (0, 0)) ∧ v.heap[u1.heap.size]? = some (.cells #[.string ⟨#[]⟩, .string ⟨#[]⟩, .bool false] TwoT (0, 0))) ⟨below_up B1.out (bw_alloc (Below.refl _ _) _), kept_obj (bw_alloc (Below.refl _ _) _) X1.out, heap_alloc_new u1 _⟩ ?_
    intro u2 ⟨hb2, hx2, hx3⟩
    have B2 := Lib.hid hb2
    generalize u1.heap.size = k at hx3 ⊢
    have ar0 : u2.cell? ⟨w.heap.size, 0, none⟩ = some (.int .i64 0) := blk_cell hx2 0
    have ar1 : u2.cell? ⟨w.heap.size, 1, none⟩ = some (.bool false) := blk_cell hx2 1
    have af0 := blk_free hx2 0
    have af1 := blk_free hx2 1
    have ahr := lt_of_block hx2
    have br0 : u2.cell? ⟨k, 0, none⟩ = some (.string ⟨#[]⟩) := blk_cell hx3 0
    have br1 : u2.cell? ⟨k, 1, none⟩ = some (.string ⟨#[]⟩) := blk_cell hx3 1
    have br2 : u2.cell? ⟨k, 2, none⟩ = some (.bool false) := blk_cell hx3 2
    have bf0 := blk_free hx3 0
    have bf1 := blk_free hx3 1
    have bf2 := blk_free hx3 2
    have bhr := lt_of_block hx3
    clear hb2 hx2 hx3 B0 X0 B1 X1 CV CV2
    go_wp2_with fail
    exact bodyPost_ret (v := .agg #[.int .i64 0, .bool false]) (by simp [results, Tryd.results44, go_sem, ahr, ar0, ar1]) rfl ⟨by rw [HQ.out]; rfl, (by repeat (first | with_reducible exact B2.out | refine Below.setCell ?_ (by simp) _))⟩
  | some z =>
    rw [ho] at CV HNA
    have CV2 : Hid (∀ v, Below w.heap.size w v → Calls Tryd.prog 45 #[.slice a n cap, .int .i64 i, .string name] v fun y w' => y = .returned (.agg #[.string name, .string z, .bool true]) ∧ Below v.heap.size v w') := CV
    have HQ : Hid (numAt W i name most = numOf z most) := HNA.out
    have CN : Hid (∀ v, Calls Tryd.prog 24 #[.string z, .int .i64 most] v (NumB (numOf z most) v)) := fun v => rnumber_any z (HS.out z ho) most v
    clear ho HNA HS
    unfold NumB at CN
    go_upto_region 2 with (go_at_call 45; (with_reducible refine (CV2.out _ B0.out).mono ?_); rintro y u1 ⟨rfl, b1⟩; have B1 := Lib.hid (below_up B0.out b1); have X1 := Lib.hid (kept_obj b1 X0.out); clear b1)
    refine gen_world (fun v => Below w.heap.size w v ∧ v.heap[w.heap.size]? = some (.cells #[.int .i64 0, .bool false] NumT (0, 0)) ∧ v.heap[u1.heap.size]? = some (.cells #[.string name, .string z, .bool true] TwoT (0, 0))) ⟨below_up B1.out (bw_alloc (Below.refl _ _) _), kept_obj (bw_alloc (Below.refl _ _) _) X1.out, heap_alloc_new u1 _⟩ ?_
    intro u2 ⟨hb2, hx2, hx3⟩
    have B2 := Lib.hid hb2
    have X2 := Lib.hid hx2
    generalize u1.heap.size = k at hx3 ⊢
    have br0 : u2.cell? ⟨k, 0, none⟩ = some (.string name) := blk_cell hx3 0
    have br1 : u2.cell? ⟨k, 1, none⟩ = some (.string z) := blk_cell hx3 1
    have br2 : u2.cell? ⟨k, 2, none⟩ = some (.bool true) := blk_cell hx3 2
    have bf0 := blk_free hx3 0
    have bf1 := blk_free hx3 1
    have bf2 := blk_free hx3 2
    have bhr := lt_of_block hx3
    clear hb2 hx2 hx3 B0 X0 B1 X1 CV CV2
    go_wp2_with (go_at_call 24; (with_reducible refine (CN.out _).mono ?_); rintro y u3 ⟨rfl, b3⟩; have B3 := Lib.hid (below_up B2.out b3); have hx4 := kept_obj b3 X2.out; have ar0 : u3.cell? ⟨w.heap.size, 0, none⟩ = some (.int .i64 0) := blk_cell hx4 0; have ar1 : u3.cell? ⟨w.heap.size, 1, none⟩ = some (.bool false) := blk_cell hx4 1; have af0 := blk_free hx4 0; have af1 := blk_free hx4 1; have ahr := lt_of_block hx4; clear b3 hx4)
    exact bodyPost_ret (v := .agg #[.int .i64 (((numOf z most).getD 0 : Nat) : Int), .bool (numOf z most).isSome]) (by simp [results, Tryd.results44, go_sem, ahr, ar0, ar1]) rfl ⟨by rw [HQ.out], (by repeat (first | with_reducible exact B3.out | refine Below.setCell ?_ (by simp) _))⟩
end Go.Proofs.YtlpffgmfgkleiaaDoor

/-
  The task that the document reads out of a row: what lies in memory.
-/
namespace Go.Proofs.YtlpffgmfgkleiaaDoor
open Go.RowKit Go.Maps

theorem OwnI.keep {w w' : World} {e : TypeId} {B : Nat} {v : Value} {l : List Int} (h : OwnI w e B v l) (hk : ∀ (b : Nat) (cs : Array Value), w.heap[b]? = some (.cells cs e (0, 0)) → w'.heap[b]? = w.heap[b]?) : OwnI w' e B v l := by
  rcases h with ⟨h0, h | ⟨g, cap, cur, rfl, hB, h3, r⟩⟩
  · exact ⟨h0, .inl h⟩
  · exact ⟨h0, .inr ⟨g, cap, cur, rfl, hB, (hk g cur h3).trans h3, r⟩⟩
theorem OwnI.blk {w : World} {e : TypeId} {B : Nat} {v : Value} {l : List Int} (h : OwnI w e B v l) {k : Nat} (hk : v.ownBlock = some k) : ∃ cs, w.heap[k]? = some (.cells cs e (0, 0)) := by
  rcases h.2 with ⟨rfl, h0⟩ | ⟨g, cap, cur, rfl, _, h3, _⟩
  · simp [Value.ownBlock] at hk
  · simp [Value.ownBlock] at hk; subst hk; exact ⟨cur, h3⟩
theorem OwnI.fresh {w : World} {e : TypeId} {B n c : Nat} {a : Option Addr} {l : List Int} (h : OwnI w e B (.slice a n c) l) : FreshI B a l := .inr fun g o q => by subst q; exact (h.new rfl).1
theorem OwnI.ints {w : World} {e : TypeId} {B n c : Nat} {a : Option Addr} {l : List Int} (h : OwnI w e B (.slice a n c) l) : Ints w a l ∧ l.length = n ∧ n ≤ c ∧ (c : Int) ≤ 9223372036854775807 := by
  obtain ⟨a', c', e', hi, hl, hm⟩ := h.slice
  cases e'
  exact ⟨hi, rfl, hl, hm⟩
abbrev GotT' : TypeId := 73
/-- A task that is being read: its box, its rows; a row of numbers that was read. -/
structure RSt (w : World) (k4 : Nat) (x1 x2 x3 x4 x5 : Int) (v1 : Value) (ch : List Int) (v2 : Value) (us : List Int) (v3 : Value) (q : List Int) (W : World) : Prop where
  low : Below w.heap.size w W
  gl : w.heap.size < k4
  res : Box W w.heap.size GotT #[.int .i64 0, .int .i64 0, .int .i64 0, .int .i64 0, .int .i64 0, .slice none 0 0, .slice none 0 0, .int .i64 0, .int .i64 0]
  box : Box W k4 TT #[.int .i64 x1, .int .i64 x2, .int .i64 x3, .int .i64 x4, .int .i64 x5, v1, v2]
  own1 : OwnI W 2 w.heap.size v1 ch
  own2 : OwnI W 3 (k4 + 1) v2 us
  own3 : OwnI W 2 w.heap.size v3 q
theorem RSt.below {w W W' : World} {k4 : Nat} {x1 x2 x3 x4 x5 : Int} {v1 v2 v3 : Value} {ch us q : List Int} (h : RSt w k4 x1 x2 x3 x4 x5 v1 ch v2 us v3 q W) (hb : Below W.heap.size W W') : RSt w k4 x1 x2 x3 x4 x5 v1 ch v2 us v3 q W' :=
  ⟨below_up h.low hb, h.gl, kept_obj hb h.res, kept_obj hb h.box, h.own1.below hb, h.own2.below hb, h.own3.below hb⟩
theorem typ_ne {w : World} {b k : Nat} {cs cs' : Array Value} {T T' : TypeId} (h : w.heap[b]? = some (.cells cs T (0, 0))) (h' : w.heap[k]? = some (.cells cs' T' (0, 0))) (hne : T ≠ T') : b ≠ k := by
  rintro rfl
  rw [h] at h'
  simp at h'
  exact hne h'.2
/-- Chunks are laid down. -/
theorem RSt.chunks {w W : World} {k4 : Nat} {x1 x2 x3 x4 x5 : Int} {v1 v2 v3 : Value} {ch us q : List Int} (h : RSt w k4 x1 x2 x3 x4 x5 v1 ch v2 us v3 q W) : RSt w k4 x1 x2 x3 x4 x5 v3 q v2 us v3 q (W.setCell ⟨k4, 5, none⟩ v3) := by
  have hk : ∀ (T : TypeId), T ≠ TT → ∀ (b : Nat) (cs : Array Value), W.heap[b]? = some (.cells cs T (0, 0)) → (W.setCell ⟨k4, 5, none⟩ v3).heap[b]? = W.heap[b]? := fun T hT b cs hb => blk_far (a := ⟨k4, 5, none⟩) (typ_ne hb h.box hT) _
  exact ⟨h.low.setCell (p := ⟨k4, 5, none⟩) (by show _ ≤ k4; have := h.gl; omega) _, h.gl, (hk _ (by decide) _ _ h.res).trans h.res, (blk_set h.box _).trans rfl, h.own3.keep (hk _ (by decide)), h.own2.keep (hk _ (by decide)), h.own3.keep (hk _ (by decide))⟩
/-- One more used set. -/
theorem RSt.push {w W w3 : World} {k4 : Nat} {x1 x2 x3 x4 x5 : Int} {v1 v2 v2' v3 : Value} {ch us us' q : List Int} (h : RSt w k4 x1 x2 x3 x4 x5 v1 ch v2 us v3 q W) (hg : W.grownBy w3 v2.ownBlock) (ho : OwnI w3 3 (k4 + 1) v2' us') :
    RSt w k4 x1 x2 x3 x4 x5 v1 ch v2' us' v3 q (w3.setCell ⟨k4, 6, none⟩ v2') ∧ w3.cell? ⟨k4, 6, none⟩ = some v2 ∧ w3.frozen? ⟨k4, 6, none⟩ = false := by
  have hs : k4 + 1 ≤ W.heap.size := lt_of_block h.box
  have hgl := h.gl
  have hb : Below (k4 + 1) W w3 := (Below.refl _ W).grown hg hs (fun k hk => (h.own2.new hk).1)
  have h3 := kept_objB hb (by omega) h.box
  have hr3 := kept_objB hb (by omega) h.res
  have hk3 : ∀ (T : TypeId), T ≠ 3 → T ≠ TT → ∀ (b : Nat) (cs : Array Value), W.heap[b]? = some (.cells cs T (0, 0)) → (w3.setCell ⟨k4, 6, none⟩ v2').heap[b]? = W.heap[b]? := fun T h1 h2 b cs hb => by
    rw [blk_far (a := ⟨k4, 6, none⟩) (typ_ne hb h.box h2)]
    refine hg.block b (lt_of_block hb) ?_
    intro z
    obtain ⟨c2, q2⟩ := h.own2.blk z.symm
    exact typ_ne hb q2 h1 rfl
  have ho2 : OwnI (w3.setCell ⟨k4, 6, none⟩ v2') 3 (k4 + 1) v2' us' := ho.keep fun b cs hb => blk_far (a := ⟨k4, 6, none⟩) (typ_ne hb h3 (by decide)) _
  exact ⟨⟨(h.low.trans (hb.mono (by omega))).setCell (p := ⟨k4, 6, none⟩) (by show _ ≤ k4; omega) _, h.gl, (hk3 _ (by decide) (by decide) _ _ h.res).trans h.res, (blk_set h3 _).trans rfl, h.own1.keep (hk3 _ (by decide) (by decide)), ho2, h.own3.keep (hk3 _ (by decide) (by decide))⟩, (blk_cell h3 6).trans rfl, blk_free h3 6⟩
/-- What the document reads out of a row. -/
def RLineIs (W : List WV) (w : World) (y : Ending) (w' : World) : Prop := match lineOf W with
  | .error p => WrongIs p w y w'
  | .ok t => ∃ x : TV, y = .returned (.agg #[.int .i64 x.id, .int .i64 x.c, .int .i64 x.d, .int .i64 x.t, .int .i64 x.p, .slice x.a1 x.ch.length x.c1, .slice x.a2 x.us.length x.c2, .int .i64 (endAt W W.length), .int .i64 0]) ∧ x.tk = t ∧ x.ok w' ∧ (IsI w' x.a1 x.ch ∧ FreshI w.heap.size x.a1 x.ch) ∧ (IsI w' x.a2 x.us ∧ FreshI w.heap.size x.a2 x.us) ∧ Below w.heap.size w w'
/-- A row of numbers that was read. -/
theorem RSt.src {w W W' : World} {k4 B : Nat} {x1 x2 x3 x4 x5 : Int} {v1 v2 v3 v3' : Value} {ch us q q' : List Int} (h : RSt w k4 x1 x2 x3 x4 x5 v1 ch v2 us v3 q W) (hb : Below W.heap.size W W') (ho : OwnI W' 2 B v3' q') (hB : w.heap.size ≤ B) : RSt w k4 x1 x2 x3 x4 x5 v1 ch v2 us v3' q' W' := by
  have h2 := h.below hb
  exact ⟨h2.low, h2.gl, h2.res, h2.box, h2.own1, h2.own2, ho.low hB⟩
theorem numso_none {w w' : World} {e : Ending} (h : NumsO none w e w') : e = .returned (.tuple #[.slice none 0 0, .bool false]) ∧ Below w.heap.size w w' := by
  obtain ⟨b1, ⟨-, rfl⟩ | ⟨l, a, c, hl, -⟩⟩ := h
  · exact ⟨rfl, b1⟩
  · cases hl
theorem numso_some {l : List Int} {n : Nat} (hn : l.length = n) {w w' : World} {e : Ending} (h : NumsO (some l) w e w') : ∃ a c, e = .returned (.tuple #[.slice a n c, .bool true]) ∧ OwnI w' 2 w.heap.size (.slice a n c) l ∧ Below w.heap.size w w' := by
  obtain ⟨b1, ⟨h0, -⟩ | ⟨l, a, c, hl, rfl, hi, -⟩⟩ := h
  · cases h0
  · cases hl
    subst hn
    exact ⟨a, c, rfl, hi, b1⟩
theorem farR {w : World} {k b o : Nat} (h : k ≠ b) (v : Value) : (w.setCell ⟨b, o, none⟩ v).heap[k]? = w.heap[k]? := blk_far (a := ⟨b, o, none⟩) h v
theorem RSt.done {w W W' : World} {WW : List WV} {k4 : Nat} {x1 x2 x3 x4 x5 : Int} {a1 a2 : Option Addr} {n1 c1 n2 c2 : Nat} {v3 : Value} {ch us q : List Int} (h : RSt w k4 x1 x2 x3 x4 x5 (.slice a1 n1 c1) ch (.slice a2 n2 c2) us v3 q W) (hl : lineOf WW = .ok ⟨x1, x2, x3, x4, x5, ch, us⟩) (hb : ∀ k, w.heap.size ≤ k → k ≠ w.heap.size → k < W.heap.size → W'.heap[k]? = W.heap[k]?) (hw : Below w.heap.size w W') :
    RLineIs WW w (.returned (.agg #[.int .i64 x1, .int .i64 x2, .int .i64 x3, .int .i64 x4, .int .i64 x5, .slice a1 n1 c1, .slice a2 n2 c2, .int .i64 (endAt WW WW.length), .int .i64 0])) W' := by
  have hk : ∀ (e : TypeId), e ≠ GotT → ∀ (v : Value) (l : List Int) (B : Nat), w.heap.size ≤ B → OwnI W e B v l → OwnI W' e B v l := fun e he v l B hB ho => by
    rcases ho with ⟨h0, q | ⟨g, cap, cur, rfl, hB', h3, r⟩⟩
    · exact ⟨h0, .inl q⟩
    · exact ⟨h0, .inr ⟨g, cap, cur, rfl, hB', (hb g (by omega) (fun z => typ_ne h3 h.res he z) (lt_of_block h3)).trans h3, r⟩⟩
  have o1 := hk _ (by decide) _ _ _ (Nat.le_refl _) h.own1
  have o2 := hk _ (by decide) _ _ _ (by have := h.gl; omega) h.own2
  obtain ⟨i1, e1, l1, m1⟩ := o1.ints
  obtain ⟨i2, e2, l2, m2⟩ := o2.ints
  subst e1 e2
  unfold RLineIs
  rw [hl]
  exact ⟨⟨x1, x2, x3, x4, x5, a1, ch, c1, a2, us, c2⟩, rfl, rfl, ⟨i1, i2, l1, m1, l2, m2⟩, ⟨o1.isI (.inl rfl), o1.fresh⟩, ⟨o2.isI (.inr rfl), o2.fresh.low (by have := h.gl; omega)⟩, hw⟩
theorem rline_done {w W : World} {WW : List WV} {k4 : Nat} {x1 x2 x3 x4 x5 : Int} {a1 a2 : Option Addr} {n1 c1 n2 c2 : Nat} {v3 : Value} {ch us q : List Int} (h : RSt w k4 x1 x2 x3 x4 x5 (.slice a1 n1 c1) ch (.slice a2 n2 c2) us v3 q W) (hl : lineOf WW = .ok ⟨x1, x2, x3, x4, x5, ch, us⟩) (y0 y1 y2 y3 y4 y5 y6 y7 y8 : Value) :
    RLineIs WW w (.returned (.agg #[.int .i64 x1, .int .i64 x2, .int .i64 x3, .int .i64 x4, .int .i64 x5, .slice a1 n1 c1, .slice a2 n2 c2, .int .i64 (endAt WW WW.length), .int .i64 0])) (((((((((W.setCell ⟨w.heap.size, 0, none⟩ y0).setCell ⟨w.heap.size, 1, none⟩ y1).setCell ⟨w.heap.size, 2, none⟩ y2).setCell ⟨w.heap.size, 3, none⟩ y3).setCell ⟨w.heap.size, 4, none⟩ y4).setCell ⟨w.heap.size, 5, none⟩ y5).setCell ⟨w.heap.size, 6, none⟩ y6).setCell ⟨w.heap.size, 7, none⟩ y7).setCell ⟨w.heap.size, 8, none⟩ y8) := by
  refine h.done hl (fun k _ h2 _ => ?_) ?_
  · rw [farR h2, farR h2, farR h2, farR h2, farR h2, farR h2, farR h2, farR h2, farR h2]
  · exact (((((((((h.low.setCell (p := ⟨w.heap.size, 0, none⟩) (Nat.le_refl _) _).setCell (p := ⟨w.heap.size, 1, none⟩) (Nat.le_refl _) _).setCell (p := ⟨w.heap.size, 2, none⟩) (Nat.le_refl _) _).setCell (p := ⟨w.heap.size, 3, none⟩) (Nat.le_refl _) _).setCell (p := ⟨w.heap.size, 4, none⟩) (Nat.le_refl _) _).setCell (p := ⟨w.heap.size, 5, none⟩) (Nat.le_refl _) _).setCell (p := ⟨w.heap.size, 6, none⟩) (Nat.le_refl _) _).setCell (p := ⟨w.heap.size, 7, none⟩) (Nat.le_refl _) _).setCell (p := ⟨w.heap.size, 8, none⟩) (Nat.le_refl _) _)
theorem rline_bad {W : List WV} {p : Int} {w w' : World} (h : lineOf W = .error p) (hb : Below w.heap.size w w') : RLineIs W w (.returned (.agg #[.int .i64 0, .int .i64 0, .int .i64 0, .int .i64 0, .int .i64 0, .slice none 0 0, .slice none 0 0, .int .i64 p, .int .i64 10])) w' := by
  unfold RLineIs; rw [h]; exact ⟨rfl, hb⟩
/-- Four numbers. -/
def four (f : Nat → Nat) : Array Value := #[.int .i64 (f 0), .int .i64 (f 1), .int .i64 (f 2), .int .i64 (f 3)]
def upd (f : Nat → Nat) (k n : Nat) : Nat → Nat := fun j => if j = k then n else f j
theorem four_at (f : Nat → Nat) {k : Nat} (h : k < 4) : (four f)[k]? = some (.int .i64 (f k)) := by
  match k, h with
  | 0, _ => rfl
  | 1, _ => rfl
  | 2, _ => rfl
  | 3, _ => rfl
theorem four_set (f : Nat → Nat) {k : Nat} (h : k < 4) (n : Nat) : (four f).setIfInBounds k (.int .i64 (n : Nat)) = four (upd f k n) := by
  match k, h with
  | 0, _ => rfl
  | 1, _ => rfl
  | 2, _ => rfl
  | 3, _ => rfl
theorem name_at {k : Nat} (h : k < 4) : (#[Value.string bC, .string bD, .string bT, .string bP] : Array Value)[k]? = some (.string (nameK k)) := by
  match k, h with
  | 0, _ => rfl
  | 1, _ => rfl
  | 2, _ => rfl
  | 3, _ => rfl
theorem val_apart {W : List WV} {i : Nat} {z : ByteArray} (h : valAt W i bChunks = some z) : valAt W i bUse = none := by
  unfold valAt at h ⊢
  cases hw : wordAt W i with
  | none => rfl
  | some s =>
    rw [hw] at h
    show namedV s bUse = none
    have h' : namedV s bChunks = some z := h
    unfold namedV at h' ⊢
    split at h'
    · rename_i x y he
      split at h'
      · rename_i hx
        rw [if_neg (by rw [hx]; decide)]
      · cases h'
    · cases h'
theorem w_lt {W : List WV} {i : Nat} {t : ByteArray} (h : wordAt W i = some t) : i < W.length := by
  rcases Nat.lt_or_ge i W.length with q | q
  · exact q
  · rw [wordAt_none q] at h; cases h
theorem val_lt {W : List WV} {i : Nat} {name z : ByteArray} (h : valAt W i name = some z) : i < W.length := by
  rcases Nat.lt_or_ge i W.length with q | q
  · exact q
  · unfold valAt at h; rw [wordAt_none q] at h; cases h
end Go.Proofs.YtlpffgmfgkleiaaDoor

/-
  The walk over the task that the document reads out of a row.
-/
namespace Go.Proofs.YtlpffgmfgkleiaaDoor
open Go.RowKit Go.Maps

theorem rnumK_any {w : World} {a : Option Addr} {n cap k : Nat} {W : List WV} (h : Words w a n cap W) (hk : k < 4) (hW : ∀ x ∈ W, (x.tx.size : Int) ≤ 9223372036854775807) {M : Int} (hM : mostK k = M) : Calls Tryd.prog 44 #[.slice a n cap, .int .i64 (2 + (k : Int)), .string (nameK k), .int .i64 M] w (RNumIs (numK W k) w) := by
  subst hM
  have e : ((2 + k : Nat) : Int) = 2 + (k : Int) := by omega
  have q := rnum_any h (show 2 + k ≤ 1000 by omega) hW (nameK k) (mostK k)
  rw [e] at q
  exact q
theorem size_set (w : World) (a : Addr) (v : Value) : (w.setCell a v).heap.size = w.heap.size := by simp [World.setCell]
theorem st2 {w u2 : World} {k1 : Nat} {v0 v1 : Value} (hk : w.heap.size < k1) (hb : Below w.heap.size w u2) (hx : Box u2 w.heap.size GotT #[.int .i64 0, .int .i64 0, .int .i64 0, .int .i64 0, .int .i64 0, .slice none 0 0, .slice none 0 0, .int .i64 0, .int .i64 0]) : Below w.heap.size w ((u2.setCell ⟨k1, 0, none⟩ v0).setCell ⟨k1, 1, none⟩ v1) ∧ Box ((u2.setCell ⟨k1, 0, none⟩ v0).setCell ⟨k1, 1, none⟩ v1) w.heap.size GotT #[.int .i64 0, .int .i64 0, .int .i64 0, .int .i64 0, .int .i64 0, .slice none 0 0, .slice none 0 0, .int .i64 0, .int .i64 0] := by
  refine ⟨(hb.setCell (p := ⟨k1, 0, none⟩) (Nat.le_of_lt hk) _).setCell (p := ⟨k1, 1, none⟩) (Nat.le_of_lt hk) _, ?_⟩
  show _ = _
  rw [blk_far (a := ⟨k1, 1, none⟩) (Nat.ne_of_lt hk), blk_far (a := ⟨k1, 0, none⟩) (Nat.ne_of_lt hk)]; exact hx
theorem id_laid {w u2 : World} {k1 id : Nat} (hk : w.heap.size < k1) (hb : Below w.heap.size w u2) (hx : Box u2 w.heap.size GotT #[.int .i64 0, .int .i64 0, .int .i64 0, .int .i64 0, .int .i64 0, .slice none 0 0, .slice none 0 0, .int .i64 0, .int .i64 0]) (hy : Box u2 k1 NumT #[.int .i64 0, .bool false]) :
    (fun v => Below w.heap.size w v ∧ Box v w.heap.size GotT #[.int .i64 0, .int .i64 0, .int .i64 0, .int .i64 0, .int .i64 0, .slice none 0 0, .slice none 0 0, .int .i64 0, .int .i64 0] ∧ Box v k1 NumT #[.int .i64 id, .bool true] ∧ Box v u2.heap.size 99 #[.string bC, .string bD, .string bT, .string bP] ∧ Box v (u2.heap.size + 1) 100 (four fun _ => 0)) ((((u2.setCell ⟨k1, 0, none⟩ (.int .i64 id)).setCell ⟨k1, 1, none⟩ (.bool true)).alloc (.cells #[.string bC, .string bD, .string bT, .string bP] 99)).alloc (.cells #[.int .i64 0, .int .i64 0, .int .i64 0, .int .i64 0] 100)) := by
  have hl := lt_of_block hy
  have hx1 : Box ((u2.setCell ⟨k1, 0, none⟩ (.int .i64 id)).setCell ⟨k1, 1, none⟩ (.bool true)) w.heap.size GotT #[.int .i64 0, .int .i64 0, .int .i64 0, .int .i64 0, .int .i64 0, .slice none 0 0, .slice none 0 0, .int .i64 0, .int .i64 0] := by
    show _ = _
    rw [blk_far (a := ⟨k1, 1, none⟩) (Nat.ne_of_lt hk), blk_far (a := ⟨k1, 0, none⟩) (Nat.ne_of_lt hk)]; exact hx
  have hy1 : Box ((u2.setCell ⟨k1, 0, none⟩ (.int .i64 id)).setCell ⟨k1, 1, none⟩ (.bool true)) k1 NumT #[.int .i64 id, .bool true] := by
    have q0 := blk_set (o := 0) hy (.int .i64 (id : Int))
    exact blk_set (o := 1) q0 (.bool true)
  have hs : ((u2.setCell ⟨k1, 0, none⟩ (.int .i64 id)).setCell ⟨k1, 1, none⟩ (.bool true)).heap.size = u2.heap.size := by rw [size_set, size_set]
  have hbb : Below w.heap.size w ((u2.setCell ⟨k1, 0, none⟩ (.int .i64 id)).setCell ⟨k1, 1, none⟩ (.bool true)) := (hb.setCell (p := ⟨k1, 0, none⟩) (Nat.le_of_lt hk) _).setCell (p := ⟨k1, 1, none⟩) (Nat.le_of_lt hk) _
  generalize ((u2.setCell ⟨k1, 0, none⟩ (.int .i64 id)).setCell ⟨k1, 1, none⟩ (.bool true)) = v at hx1 hy1 hs hbb ⊢
  refine ⟨below_up hbb (bw_alloc (bw_alloc (Below.refl _ _) _) _), kept_obj (bw_alloc (bw_alloc (Below.refl _ _) _) _) hx1, kept_obj (bw_alloc (bw_alloc (Below.refl _ _) _) _) hy1, ?_, ?_⟩
  · rw [← hs]; exact kept_obj (bw_alloc (Below.refl _ _) _) (heap_alloc_new v _)
  · rw [← hs]
    have := heap_alloc_new (v.alloc (.cells #[.string bC, .string bD, .string bT, .string bP] 99)) (.cells #[.int .i64 0, .int .i64 0, .int .i64 0, .int .i64 0] 100)
    rwa [World.size_alloc] at this
theorem num_laid {w u4 : World} {k1 k2 k id nn : Nat} {f : Nat → Nat} {o : Obj} (hk : w.heap.size < k2 + 1) (hk4 : k < 4) (hb : Below w.heap.size w u4) (hx : Box u4 w.heap.size GotT #[.int .i64 0, .int .i64 0, .int .i64 0, .int .i64 0, .int .i64 0, .slice none 0 0, .slice none 0 0, .int .i64 0, .int .i64 0]) (hy : Box u4 k1 NumT #[.int .i64 id, .bool true]) (hn : Box u4 k2 99 #[.string bC, .string bD, .string bT, .string bP]) (hf : Box u4 (k2 + 1) 100 (four f)) :
    Hid (Below w.heap.size w ((u4.setCell ⟨k2 + 1, k, none⟩ (.int .i64 nn)).alloc o)) ∧ Hid (Box ((u4.setCell ⟨k2 + 1, k, none⟩ (.int .i64 nn)).alloc o) w.heap.size GotT #[.int .i64 0, .int .i64 0, .int .i64 0, .int .i64 0, .int .i64 0, .slice none 0 0, .slice none 0 0, .int .i64 0, .int .i64 0]) ∧ Hid (Box ((u4.setCell ⟨k2 + 1, k, none⟩ (.int .i64 nn)).alloc o) k1 NumT #[.int .i64 id, .bool true]) ∧ Hid (Box ((u4.setCell ⟨k2 + 1, k, none⟩ (.int .i64 nn)).alloc o) k2 99 #[.string bC, .string bD, .string bT, .string bP]) ∧ Hid (Box ((u4.setCell ⟨k2 + 1, k, none⟩ (.int .i64 nn)).alloc o) (k2 + 1) 100 (four (upd f k nn))) := by
  have q : ∀ {b : Nat} {cs : Array Value} {T : TypeId}, Box u4 b T cs → T ≠ 100 → Box ((u4.setCell ⟨k2 + 1, k, none⟩ (.int .i64 nn)).alloc o) b T cs := fun {b cs T} h hT => by
    refine kept_obj (bw_alloc (Below.refl _ _) _) ?_
    rw [blk_far (a := ⟨k2 + 1, k, none⟩) (typ_ne h hf hT)]
    exact h
  refine ⟨below_up (hb.setCell (p := ⟨k2 + 1, k, none⟩) (Nat.le_of_lt hk) _) (bw_alloc (Below.refl _ _) _), q hx (by decide), q hy (by decide), q hn (by decide), ?_⟩
  refine kept_obj (bw_alloc (Below.refl _ _) _) ?_
  have h := blk_set (o := k) hf (.int .i64 (nn : Nat))
  rw [four_set f hk4 nn] at h
  exact h
theorem task_list : bTask.toList = [116, 97, 115, 107] := by rw [ByteArray.toList_eq]
theorem numL_lt {W : List WV} {k n : Nat} (h : numK W k = some n) : 2 + k < W.length := by
  rcases Nat.lt_or_ge (2 + k) W.length with q | q
  · exact q
  · unfold numK numAt valAt at h; rw [wordAt_none q] at h; cases h
set_option maxRecDepth 100000 in
set_option maxHeartbeats 8000000 in
theorem rline_any {w : World} {a : Option Addr} {n cap : Nat} {W : List WV} (h : Words w a n cap W) (hW : ∀ x ∈ W, x.tx.size ≤ 900000) : Calls Tryd.prog 26 #[.slice a n cap] w (RLineIs W w) := by
  have hl := h.len
  have HL := Lib.hid hl
  have hn9 : (n : Int) ≤ 9223372036854775807 := by have := h.le; have := h.small; omega
  have hz := zeroGot
  have hz2 := zeroNumb
  have hz3 := zeroTwo
  have HW := Lib.hid h
  have HWS : Hid (∀ x ∈ W, (x.tx.size : Int) ≤ 9223372036854775807) := fun x hx => by have := hW x hx; omega
  have HWZ : Hid (∀ i z name, valAt W i name = some z → z.size ≤ 900000) := fun i z name hz => by
    unfold valAt at hz
    obtain ⟨s, h1, h2⟩ := Option.bind_eq_some_iff.1 hz
    have h3 := namedV_size h2
    have h4 := wordAt_size hW h1
    omega
  have CW : Hid (∀ (i : Nat) (I : Int) v, (i : Int) = I → i ≤ 1000 → Below w.heap.size w v → Calls Tryd.prog 25 #[.slice a n cap, .int .i64 I] v (WrongIs (placeAt W i) v)) := fun i I v e hi hb => e ▸ wrong_any (HW.out.below hb) hi
  have CVN : Hid (∀ (i : Nat) (I : Int) (name : ByteArray) (v : World), (i : Int) = I → i ≤ 1000 → valAt W i name = none → Below w.heap.size w v → Calls Tryd.prog 45 #[.slice a n cap, .int .i64 I, .string name] v fun y w' => y = .returned (.agg #[.string ⟨#[]⟩, .string ⟨#[]⟩, .bool false]) ∧ Below v.heap.size v w') := fun i I name v e hi hn hb => by
    have q := rvalue_any (HW.out.below hb) hi HWS.out name
    unfold ValIs at q; rw [hn] at q; subst e; exact q
  have CVS : Hid (∀ (i : Nat) (I : Int) (name z : ByteArray) (v : World), (i : Int) = I → i ≤ 1000 → valAt W i name = some z → Below w.heap.size w v → Calls Tryd.prog 45 #[.slice a n cap, .int .i64 I, .string name] v fun y w' => y = .returned (.agg #[.string name, .string z, .bool true]) ∧ Below v.heap.size v w') := fun i I name z v e hi hn hb => by
    have q := rvalue_any (HW.out.below hb) hi HWS.out name
    unfold ValIs at q; rw [hn] at q; subst e; exact q
  have CE : Hid (∀ v, Below w.heap.size w v → Calls Tryd.prog 43 #[.slice a n cap] v fun y w' => y = .returned (.int .i64 (endAt W W.length)) ∧ Below v.heap.size v w') := fun v hb => rend_any (HW.out.below hb)
  have CN3 : Hid (∀ v, Below w.heap.size w v → Calls Tryd.prog 44 #[.slice a n cap, .int .i64 5, .string bP, .int .i64 99] v (RNumIs (numK W 3) v)) := fun v hb => rnumK_any (k := 3) (HW.out.below hb) (by omega) HWS.out rfl
  unfold RNumIs at CN3
  have CNK0 : Hid (∀ (k : Nat), k < 4 → ∀ (M : Int), mostK k = M → ∀ v, Below w.heap.size w v → Calls Tryd.prog 44 #[.slice a n cap, .int .i64 (2 + (k : Int)), .string (nameK k), .int .i64 M] v (RNumIs (numK W k) v)) := fun k hk M hM v hb => rnumK_any (HW.out.below hb) hk HWS.out hM
  unfold WrongIs at CW
  go_enter Tryd.func26, Tryd.ntmps26
  go_upto_region 1 with fail
  refine gen_world (fun v => Below w.heap.size w v ∧ Box v w.heap.size GotT #[.int .i64 0, .int .i64 0, .int .i64 0, .int .i64 0, .int .i64 0, .slice none 0 0, .slice none 0 0, .int .i64 0, .int .i64 0]) ⟨bw_alloc (Below.refl _ _) _, heap_alloc_new w _⟩ ?_
  intro u0 ⟨hb0, hx0⟩
  have B0 := Lib.hid hb0
  have X0 := Lib.hid hx0
  clear hb0 hx0
  by_cases e0 : wordAt W 0 = some bTask
  rotate_left
  · by_cases hn0 : n = 0
    · subst hn0
      have HB : Hid (lineOf W = .error (placeAt W 0)) := line_first e0
      clear e0
      go_wp2_with (go_at_call 25; (with_reducible refine (CW.out 0 0 _ rfl (by omega) B0.out).mono ?_); rintro y ux ⟨rfl, bx⟩; have BX := Lib.hid (below_up B0.out bx); have hx := kept_obj bx X0.out; have r0 : ux.cell? ⟨w.heap.size, 0, none⟩ = some (.int .i64 0) := blk_cell hx 0; have r1 : ux.cell? ⟨w.heap.size, 1, none⟩ = some (.int .i64 0) := blk_cell hx 1; have r2 : ux.cell? ⟨w.heap.size, 2, none⟩ = some (.int .i64 0) := blk_cell hx 2; have r3 : ux.cell? ⟨w.heap.size, 3, none⟩ = some (.int .i64 0) := blk_cell hx 3; have r4 : ux.cell? ⟨w.heap.size, 4, none⟩ = some (.int .i64 0) := blk_cell hx 4; have r5 : ux.cell? ⟨w.heap.size, 5, none⟩ = some (.slice none 0 0) := blk_cell hx 5; have r6 : ux.cell? ⟨w.heap.size, 6, none⟩ = some (.slice none 0 0) := blk_cell hx 6; have r7 : ux.cell? ⟨w.heap.size, 7, none⟩ = some (.int .i64 0) := blk_cell hx 7; have r8 : ux.cell? ⟨w.heap.size, 8, none⟩ = some (.int .i64 0) := blk_cell hx 8; have f0 := blk_free hx 0; have f1 := blk_free hx 1; have f2 := blk_free hx 2; have f3 := blk_free hx 3; have f4 := blk_free hx 4; have f5 := blk_free hx 5; have f6 := blk_free hx 6; have f7 := blk_free hx 7; have f8 := blk_free hx 8; have hr := lt_of_block hx; clear bx hx)
      exact bodyPost_ret (v := .agg #[.int .i64 0, .int .i64 0, .int .i64 0, .int .i64 0, .int .i64 0, .slice none 0 0, .slice none 0 0, .int .i64 (placeAt W 0), .int .i64 10]) (by simp [results, Tryd.results26, go_sem, hr, r0, r1, r2, r3, r4, r5, r6, r7, r8]) rfl (rline_bad HB.out (by repeat (first | with_reducible exact BX.out | refine Below.setCell ?_ (by simp) _)))
    · obtain ⟨x, hx⟩ := nth_of hl (show 0 < n by omega)
      obtain ⟨g, o, rfl, z0, z1, z2⟩ := HW.out.view.at_ hx
      have hne : ¬ x.tx = bTask := fun q => e0 (by rw [wordAt_some hx, q])
      have d1 : ¬ (n : Int) = 0 := by omega
      have d2 : (0 : Int) < (n : Int) := by omega
      have d4 : (x.tx.toList == [116, 97, 115, 107]) = false := by rw [← task_list, beq_bytes, decide_eq_false hne]
      have d5 : (x.tx.toList != [116, 97, 115, 107]) = true := by rw [bne, d4]; rfl
      have d6 : ((n : Int) == 0) = false := by rw [beq_eq_false_iff_ne]; exact d1
      have y2 := kept_cell B0.out z2
      clear hx hne
      have HB : Hid (lineOf W = .error (placeAt W 0)) := line_first e0
      clear e0
      go_wp2_with (go_at_call 25; (with_reducible refine (CW.out 0 0 _ rfl (by omega) B0.out).mono ?_); rintro y ux ⟨rfl, bx⟩; have BX := Lib.hid (below_up B0.out bx); have hx := kept_obj bx X0.out; have r0 : ux.cell? ⟨w.heap.size, 0, none⟩ = some (.int .i64 0) := blk_cell hx 0; have r1 : ux.cell? ⟨w.heap.size, 1, none⟩ = some (.int .i64 0) := blk_cell hx 1; have r2 : ux.cell? ⟨w.heap.size, 2, none⟩ = some (.int .i64 0) := blk_cell hx 2; have r3 : ux.cell? ⟨w.heap.size, 3, none⟩ = some (.int .i64 0) := blk_cell hx 3; have r4 : ux.cell? ⟨w.heap.size, 4, none⟩ = some (.int .i64 0) := blk_cell hx 4; have r5 : ux.cell? ⟨w.heap.size, 5, none⟩ = some (.slice none 0 0) := blk_cell hx 5; have r6 : ux.cell? ⟨w.heap.size, 6, none⟩ = some (.slice none 0 0) := blk_cell hx 6; have r7 : ux.cell? ⟨w.heap.size, 7, none⟩ = some (.int .i64 0) := blk_cell hx 7; have r8 : ux.cell? ⟨w.heap.size, 8, none⟩ = some (.int .i64 0) := blk_cell hx 8; have f0 := blk_free hx 0; have f1 := blk_free hx 1; have f2 := blk_free hx 2; have f3 := blk_free hx 3; have f4 := blk_free hx 4; have f5 := blk_free hx 5; have f6 := blk_free hx 6; have f7 := blk_free hx 7; have f8 := blk_free hx 8; have hr := lt_of_block hx; clear bx hx)
      exact bodyPost_ret (v := .agg #[.int .i64 0, .int .i64 0, .int .i64 0, .int .i64 0, .int .i64 0, .slice none 0 0, .slice none 0 0, .int .i64 (placeAt W 0), .int .i64 10]) (by simp [results, Tryd.results26, go_sem, hr, r0, r1, r2, r3, r4, r5, r6, r7, r8]) rfl (rline_bad HB.out (by repeat (first | with_reducible exact BX.out | refine Below.setCell ?_ (by simp) _)))
  have hl0 := w_lt e0
  obtain ⟨x, hx⟩ := nth_of hl (show 0 < n by omega)
  rw [hl] at hl0
  clear hl
  obtain ⟨g, o, rfl, z0, z1, z2⟩ := HW.out.view.at_ hx
  have hxt : x.tx = bTask := by rw [wordAt_some hx] at e0; exact Option.some.inj e0
  have d1 : ¬ (n : Int) = 0 := by omega
  have d2 : (0 : Int) < (n : Int) := by omega
  have d4 : (x.tx.toList == [116, 97, 115, 107]) = true := by rw [← task_list, beq_bytes, decide_eq_true hxt]
  have d5 : (x.tx.toList != [116, 97, 115, 107]) = false := by rw [bne, d4]; rfl
  have d6 : ((n : Int) == 0) = false := by rw [beq_eq_false_iff_ne]; exact d1
  have y2 := kept_cell B0.out z2
  have HV0 := Lib.hid HW.out.view
  clear hx hxt z0 z1 z2
  go_upto_region 4 with fail
  refine gen_world (fun v => Below w.heap.size w v ∧ Box v w.heap.size GotT #[.int .i64 0, .int .i64 0, .int .i64 0, .int .i64 0, .int .i64 0, .slice none 0 0, .slice none 0 0, .int .i64 0, .int .i64 0] ∧ Box v u0.heap.size NumT #[.int .i64 0, .bool false]) ⟨below_up B0.out (bw_alloc (Below.refl _ _) _), kept_obj (bw_alloc (Below.refl _ _) _) X0.out, heap_alloc_new u0 _⟩ ?_
  intro u1 ⟨hb1, hx1, hy1⟩
  have hk1 : w.heap.size < u0.heap.size := lt_of_block X0.out
  generalize u0.heap.size = k1 at hk1 hy1 ⊢
  have B1 := Lib.hid hb1
  have X1 := Lib.hid hx1
  have Y1 := Lib.hid hy1
  clear B0 X0 y2 d4 d5 d6
  have ar0 : u1.cell? ⟨k1, 0, none⟩ = some (.int .i64 0) := blk_cell hy1 0
  have ar1 : u1.cell? ⟨k1, 1, none⟩ = some (.bool false) := blk_cell hy1 1
  have af0 := blk_free hy1 0
  have af1 := blk_free hy1 1
  have ahr := lt_of_block hy1
  clear hb1 hx1 hy1
  cases e1 : idOf W with
  | none =>
    by_cases hn1 : 1 < n
    · obtain ⟨x1, hx1⟩ := nth_of HL.out hn1
      obtain ⟨g', o', eq1, y0, y1, y2⟩ := HV0.out.at_ hx1
      cases eq1
      have y2' := kept_cell B1.out y2
      have CI : Hid (∀ v, Calls Tryd.prog 24 #[.string x1.tx, .int .i64 99] v (NumB none v)) := fun v => by
        have q := rnumber_any x1.tx (HWS.out _ (List.mem_of_getElem? hx1)) 99 v
        have e : numOf x1.tx 99 = none := by unfold idOf at e1; rw [wordAt_some hx1] at e1; exact e1
        rwa [e] at q
      have d3 : (1 : Int) < (n : Int) := by omega
      clear hx1 y0 y1 y2
      go_upto_region 7 with (go_at_call 24; (with_reducible refine (CI.out _).mono ?_); rintro y u2 ⟨rfl, b2⟩; have B2 := Lib.hid (below_up B1.out b2); have X2 := Lib.hid (kept_obj b2 X1.out); have hy := kept_obj b2 Y1.out; have br0 : u2.cell? ⟨k1, 0, none⟩ = some (.int .i64 0) := blk_cell hy 0; have br1 : u2.cell? ⟨k1, 1, none⟩ = some (.bool false) := blk_cell hy 1; have bf0 := blk_free hy 0; have bf1 := blk_free hy 1; have bhr := lt_of_block hy; clear b2 hy)
      refine gen_world (fun v => Below w.heap.size w v ∧ Box v w.heap.size GotT #[.int .i64 0, .int .i64 0, .int .i64 0, .int .i64 0, .int .i64 0, .slice none 0 0, .slice none 0 0, .int .i64 0, .int .i64 0]) (st2 hk1 B2.out X2.out) ?_
      intro u3 ⟨hb3, hx3⟩
      have B3 := Lib.hid hb3
      have X3 := Lib.hid hx3
      clear hb3 hx3 B2 X2
      have HB : Hid (lineOf W = .error (placeAt W 1)) := line_id e0 e1
      clear e0 e1
      go_wp2_with (go_at_call 25; (with_reducible refine (CW.out 1 1 _ rfl (by omega) B3.out).mono ?_); rintro y ux ⟨rfl, bx⟩; have BX := Lib.hid (below_up B3.out bx); have hx := kept_obj bx X3.out; have r0 : ux.cell? ⟨w.heap.size, 0, none⟩ = some (.int .i64 0) := blk_cell hx 0; have r1 : ux.cell? ⟨w.heap.size, 1, none⟩ = some (.int .i64 0) := blk_cell hx 1; have r2 : ux.cell? ⟨w.heap.size, 2, none⟩ = some (.int .i64 0) := blk_cell hx 2; have r3 : ux.cell? ⟨w.heap.size, 3, none⟩ = some (.int .i64 0) := blk_cell hx 3; have r4 : ux.cell? ⟨w.heap.size, 4, none⟩ = some (.int .i64 0) := blk_cell hx 4; have r5 : ux.cell? ⟨w.heap.size, 5, none⟩ = some (.slice none 0 0) := blk_cell hx 5; have r6 : ux.cell? ⟨w.heap.size, 6, none⟩ = some (.slice none 0 0) := blk_cell hx 6; have r7 : ux.cell? ⟨w.heap.size, 7, none⟩ = some (.int .i64 0) := blk_cell hx 7; have r8 : ux.cell? ⟨w.heap.size, 8, none⟩ = some (.int .i64 0) := blk_cell hx 8; have f0 := blk_free hx 0; have f1 := blk_free hx 1; have f2 := blk_free hx 2; have f3 := blk_free hx 3; have f4 := blk_free hx 4; have f5 := blk_free hx 5; have f6 := blk_free hx 6; have f7 := blk_free hx 7; have f8 := blk_free hx 8; have hr := lt_of_block hx; clear bx hx)
      exact bodyPost_ret (v := .agg #[.int .i64 0, .int .i64 0, .int .i64 0, .int .i64 0, .int .i64 0, .slice none 0 0, .slice none 0 0, .int .i64 (placeAt W 1), .int .i64 10]) (by simp [results, Tryd.results26, go_sem, hr, r0, r1, r2, r3, r4, r5, r6, r7, r8]) rfl (rline_bad HB.out (by repeat (first | with_reducible exact BX.out | refine Below.setCell ?_ (by simp) _)))
    · have d3 : ¬ (1 : Int) < (n : Int) := by omega
      go_upto_region 7 with fail
      have HB : Hid (lineOf W = .error (placeAt W 1)) := line_id e0 e1
      clear e0 e1
      go_wp2_with (go_at_call 25; (with_reducible refine (CW.out 1 1 _ rfl (by omega) B1.out).mono ?_); rintro y ux ⟨rfl, bx⟩; have BX := Lib.hid (below_up B1.out bx); have hx := kept_obj bx X1.out; have r0 : ux.cell? ⟨w.heap.size, 0, none⟩ = some (.int .i64 0) := blk_cell hx 0; have r1 : ux.cell? ⟨w.heap.size, 1, none⟩ = some (.int .i64 0) := blk_cell hx 1; have r2 : ux.cell? ⟨w.heap.size, 2, none⟩ = some (.int .i64 0) := blk_cell hx 2; have r3 : ux.cell? ⟨w.heap.size, 3, none⟩ = some (.int .i64 0) := blk_cell hx 3; have r4 : ux.cell? ⟨w.heap.size, 4, none⟩ = some (.int .i64 0) := blk_cell hx 4; have r5 : ux.cell? ⟨w.heap.size, 5, none⟩ = some (.slice none 0 0) := blk_cell hx 5; have r6 : ux.cell? ⟨w.heap.size, 6, none⟩ = some (.slice none 0 0) := blk_cell hx 6; have r7 : ux.cell? ⟨w.heap.size, 7, none⟩ = some (.int .i64 0) := blk_cell hx 7; have r8 : ux.cell? ⟨w.heap.size, 8, none⟩ = some (.int .i64 0) := blk_cell hx 8; have f0 := blk_free hx 0; have f1 := blk_free hx 1; have f2 := blk_free hx 2; have f3 := blk_free hx 3; have f4 := blk_free hx 4; have f5 := blk_free hx 5; have f6 := blk_free hx 6; have f7 := blk_free hx 7; have f8 := blk_free hx 8; have hr := lt_of_block hx; clear bx hx)
      exact bodyPost_ret (v := .agg #[.int .i64 0, .int .i64 0, .int .i64 0, .int .i64 0, .int .i64 0, .slice none 0 0, .slice none 0 0, .int .i64 (placeAt W 1), .int .i64 10]) (by simp [results, Tryd.results26, go_sem, hr, r0, r1, r2, r3, r4, r5, r6, r7, r8]) rfl (rline_bad HB.out (by repeat (first | with_reducible exact BX.out | refine Below.setCell ?_ (by simp) _)))
  | some id =>
    have hn1 : 1 < n := by
      have : 1 < W.length := by
        rcases Nat.lt_or_ge 1 W.length with q | q
        · exact q
        · unfold idOf at e1; rw [wordAt_none q] at e1; cases e1
      have := HL.out; omega
    obtain ⟨x1, hx1⟩ := nth_of HL.out hn1
    obtain ⟨g', o', eq1, y0, y1, y2⟩ := HV0.out.at_ hx1
    cases eq1
    have y2' := kept_cell B1.out y2
    have CI : Hid (∀ v, Calls Tryd.prog 24 #[.string x1.tx, .int .i64 99] v (NumB (some id) v)) := fun v => by
      have q := rnumber_any x1.tx (HWS.out _ (List.mem_of_getElem? hx1)) 99 v
      have e : numOf x1.tx 99 = some id := by unfold idOf at e1; rw [wordAt_some hx1] at e1; exact e1
      rwa [e] at q
    have d3 : (1 : Int) < (n : Int) := by omega
    clear hx1 y0 y1 y2
    go_upto_region 10 with (go_at_call 24; (with_reducible refine (CI.out _).mono ?_); rintro y u2 ⟨rfl, b2⟩; have B2 := Lib.hid (below_up B1.out b2); have X2 := Lib.hid (kept_obj b2 X1.out); have hy := kept_obj b2 Y1.out; have Y2 := Lib.hid hy; have br0 : u2.cell? ⟨k1, 0, none⟩ = some (.int .i64 0) := blk_cell hy 0; have br1 : u2.cell? ⟨k1, 1, none⟩ = some (.bool false) := blk_cell hy 1; have bf0 := blk_free hy 0; have bf1 := blk_free hy 1; have bhr := lt_of_block hy; clear b2 hy)
    have hk12 : k1 < u2.heap.size := lt_of_block Y2.out
    refine gen_world (fun v => Below w.heap.size w v ∧ Box v w.heap.size GotT #[.int .i64 0, .int .i64 0, .int .i64 0, .int .i64 0, .int .i64 0, .slice none 0 0, .slice none 0 0, .int .i64 0, .int .i64 0] ∧ Box v k1 NumT #[.int .i64 id, .bool true] ∧ Box v u2.heap.size 99 #[.string bC, .string bD, .string bT, .string bP] ∧ Box v (u2.heap.size + 1) 100 (four fun _ => 0)) (id_laid hk1 B2.out X2.out Y2.out) ?_
    intro u3 ⟨hb3, hx3, hy3, hn3, hf3⟩
    have B3 := Lib.hid hb3
    have X3 := Lib.hid hx3
    have Y3 := Lib.hid hy3
    have hk13 : w.heap.size < u2.heap.size + 1 := by omega
    clear B1 X1 Y1 B2 X2 Y2 ar0 ar1 af0 af1 ahr br0 br1 bf0 bf1 bhr y2' CI hk12
    generalize u2.heap.size = k2 at hn3 hf3 hk13 ⊢
    have N3 := Lib.hid hn3
    have F3 := Lib.hid hf3
    clear hb3 hx3 hy3 hn3 hf3
    go_wp2_with fail
    go_loopw [6] (fun u wr => ∃ (k : Nat) (f : Nat → Nat), k ≤ 4 ∧ u = .int .i64 k ∧ Hid (∀ j, j < k → numK W j = some (f j)) ∧ Hid (Below w.heap.size w wr) ∧ Hid (Box wr w.heap.size GotT #[.int .i64 0, .int .i64 0, .int .i64 0, .int .i64 0, .int .i64 0, .slice none 0 0, .slice none 0 0, .int .i64 0, .int .i64 0]) ∧ Hid (Box wr k1 NumT #[.int .i64 id, .bool true]) ∧ Hid (Box wr k2 99 #[.string bC, .string bD, .string bT, .string bP]) ∧ Hid (Box wr (k2 + 1) 100 (four f))) (fun u _ => (4 - intOf u).toNat)
    case atStart => exact ⟨0, fun _ => 0, by omega, rfl, (fun j hj => absurd hj (Nat.not_lt_zero _)), B3, X3, Y3, N3, F3⟩
    case round =>
      obtain ⟨k, f, hk, rfl, HK, HB, HX, HY, HN, HF⟩ := hrel
      clear B3 X3 Y3 N3 F3
      by_cases hk4 : k < 4
      · have m0 : wr.cell? ⟨k2, k, none⟩ = some (.string (nameK k)) := (blk_cell HN.out k).trans (name_at hk4)
        have hkm : k2 < wr.heap.size := lt_of_block HN.out
        have d7 : (k : Int) < 4 := by omega
        have d8 : (0 : Int) ≤ (k : Int) := by omega
        have HW2 : Hid (IntKind.i64.wrap (2 + (k : Int)) = 2 + (k : Int)) := IntWalk.i64_in _ (by omega)
        have hcast : ((2 + k : Nat) : Int) = 2 + (k : Int) := by omega
        have hk1000 : 2 + k ≤ 1000 := by omega
        have CNK := Lib.hid (CNK0.out k hk4)
        unfold RNumIs at CNK
        cases e2 : numK W k with
        | none =>
          rw [e2] at CNK
          by_cases h3 : k = 3
          · subst h3
            rw [e2] at CN3
            have m3 : wr.cell? ⟨k2, 3, none⟩ = some (.string bP) := m0
            clear CNK HW2 hcast hk1000 d7 d8 m0
            go_upto_region 17 with (go_at_call 44; (with_reducible refine (CN3.out _ HB.out).mono ?_); rintro y u4 ⟨rfl, b4⟩; have HB4 := Lib.hid (below_up HB.out b4); have HX4 := Lib.hid (kept_obj b4 HX.out); have HF4 := Lib.hid (kept_obj b4 HF.out); have HY4 := Lib.hid (kept_obj b4 HY.out); have HN4 := Lib.hid (kept_obj b4 HN.out); clear b4)
            have HB : Hid (lineOf W = .error (placeAt W 5)) := line_bad (k := 3) e0 e1 hk4 (fun j hj => ⟨_, HK.out j hj⟩) e2
            clear e2
            go_wp2_with (go_at_call 25; (with_reducible refine (CW.out 5 5 _ rfl (by omega) (below_up HB4.out (bw_alloc (Below.refl _ _) _))).mono ?_); rintro y ux ⟨rfl, bx⟩; have BX := Lib.hid (below_up (below_up HB4.out (bw_alloc (Below.refl _ _) _)) bx); have hx := kept_obj bx (kept_obj (bw_alloc (Below.refl _ _) _) HX4.out); have r0 : ux.cell? ⟨w.heap.size, 0, none⟩ = some (.int .i64 0) := blk_cell hx 0; have r1 : ux.cell? ⟨w.heap.size, 1, none⟩ = some (.int .i64 0) := blk_cell hx 1; have r2 : ux.cell? ⟨w.heap.size, 2, none⟩ = some (.int .i64 0) := blk_cell hx 2; have r3 : ux.cell? ⟨w.heap.size, 3, none⟩ = some (.int .i64 0) := blk_cell hx 3; have r4 : ux.cell? ⟨w.heap.size, 4, none⟩ = some (.int .i64 0) := blk_cell hx 4; have r5 : ux.cell? ⟨w.heap.size, 5, none⟩ = some (.slice none 0 0) := blk_cell hx 5; have r6 : ux.cell? ⟨w.heap.size, 6, none⟩ = some (.slice none 0 0) := blk_cell hx 6; have r7 : ux.cell? ⟨w.heap.size, 7, none⟩ = some (.int .i64 0) := blk_cell hx 7; have r8 : ux.cell? ⟨w.heap.size, 8, none⟩ = some (.int .i64 0) := blk_cell hx 8; have f0 := blk_free hx 0; have f1 := blk_free hx 1; have f2 := blk_free hx 2; have f3 := blk_free hx 3; have f4 := blk_free hx 4; have f5 := blk_free hx 5; have f6 := blk_free hx 6; have f7 := blk_free hx 7; have f8 := blk_free hx 8; have hr := lt_of_block hx; clear bx hx)
            exact bodyPost_ret (v := .agg #[.int .i64 0, .int .i64 0, .int .i64 0, .int .i64 0, .int .i64 0, .slice none 0 0, .slice none 0 0, .int .i64 (placeAt W 5), .int .i64 10]) (by simp [results, Tryd.results26, go_sem, hr, r0, r1, r2, r3, r4, r5, r6, r7, r8]) rfl (rline_bad HB.out (by repeat (first | with_reducible exact BX.out | refine Below.setCell ?_ (by simp) _)))
          · have hM : mostK k = 1073741824 := by unfold mostK; rw [if_neg h3]
            have d9 : ((k : Int) == 3) = false := by rw [beq_eq_false_iff_ne]; omega
            have d10 : ¬ (k : Int) = 3 := by omega
            have CK := Lib.hid (CNK.out _ hM)
            clear CNK hM h3
            have hw2 := HW2.out
            go_upto_region 17 with (go_at_call 44; (with_reducible refine (CK.out _ HB.out).mono ?_); rintro y u4 ⟨rfl, b4⟩; have HB4 := Lib.hid (below_up HB.out b4); have HX4 := Lib.hid (kept_obj b4 HX.out); have HF4 := Lib.hid (kept_obj b4 HF.out); have HY4 := Lib.hid (kept_obj b4 HY.out); have HN4 := Lib.hid (kept_obj b4 HN.out); clear b4)
            have HB : Hid (lineOf W = .error (placeAt W (2 + k))) := line_bad e0 e1 hk4 (fun j hj => ⟨_, HK.out j hj⟩) e2
            clear e2
            go_wp2_with (go_at_call 25; (with_reducible refine (CW.out (2 + k) (2 + (k : Int)) _ hcast hk1000 (below_up HB4.out (bw_alloc (Below.refl _ _) _))).mono ?_); rintro y ux ⟨rfl, bx⟩; have BX := Lib.hid (below_up (below_up HB4.out (bw_alloc (Below.refl _ _) _)) bx); have hx := kept_obj bx (kept_obj (bw_alloc (Below.refl _ _) _) HX4.out); have r0 : ux.cell? ⟨w.heap.size, 0, none⟩ = some (.int .i64 0) := blk_cell hx 0; have r1 : ux.cell? ⟨w.heap.size, 1, none⟩ = some (.int .i64 0) := blk_cell hx 1; have r2 : ux.cell? ⟨w.heap.size, 2, none⟩ = some (.int .i64 0) := blk_cell hx 2; have r3 : ux.cell? ⟨w.heap.size, 3, none⟩ = some (.int .i64 0) := blk_cell hx 3; have r4 : ux.cell? ⟨w.heap.size, 4, none⟩ = some (.int .i64 0) := blk_cell hx 4; have r5 : ux.cell? ⟨w.heap.size, 5, none⟩ = some (.slice none 0 0) := blk_cell hx 5; have r6 : ux.cell? ⟨w.heap.size, 6, none⟩ = some (.slice none 0 0) := blk_cell hx 6; have r7 : ux.cell? ⟨w.heap.size, 7, none⟩ = some (.int .i64 0) := blk_cell hx 7; have r8 : ux.cell? ⟨w.heap.size, 8, none⟩ = some (.int .i64 0) := blk_cell hx 8; have f0 := blk_free hx 0; have f1 := blk_free hx 1; have f2 := blk_free hx 2; have f3 := blk_free hx 3; have f4 := blk_free hx 4; have f5 := blk_free hx 5; have f6 := blk_free hx 6; have f7 := blk_free hx 7; have f8 := blk_free hx 8; have hr := lt_of_block hx; clear bx hx)
            exact bodyPost_ret (v := .agg #[.int .i64 0, .int .i64 0, .int .i64 0, .int .i64 0, .int .i64 0, .slice none 0 0, .slice none 0 0, .int .i64 (placeAt W (2 + k)), .int .i64 10]) (by simp [results, Tryd.results26, go_sem, hr, r0, r1, r2, r3, r4, r5, r6, r7, r8]) rfl (rline_bad HB.out (by repeat (first | with_reducible exact BX.out | refine Below.setCell ?_ (by simp) _)))
        | some nn =>
          rw [e2] at CNK
          have HK2 : Hid (∀ j, j < k + 1 → numK W j = some (upd f k nn j)) := fun j hj => by
            unfold upd
            by_cases q : j = k
            · rw [if_pos q, q]; exact e2
            · rw [if_neg q]; exact HK.out j (by omega)
          by_cases h3 : k = 3
          · subst h3
            rw [e2] at CN3
            have m3 : wr.cell? ⟨k2, 3, none⟩ = some (.string bP) := m0
            clear CNK HW2 hcast hk1000 d7 d8 m0
            go_upto_region 17 with (go_at_call 44; (with_reducible refine (CN3.out _ HB.out).mono ?_); rintro y u4 ⟨rfl, b4⟩; have HB4 := Lib.hid (below_up HB.out b4); have HX4 := Lib.hid (kept_obj b4 HX.out); have HF4 := Lib.hid (kept_obj b4 HF.out); have HY4 := Lib.hid (kept_obj b4 HY.out); have HN4 := Lib.hid (kept_obj b4 HN.out); clear b4)
            have c3 : u4.cell? ⟨k2 + 1, 3, none⟩ = some (.int .i64 (f 3)) := blk_cell HF4.out 3
            have f3 := blk_free HF4.out 3
            have hl3 := lt_of_block HF4.out
            clear HB HX HY HN HF m3 hkm e2
            go_wp2_with fail
            go_roundw
            case rel => exact ⟨4, upd f 3 nn, by omega, by go_num, HK2, num_laid hk13 hk4 HB4.out HX4.out HY4.out HN4.out HF4.out⟩
            case measure => simp [intOf]
          · have hM : mostK k = 1073741824 := by unfold mostK; rw [if_neg h3]
            have d9 : ((k : Int) == 3) = false := by rw [beq_eq_false_iff_ne]; omega
            have d10 : ¬ (k : Int) = 3 := by omega
            have CK := Lib.hid (CNK.out _ hM)
            clear CNK hM h3
            have hw2 := HW2.out
            go_upto_region 17 with (go_at_call 44; (with_reducible refine (CK.out _ HB.out).mono ?_); rintro y u4 ⟨rfl, b4⟩; have HB4 := Lib.hid (below_up HB.out b4); have HX4 := Lib.hid (kept_obj b4 HX.out); have HF4 := Lib.hid (kept_obj b4 HF.out); have HY4 := Lib.hid (kept_obj b4 HY.out); have HN4 := Lib.hid (kept_obj b4 HN.out); clear b4)
            have c3 : u4.cell? ⟨k2 + 1, k, none⟩ = some (.int .i64 (f k)) := (blk_cell HF4.out k).trans (four_at f hk4)
            have f3 := blk_free HF4.out k
            have hl3 := lt_of_block HF4.out
            clear HB HX HY HN HF m0 hkm e2
            go_wp2_with fail
            go_roundw
            case rel => exact ⟨k + 1, upd f k nn, Nat.succ_le_of_lt hk4, by go_num, HK2, num_laid hk13 hk4 HB4.out HX4.out HY4.out HN4.out HF4.out⟩
            case measure => clear hw2 HW2; simp [intOf]; omega
      · obtain rfl : k = 4 := by omega
        have n0 := HK.out 0 (by omega)
        have n1 := HK.out 1 (by omega)
        have n2 := HK.out 2 (by omega)
        have n3 := HK.out 3 (by omega)
        have hle6 : 6 ≤ W.length := by have := numL_lt n3; omega
        have q0 : wr.cell? ⟨k2 + 1, 0, none⟩ = some (.int .i64 (f 0)) := blk_cell HF.out 0
        have q1 : wr.cell? ⟨k2 + 1, 1, none⟩ = some (.int .i64 (f 1)) := blk_cell HF.out 1
        have q2 : wr.cell? ⟨k2 + 1, 2, none⟩ = some (.int .i64 (f 2)) := blk_cell HF.out 2
        have q3 : wr.cell? ⟨k2 + 1, 3, none⟩ = some (.int .i64 (f 3)) := blk_cell HF.out 3
        have i0 : wr.cell? ⟨k1, 0, none⟩ = some (.int .i64 id) := blk_cell HY.out 0
        have hlf := lt_of_block HF.out
        go_upto_region 22 with fail
        refine gen_world (RSt w wr.heap.size id (f 0) (f 1) (f 2) (f 3) (.slice none 0 0) [] (.slice none 0 0) [] (.slice none 0 0) []) ⟨below_up HB.out (bw_alloc (Below.refl _ _) _), lt_of_block HX.out, kept_obj (bw_alloc (Below.refl _ _) _) HX.out, heap_alloc_new wr _, OwnI.nil _ _ _, OwnI.nil _ _ _, OwnI.nil _ _ _⟩ ?_
        intro u5 h5
        generalize wr.heap.size = k4 at h5 ⊢
        have H5 := Lib.hid h5
        clear h5 HB HX HY HN HF q0 q1 q2 q3 i0 hlf CN3 CNK0
        cases e6 : valAt W 6 bChunks with
        | none =>
          have hc0 : chAt W = none := by unfold chAt numsAt; rw [e6]; rfl
          have hp1 : plus1 W = 6 := by unfold plus1; rw [hc0]; rfl
          obtain ⟨ch, hch⟩ : ∃ ch : List Int, (chAt W).getD [] = ch := ⟨_, rfl⟩
          have hch0 : ch = [] := by rw [← hch, hc0]; rfl
          go_upto_region 29 with (go_at_call 45; (with_reducible refine (CVN.out 6 6 bChunks _ rfl (by omega) e6 H5.out.low).mono ?_); rintro y ux ⟨rfl, bx⟩; have H5a := Lib.hid (H5.out.below bx); clear bx)
          have H5b := Lib.hid (H5a.out.below (bw_alloc (Below.refl _ _) (.cells #[.string ⟨#[]⟩, .string ⟨#[]⟩, .bool false] TwoT)))
          clear H5a H5 e6 hc0
          refine gen_world (RSt w k4 id (f 0) (f 1) (f 2) (f 3) (.slice none 0 0) [] (.slice none 0 0) [] (.slice none 0 0) []) H5b.out ?_
          intro u8 h8
          have H8a : Hid (∃ (a1 : Option Addr) (m1 c1 : Nat), RSt w k4 id (f 0) (f 1) (f 2) (f 3) (.slice a1 m1 c1) ch (.slice none 0 0) [] (.slice none 0 0) [] u8) := ⟨none, 0, 0, hch0 ▸ h8⟩
          clear h8 H5b hch0
          obtain ⟨a1, m1, c1, h8⟩ := H8a.out
          have HU := Lib.hid h8
          clear h8 H8a
          cases e8 : valAt W 6 bUse with
          | none =>
            have hu0 : usAt W = none := by unfold usAt numsAt; rw [hp1, e8]; rfl
            have hp2 : plus2 W = 6 := by unfold plus2; rw [hu0, hp1]; rfl
            obtain ⟨us, hus⟩ : ∃ us : List Int, (usAt W).getD [] = us := ⟨_, rfl⟩
            have hus0 : us = [] := by rw [← hus, hu0]; rfl
            clear hu0 hp1
            go_upto_region 39 with (go_at_call 45; (with_reducible refine (CVN.out 6 6 bUse _ rfl (by omega) e8 HU.out.low).mono ?_); rintro y ux ⟨rfl, bx⟩; have H6 := Lib.hid (HU.out.below bx); clear bx)
            have H6b := Lib.hid (H6.out.below (bw_alloc (Below.refl _ _) (.cells #[.string ⟨#[]⟩, .string ⟨#[]⟩, .bool false] TwoT)))
            clear H6 HU e8
            refine gen_world (RSt w k4 id (f 0) (f 1) (f 2) (f 3) (.slice a1 m1 c1) ch (.slice none 0 0) [] (.slice none 0 0) []) H6b.out ?_
            intro u10 h10
            have H8a : Hid (∃ (a2 : Option Addr) (m2 c2 : Nat), RSt w k4 id (f 0) (f 1) (f 2) (f 3) (.slice a1 m1 c1) ch (.slice a2 m2 c2) us (.slice none 0 0) [] u10) := ⟨none, 0, 0, hus0 ▸ h10⟩
            clear h10 H6b hus0
            obtain ⟨a2, m2, c2, h10⟩ := H8a.out
            have H8 := Lib.hid h10
            clear h10 H8a
            by_cases ho : 6 < n
            · have d20 : (6 : Int) < (n : Int) := by omega
              have HB : Hid (lineOf W = .error (placeAt W 6)) := by show _ = _; rw [line_over e0 e1 n0 n1 n2 n3 (by rw [hp2, HL.out]; exact ho), hp2]
              go_wp2_with (go_at_call 25; (with_reducible refine (CW.out 6 6 _ rfl (by omega) H8.out.low).mono ?_); rintro y ux ⟨rfl, bx⟩; have BX := Lib.hid (below_up H8.out.low bx); have hx := kept_obj bx H8.out.res; have r0 : ux.cell? ⟨w.heap.size, 0, none⟩ = some (.int .i64 0) := blk_cell hx 0; have r1 : ux.cell? ⟨w.heap.size, 1, none⟩ = some (.int .i64 0) := blk_cell hx 1; have r2 : ux.cell? ⟨w.heap.size, 2, none⟩ = some (.int .i64 0) := blk_cell hx 2; have r3 : ux.cell? ⟨w.heap.size, 3, none⟩ = some (.int .i64 0) := blk_cell hx 3; have r4 : ux.cell? ⟨w.heap.size, 4, none⟩ = some (.int .i64 0) := blk_cell hx 4; have r5 : ux.cell? ⟨w.heap.size, 5, none⟩ = some (.slice none 0 0) := blk_cell hx 5; have r6 : ux.cell? ⟨w.heap.size, 6, none⟩ = some (.slice none 0 0) := blk_cell hx 6; have r7 : ux.cell? ⟨w.heap.size, 7, none⟩ = some (.int .i64 0) := blk_cell hx 7; have r8 : ux.cell? ⟨w.heap.size, 8, none⟩ = some (.int .i64 0) := blk_cell hx 8; have f0 := blk_free hx 0; have f1 := blk_free hx 1; have f2 := blk_free hx 2; have f3 := blk_free hx 3; have f4 := blk_free hx 4; have f5 := blk_free hx 5; have f6 := blk_free hx 6; have f7 := blk_free hx 7; have f8 := blk_free hx 8; have hr := lt_of_block hx; clear bx hx)
              exact bodyPost_ret (v := .agg #[.int .i64 0, .int .i64 0, .int .i64 0, .int .i64 0, .int .i64 0, .slice none 0 0, .slice none 0 0, .int .i64 (placeAt W 6), .int .i64 10]) (by simp [results, Tryd.results26, go_sem, hr, r0, r1, r2, r3, r4, r5, r6, r7, r8]) rfl (rline_bad HB.out (by repeat (first | with_reducible exact BX.out | refine Below.setCell ?_ (by simp) _)))
            · have d20 : ¬ (6 : Int) < (n : Int) := by omega
              have HOK : Hid (lineOf W = .ok ⟨id, f 0, f 1, f 2, f 3, ch, us⟩) := by show _ = _; rw [line_ok e0 e1 n0 n1 n2 n3 (by rw [hp2, HL.out]; exact ho), hch, hus]
              clear ho hp2 hch hus
              go_upto_region 41 with fail
              have cb := H8.out.box
              have p0 : _root_.Go.World.cell? _ ⟨k4, 0, none⟩ = some (.int .i64 id) := blk_cell cb 0
              have p1 : _root_.Go.World.cell? _ ⟨k4, 1, none⟩ = some (.int .i64 (f 0)) := blk_cell cb 1
              have p2 : _root_.Go.World.cell? _ ⟨k4, 2, none⟩ = some (.int .i64 (f 1)) := blk_cell cb 2
              have p3 : _root_.Go.World.cell? _ ⟨k4, 3, none⟩ = some (.int .i64 (f 2)) := blk_cell cb 3
              have p4 : _root_.Go.World.cell? _ ⟨k4, 4, none⟩ = some (.int .i64 (f 3)) := blk_cell cb 4
              have p5 : _root_.Go.World.cell? _ ⟨k4, 5, none⟩ = some (.slice a1 m1 c1) := blk_cell cb 5
              have p6 : _root_.Go.World.cell? _ ⟨k4, 6, none⟩ = some (.slice a2 m2 c2) := blk_cell cb 6
              clear cb
              go_region_law (go_simp; (with_reducible refine (CE.out _ (below_up H8.out.low (by repeat (first | exact Below.refl _ _ | (with_reducible assumption) | refine bw_alloc ?_ _ | refine bw_drew ?_)))).mono ?_); rintro y u9 ⟨rfl, bx⟩; have H9 := Lib.hid ((H8.out.below (by repeat (first | exact Below.refl _ _ | (with_reducible assumption) | refine bw_alloc ?_ _ | refine bw_drew ?_))).below bx); have ct := H9.out.box; have cr := H9.out.res; have s0 : u9.cell? ⟨k4, 0, none⟩ = some (.int .i64 id) := blk_cell ct 0; have s1 : u9.cell? ⟨k4, 1, none⟩ = some (.int .i64 (f 0)) := blk_cell ct 1; have s2 : u9.cell? ⟨k4, 2, none⟩ = some (.int .i64 (f 1)) := blk_cell ct 2; have s3 : u9.cell? ⟨k4, 3, none⟩ = some (.int .i64 (f 2)) := blk_cell ct 3; have s4 : u9.cell? ⟨k4, 4, none⟩ = some (.int .i64 (f 3)) := blk_cell ct 4; have s5 : u9.cell? ⟨k4, 5, none⟩ = some (.slice a1 m1 c1) := blk_cell ct 5; have s6 : u9.cell? ⟨k4, 6, none⟩ = some (.slice a2 m2 c2) := blk_cell ct 6; have r0 : u9.cell? ⟨w.heap.size, 0, none⟩ = some (.int .i64 0) := blk_cell cr 0; have r1 : u9.cell? ⟨w.heap.size, 1, none⟩ = some (.int .i64 0) := blk_cell cr 1; have r2 : u9.cell? ⟨w.heap.size, 2, none⟩ = some (.int .i64 0) := blk_cell cr 2; have r3 : u9.cell? ⟨w.heap.size, 3, none⟩ = some (.int .i64 0) := blk_cell cr 3; have r4 : u9.cell? ⟨w.heap.size, 4, none⟩ = some (.int .i64 0) := blk_cell cr 4; have r5 : u9.cell? ⟨w.heap.size, 5, none⟩ = some (.slice none 0 0) := blk_cell cr 5; have r6 : u9.cell? ⟨w.heap.size, 6, none⟩ = some (.slice none 0 0) := blk_cell cr 6; have r7 : u9.cell? ⟨w.heap.size, 7, none⟩ = some (.int .i64 0) := blk_cell cr 7; have r8 : u9.cell? ⟨w.heap.size, 8, none⟩ = some (.int .i64 0) := blk_cell cr 8; have f0 := blk_free cr 0; have f1 := blk_free cr 1; have f2 := blk_free cr 2; have f3 := blk_free cr 3; have f4 := blk_free cr 4; have f5 := blk_free cr 5; have f6 := blk_free cr 6; have f7 := blk_free cr 7; have f8 := blk_free cr 8; have hr := lt_of_block cr; clear bx ct cr)
              all_goals
                go_wp2_with fail
                refine bodyPost_ret (v := .agg #[.int .i64 id, .int .i64 (f 0), .int .i64 (f 1), .int .i64 (f 2), .int .i64 (f 3), .slice a1 m1 c1, .slice a2 m2 c2, .int .i64 (endAt W W.length), .int .i64 0]) (by simp [results, Tryd.results26, go_sem, hr, r0, r1, r2, r3, r4, r5, r6, r7, r8]) rfl ?_
                exact rline_done H9.out HOK.out _ _ _ _ _ _ _ _ _
          | some z2 =>
            have huz : usAt W = numsOf z2 255 := by unfold usAt numsAt; rw [hp1, e8]; rfl
            cases e9 : numsOf z2 255 with
            | none =>
              have hp2 : plus2 W = 6 := by unfold plus2; rw [huz, e9, hp1]; rfl
              have hjl := val_lt e8
              have CNB : Hid (∀ v, Calls Tryd.prog 46 #[.string z2, .int .i64 255] v fun e w' => e = .returned (.tuple #[.slice none 0 0, .bool false]) ∧ Below v.heap.size v w') := fun v => ((e9 ▸ rnumbers_own z2 (HWZ.out _ _ _ e8) 255 v)).mono fun _ _ h => numso_none h
              clear huz e9 hp1
              go_upto_region 33 with (first
                | (go_at_call 45; (with_reducible refine (CVS.out 6 6 bUse _ _ rfl (by omega) e8 HU.out.low).mono ?_); rintro y ux ⟨rfl, bx⟩; have H6 := Lib.hid (HU.out.below bx); clear bx)
                | (go_at_call 46; (with_reducible refine (CNB.out _).mono ?_); rintro y uy ⟨rfl, bx⟩; have H7 := Lib.hid ((H6.out.below (by repeat (first | exact Below.refl _ _ | (with_reducible assumption) | refine bw_alloc ?_ _ | refine bw_drew ?_))).below bx); clear bx))
              have HB : Hid (lineOf W = .error (placeAt W 6)) := by show _ = _; rw [line_over e0 e1 n0 n1 n2 n3 (by rw [hp2]; exact hjl), hp2]
              go_wp2_with (go_at_call 25; (with_reducible refine (CW.out 6 6 _ rfl (by omega) H7.out.low).mono ?_); rintro y ux ⟨rfl, bx⟩; have BX := Lib.hid (below_up H7.out.low bx); have hx := kept_obj bx H7.out.res; have r0 : ux.cell? ⟨w.heap.size, 0, none⟩ = some (.int .i64 0) := blk_cell hx 0; have r1 : ux.cell? ⟨w.heap.size, 1, none⟩ = some (.int .i64 0) := blk_cell hx 1; have r2 : ux.cell? ⟨w.heap.size, 2, none⟩ = some (.int .i64 0) := blk_cell hx 2; have r3 : ux.cell? ⟨w.heap.size, 3, none⟩ = some (.int .i64 0) := blk_cell hx 3; have r4 : ux.cell? ⟨w.heap.size, 4, none⟩ = some (.int .i64 0) := blk_cell hx 4; have r5 : ux.cell? ⟨w.heap.size, 5, none⟩ = some (.slice none 0 0) := blk_cell hx 5; have r6 : ux.cell? ⟨w.heap.size, 6, none⟩ = some (.slice none 0 0) := blk_cell hx 6; have r7 : ux.cell? ⟨w.heap.size, 7, none⟩ = some (.int .i64 0) := blk_cell hx 7; have r8 : ux.cell? ⟨w.heap.size, 8, none⟩ = some (.int .i64 0) := blk_cell hx 8; have f0 := blk_free hx 0; have f1 := blk_free hx 1; have f2 := blk_free hx 2; have f3 := blk_free hx 3; have f4 := blk_free hx 4; have f5 := blk_free hx 5; have f6 := blk_free hx 6; have f7 := blk_free hx 7; have f8 := blk_free hx 8; have hr := lt_of_block hx; clear bx hx)
              exact bodyPost_ret (v := .agg #[.int .i64 0, .int .i64 0, .int .i64 0, .int .i64 0, .int .i64 0, .slice none 0 0, .slice none 0 0, .int .i64 (placeAt W 6), .int .i64 10]) (by simp [results, Tryd.results26, go_sem, hr, r0, r1, r2, r3, r4, r5, r6, r7, r8]) rfl (rline_bad HB.out (by repeat (first | with_reducible exact BX.out | refine Below.setCell ?_ (by simp) _)))
            | some l =>
              have hp2 : plus2 W = 7 := by unfold plus2; rw [huz, e9, hp1]; rfl
              obtain ⟨us, hus⟩ : ∃ us : List Int, (usAt W).getD [] = us := ⟨_, rfl⟩
              have hus0 : l = us := by rw [← hus, huz, e9]; rfl
              subst hus0
              have hll := numsOf_len e9
              have hzz := HWZ.out _ _ _ e8
              obtain ⟨m, hm⟩ : ∃ m, l.length = m := ⟨_, rfl⟩
              have hm9 : m ≤ 900001 := by omega
              have CNB : Hid (∀ v, Calls Tryd.prog 46 #[.string z2, .int .i64 255] v fun e w' => ∃ a c, e = .returned (.tuple #[.slice a m c, .bool true]) ∧ OwnI w' 2 v.heap.size (.slice a m c) l ∧ Below v.heap.size v w') := fun v => ((e9 ▸ rnumbers_own z2 (HWZ.out _ _ _ e8) 255 v)).mono fun _ _ h => numso_some hm h
              have HLM := Lib.hid hm
              clear huz e9 hp1 hll hzz hm
              go_upto_region 34 with (first
                | (go_at_call 45; (with_reducible refine (CVS.out 6 6 bUse _ _ rfl (by omega) e8 HU.out.low).mono ?_); rintro y ux ⟨rfl, bx⟩; have H6 := Lib.hid (HU.out.below bx); clear bx)
                | (go_at_call 46; (with_reducible refine (CNB.out _).mono ?_); rintro y uy ⟨a3, c3, rfl, ox, bx⟩; have H7 := Lib.hid ((H6.out.below (by repeat (first | exact Below.refl _ _ | (with_reducible assumption) | refine bw_alloc ?_ _ | refine bw_drew ?_))).src bx ox (Nat.le_trans H6.out.low.size (((by repeat (first | exact Below.refl _ _ | (with_reducible assumption) | refine bw_alloc ?_ _ | refine bw_drew ?_)) : Below ux.heap.size ux _).size))); clear bx ox))
              clear CNB H6 HU e8
              go_wp2_with fail
              go_loopw [17] (fun u wr => ∃ (k : Nat) (a' : Option Addr) (cp' : Nat), k ≤ m ∧ u = .int .i64 k ∧ Hid (RSt w k4 id (f 0) (f 1) (f 2) (f 3) (.slice a1 m1 c1) ch (.slice a' k cp') (l.take k) (.slice a3 m c3) l wr)) (fun u _ => (m - intOf u).toNat)
              case atStart => exact ⟨0, none, 0, by omega, rfl, H7⟩
              case round =>
                obtain ⟨k, a', cp', hk, rfl, HP⟩ := hrel
                clear H7
                have b6 : wr.cell? ⟨k4, 6, none⟩ = some (.slice a' k cp') := by rw [blk_cell HP.out.box]; rfl
                by_cases hlt : k < m
                · obtain ⟨y, hy⟩ := nth_of HLM.out hlt
                  obtain ⟨g3, o3, rfl, z3⟩ := (HP.out.own3.ints).1.at_ hy
                  have hk1 : (k : Int) < (m : Int) := by omega
                  have hk0 : (0 : Int) ≤ (k : Int) := by omega
                  have HTL : Hid ((l.take k).length = k) := by show _ = _; rw [List.length_take, HLM.out]; omega
                  have HT2 : Hid (l.take k ++ [y] = l.take (k + 1)) := by show _ = _; rw [List.take_add_one, hy]; rfl
                  have HSM : Hid ((((l.take k).length : Int) + ((1 : Nat) : Int)) ≤ 17592186044416) := by show _ ≤ _; rw [HTL.out]; omega
                  have HNN : Hid ((l.take k).length + 1 = k + 1) := by show _ = _; rw [HTL.out]
                  have hkw := lt_of_block HP.out.box
                  clear hy
                  go_upto_region 37 with fail
                  go_region_law (refine step_ints (m := 1) (l := [y]) numI rfl (.tmp 124) (.tmp 129) rfl (by rfl) (by rfl) (HP.out.below (by repeat (first | exact Below.refl _ _ | (with_reducible assumption) | refine bw_alloc ?_ _ | refine bw_drew ?_))).own2 (Nat.le_trans (lt_of_block HP.out.box) (((by repeat (first | exact Below.refl _ _ | (with_reducible assumption) | refine bw_alloc ?_ _ | refine bw_drew ?_)) : Below wr.heap.size wr _).size)) (by first | exact ints_new _ _ _ | exact (ints_new _ _ _).below (by repeat (first | exact Below.refl _ _ | (with_reducible assumption) | refine bw_alloc ?_ _ | refine bw_drew ?_))) rfl HSM.out (fun z => by cases z) (k + 1) HNN.out ?_; intro a5 k5 w5 o5 g5 l5; obtain ⟨hn, y1, y2⟩ := (HP.out.below (by repeat (first | exact Below.refl _ _ | (with_reducible assumption) | refine bw_alloc ?_ _ | refine bw_drew ?_))).push g5 (HT2.out ▸ o5); have HNW := Lib.hid hn; clear hn o5 g5 l5)
                  all_goals
                    go_wp2_with fail
                    go_roundw
                    case rel => exact ⟨k + 1, a5, k5, by omega, by go_num, HNW⟩
                    case measure => simp [intOf]; omega
                · obtain rfl : m = k := by omega
                  have HT : Hid (l.take m = l) := by show _ = _; rw [← HLM.out, List.take_length]
                  have H8 : Hid (RSt w k4 id (f 0) (f 1) (f 2) (f 3) (.slice a1 m1 c1) ch (.slice a' m cp') l (.slice a3 m c3) l wr) := by
                    have q9 := HP.out
                    rw [HT.out] at q9
                    exact q9
                  clear HT HP b6 hlt hk
                  go_upto_region 39 with fail
                  obtain ⟨a2, m2, c2, hv2⟩ : ∃ (a2 : Option Addr) (m2 c2 : Nat), (Value.slice a' m cp') = .slice a2 m2 c2 := ⟨_, _, _, rfl⟩
                  rw [hv2] at H8
                  clear hv2
                  by_cases ho : 7 < n
                  · have d20 : (7 : Int) < (n : Int) := by omega
                    have HB : Hid (lineOf W = .error (placeAt W 7)) := by show _ = _; rw [line_over e0 e1 n0 n1 n2 n3 (by rw [hp2, HL.out]; exact ho), hp2]
                    go_wp2_with (go_at_call 25; (with_reducible refine (CW.out 7 7 _ rfl (by omega) H8.out.low).mono ?_); rintro y ux ⟨rfl, bx⟩; have BX := Lib.hid (below_up H8.out.low bx); have hx := kept_obj bx H8.out.res; have r0 : ux.cell? ⟨w.heap.size, 0, none⟩ = some (.int .i64 0) := blk_cell hx 0; have r1 : ux.cell? ⟨w.heap.size, 1, none⟩ = some (.int .i64 0) := blk_cell hx 1; have r2 : ux.cell? ⟨w.heap.size, 2, none⟩ = some (.int .i64 0) := blk_cell hx 2; have r3 : ux.cell? ⟨w.heap.size, 3, none⟩ = some (.int .i64 0) := blk_cell hx 3; have r4 : ux.cell? ⟨w.heap.size, 4, none⟩ = some (.int .i64 0) := blk_cell hx 4; have r5 : ux.cell? ⟨w.heap.size, 5, none⟩ = some (.slice none 0 0) := blk_cell hx 5; have r6 : ux.cell? ⟨w.heap.size, 6, none⟩ = some (.slice none 0 0) := blk_cell hx 6; have r7 : ux.cell? ⟨w.heap.size, 7, none⟩ = some (.int .i64 0) := blk_cell hx 7; have r8 : ux.cell? ⟨w.heap.size, 8, none⟩ = some (.int .i64 0) := blk_cell hx 8; have f0 := blk_free hx 0; have f1 := blk_free hx 1; have f2 := blk_free hx 2; have f3 := blk_free hx 3; have f4 := blk_free hx 4; have f5 := blk_free hx 5; have f6 := blk_free hx 6; have f7 := blk_free hx 7; have f8 := blk_free hx 8; have hr := lt_of_block hx; clear bx hx)
                    exact bodyPost_ret (v := .agg #[.int .i64 0, .int .i64 0, .int .i64 0, .int .i64 0, .int .i64 0, .slice none 0 0, .slice none 0 0, .int .i64 (placeAt W 7), .int .i64 10]) (by simp [results, Tryd.results26, go_sem, hr, r0, r1, r2, r3, r4, r5, r6, r7, r8]) rfl (rline_bad HB.out (by repeat (first | with_reducible exact BX.out | refine Below.setCell ?_ (by simp) _)))
                  · have d20 : ¬ (7 : Int) < (n : Int) := by omega
                    have HOK : Hid (lineOf W = .ok ⟨id, f 0, f 1, f 2, f 3, ch, l⟩) := by show _ = _; rw [line_ok e0 e1 n0 n1 n2 n3 (by rw [hp2, HL.out]; exact ho), hch, hus]
                    clear ho hp2 hch hus
                    go_upto_region 41 with fail
                    have cb := H8.out.box
                    have p0 : _root_.Go.World.cell? _ ⟨k4, 0, none⟩ = some (.int .i64 id) := blk_cell cb 0
                    have p1 : _root_.Go.World.cell? _ ⟨k4, 1, none⟩ = some (.int .i64 (f 0)) := blk_cell cb 1
                    have p2 : _root_.Go.World.cell? _ ⟨k4, 2, none⟩ = some (.int .i64 (f 1)) := blk_cell cb 2
                    have p3 : _root_.Go.World.cell? _ ⟨k4, 3, none⟩ = some (.int .i64 (f 2)) := blk_cell cb 3
                    have p4 : _root_.Go.World.cell? _ ⟨k4, 4, none⟩ = some (.int .i64 (f 3)) := blk_cell cb 4
                    have p5 : _root_.Go.World.cell? _ ⟨k4, 5, none⟩ = some (.slice a1 m1 c1) := blk_cell cb 5
                    have p6 : _root_.Go.World.cell? _ ⟨k4, 6, none⟩ = some (.slice a2 m2 c2) := blk_cell cb 6
                    clear cb
                    go_region_law (go_simp; (with_reducible refine (CE.out _ (below_up H8.out.low (by repeat (first | exact Below.refl _ _ | (with_reducible assumption) | refine bw_alloc ?_ _ | refine bw_drew ?_)))).mono ?_); rintro y u9 ⟨rfl, bx⟩; have H9 := Lib.hid ((H8.out.below (by repeat (first | exact Below.refl _ _ | (with_reducible assumption) | refine bw_alloc ?_ _ | refine bw_drew ?_))).below bx); have ct := H9.out.box; have cr := H9.out.res; have s0 : u9.cell? ⟨k4, 0, none⟩ = some (.int .i64 id) := blk_cell ct 0; have s1 : u9.cell? ⟨k4, 1, none⟩ = some (.int .i64 (f 0)) := blk_cell ct 1; have s2 : u9.cell? ⟨k4, 2, none⟩ = some (.int .i64 (f 1)) := blk_cell ct 2; have s3 : u9.cell? ⟨k4, 3, none⟩ = some (.int .i64 (f 2)) := blk_cell ct 3; have s4 : u9.cell? ⟨k4, 4, none⟩ = some (.int .i64 (f 3)) := blk_cell ct 4; have s5 : u9.cell? ⟨k4, 5, none⟩ = some (.slice a1 m1 c1) := blk_cell ct 5; have s6 : u9.cell? ⟨k4, 6, none⟩ = some (.slice a2 m2 c2) := blk_cell ct 6; have r0 : u9.cell? ⟨w.heap.size, 0, none⟩ = some (.int .i64 0) := blk_cell cr 0; have r1 : u9.cell? ⟨w.heap.size, 1, none⟩ = some (.int .i64 0) := blk_cell cr 1; have r2 : u9.cell? ⟨w.heap.size, 2, none⟩ = some (.int .i64 0) := blk_cell cr 2; have r3 : u9.cell? ⟨w.heap.size, 3, none⟩ = some (.int .i64 0) := blk_cell cr 3; have r4 : u9.cell? ⟨w.heap.size, 4, none⟩ = some (.int .i64 0) := blk_cell cr 4; have r5 : u9.cell? ⟨w.heap.size, 5, none⟩ = some (.slice none 0 0) := blk_cell cr 5; have r6 : u9.cell? ⟨w.heap.size, 6, none⟩ = some (.slice none 0 0) := blk_cell cr 6; have r7 : u9.cell? ⟨w.heap.size, 7, none⟩ = some (.int .i64 0) := blk_cell cr 7; have r8 : u9.cell? ⟨w.heap.size, 8, none⟩ = some (.int .i64 0) := blk_cell cr 8; have f0 := blk_free cr 0; have f1 := blk_free cr 1; have f2 := blk_free cr 2; have f3 := blk_free cr 3; have f4 := blk_free cr 4; have f5 := blk_free cr 5; have f6 := blk_free cr 6; have f7 := blk_free cr 7; have f8 := blk_free cr 8; have hr := lt_of_block cr; clear bx ct cr)
                    all_goals
                      go_wp2_with fail
                      refine bodyPost_ret (v := .agg #[.int .i64 id, .int .i64 (f 0), .int .i64 (f 1), .int .i64 (f 2), .int .i64 (f 3), .slice a1 m1 c1, .slice a2 m2 c2, .int .i64 (endAt W W.length), .int .i64 0]) (by simp [results, Tryd.results26, go_sem, hr, r0, r1, r2, r3, r4, r5, r6, r7, r8]) rfl ?_
                      exact rline_done H9.out HOK.out _ _ _ _ _ _ _ _ _
          
        | some z =>
          have hcz : chAt W = numsOf z 1073741824 := by unfold chAt numsAt; rw [e6]; rfl
          cases e7 : numsOf z 1073741824 with
          | none =>
            have hp1 : plus1 W = 6 := by unfold plus1; rw [hcz, e7]; rfl
            have hu0 : usAt W = none := by unfold usAt numsAt; rw [hp1, val_apart e6]; rfl
            have hp2 : plus2 W = 6 := by unfold plus2; rw [hu0, hp1]; rfl
            have hjl := val_lt e6
            have CNB : Hid (∀ v, Calls Tryd.prog 46 #[.string z, .int .i64 1073741824] v fun e w' => e = .returned (.tuple #[.slice none 0 0, .bool false]) ∧ Below v.heap.size v w') := fun v => ((e7 ▸ rnumbers_own z (HWZ.out _ _ _ e6) 1073741824 v)).mono fun _ _ h => numso_none h
            clear hcz e7 hp1 hu0
            go_upto_region 26 with (first
              | (go_at_call 45; (with_reducible refine (CVS.out 6 6 bChunks _ _ rfl (by omega) e6 H5.out.low).mono ?_); rintro y ux ⟨rfl, bx⟩; have H6 := Lib.hid (H5.out.below bx); clear bx)
              | (go_at_call 46; (with_reducible refine (CNB.out _).mono ?_); rintro y uy ⟨rfl, bx⟩; have H7 := Lib.hid ((H6.out.below (by repeat (first | exact Below.refl _ _ | (with_reducible assumption) | refine bw_alloc ?_ _ | refine bw_drew ?_))).below bx); clear bx))
            have HB : Hid (lineOf W = .error (placeAt W 6)) := by show _ = _; rw [line_over e0 e1 n0 n1 n2 n3 (by rw [hp2]; exact hjl), hp2]
            go_wp2_with (go_at_call 25; (with_reducible refine (CW.out 6 6 _ rfl (by omega) H7.out.low).mono ?_); rintro y ux ⟨rfl, bx⟩; have BX := Lib.hid (below_up H7.out.low bx); have hx := kept_obj bx H7.out.res; have r0 : ux.cell? ⟨w.heap.size, 0, none⟩ = some (.int .i64 0) := blk_cell hx 0; have r1 : ux.cell? ⟨w.heap.size, 1, none⟩ = some (.int .i64 0) := blk_cell hx 1; have r2 : ux.cell? ⟨w.heap.size, 2, none⟩ = some (.int .i64 0) := blk_cell hx 2; have r3 : ux.cell? ⟨w.heap.size, 3, none⟩ = some (.int .i64 0) := blk_cell hx 3; have r4 : ux.cell? ⟨w.heap.size, 4, none⟩ = some (.int .i64 0) := blk_cell hx 4; have r5 : ux.cell? ⟨w.heap.size, 5, none⟩ = some (.slice none 0 0) := blk_cell hx 5; have r6 : ux.cell? ⟨w.heap.size, 6, none⟩ = some (.slice none 0 0) := blk_cell hx 6; have r7 : ux.cell? ⟨w.heap.size, 7, none⟩ = some (.int .i64 0) := blk_cell hx 7; have r8 : ux.cell? ⟨w.heap.size, 8, none⟩ = some (.int .i64 0) := blk_cell hx 8; have f0 := blk_free hx 0; have f1 := blk_free hx 1; have f2 := blk_free hx 2; have f3 := blk_free hx 3; have f4 := blk_free hx 4; have f5 := blk_free hx 5; have f6 := blk_free hx 6; have f7 := blk_free hx 7; have f8 := blk_free hx 8; have hr := lt_of_block hx; clear bx hx)
            exact bodyPost_ret (v := .agg #[.int .i64 0, .int .i64 0, .int .i64 0, .int .i64 0, .int .i64 0, .slice none 0 0, .slice none 0 0, .int .i64 (placeAt W 6), .int .i64 10]) (by simp [results, Tryd.results26, go_sem, hr, r0, r1, r2, r3, r4, r5, r6, r7, r8]) rfl (rline_bad HB.out (by repeat (first | with_reducible exact BX.out | refine Below.setCell ?_ (by simp) _)))
          | some q =>
            have hp1 : plus1 W = 7 := by unfold plus1; rw [hcz, e7]; rfl
            obtain ⟨ch, hch⟩ : ∃ ch : List Int, (chAt W).getD [] = ch := ⟨_, rfl⟩
            have hch0 : q = ch := by rw [← hch, hcz, e7]; rfl
            subst hch0
            obtain ⟨m, hm⟩ : ∃ m, q.length = m := ⟨_, rfl⟩
            have CNB : Hid (∀ v, Calls Tryd.prog 46 #[.string z, .int .i64 1073741824] v fun e w' => ∃ a c, e = .returned (.tuple #[.slice a m c, .bool true]) ∧ OwnI w' 2 v.heap.size (.slice a m c) q ∧ Below v.heap.size v w') := fun v => ((e7 ▸ rnumbers_own z (HWZ.out _ _ _ e6) 1073741824 v)).mono fun _ _ h => numso_some hm h
            clear hcz e7 hm
            go_upto_region 27 with (first
              | (go_at_call 45; (with_reducible refine (CVS.out 6 6 bChunks _ _ rfl (by omega) e6 H5.out.low).mono ?_); rintro y ux ⟨rfl, bx⟩; have H6 := Lib.hid (H5.out.below bx); clear bx)
              | (go_at_call 46; (with_reducible refine (CNB.out _).mono ?_); rintro y uy ⟨a3, c3, rfl, ox, bx⟩; have H7 := Lib.hid ((H6.out.below (by repeat (first | exact Below.refl _ _ | (with_reducible assumption) | refine bw_alloc ?_ _ | refine bw_drew ?_))).src bx ox (Nat.le_trans H6.out.low.size (((by repeat (first | exact Below.refl _ _ | (with_reducible assumption) | refine bw_alloc ?_ _ | refine bw_drew ?_)) : Below ux.heap.size ux _).size))); clear bx ox))
            have b5 : uy.cell? ⟨k4, 5, none⟩ = some (.slice none 0 0) := by rw [blk_cell H7.out.box]; rfl
            have b5f := blk_free H7.out.box 5
            have b5l := lt_of_block H7.out.box
            have H8c := Lib.hid H7.out.chunks
            clear CNB H6 H5 e6 H7
            go_upto_region 29 with fail
            refine gen_world (RSt w k4 id (f 0) (f 1) (f 2) (f 3) (.slice a3 m c3) q (.slice none 0 0) [] (.slice a3 m c3) q) H8c.out ?_
            intro u8 h8
            have H8a : Hid (∃ (a1 : Option Addr) (m1 c1 : Nat) (v3 : Value), RSt w k4 id (f 0) (f 1) (f 2) (f 3) (.slice a1 m1 c1) q (.slice none 0 0) [] v3 q u8) := ⟨_, _, _, _, h8⟩
            clear h8 H8c b5 b5f b5l
            obtain ⟨a1, m1, c1, v3, h8⟩ := H8a.out
            have HU := Lib.hid h8
            clear h8 H8a
            cases e8 : valAt W 7 bUse with
            | none =>
              have hu0 : usAt W = none := by unfold usAt numsAt; rw [hp1, e8]; rfl
              have hp2 : plus2 W = 7 := by unfold plus2; rw [hu0, hp1]; rfl
              obtain ⟨us, hus⟩ : ∃ us : List Int, (usAt W).getD [] = us := ⟨_, rfl⟩
              have hus0 : us = [] := by rw [← hus, hu0]; rfl
              clear hu0 hp1
              go_upto_region 39 with (go_at_call 45; (with_reducible refine (CVN.out 7 7 bUse _ rfl (by omega) e8 HU.out.low).mono ?_); rintro y ux ⟨rfl, bx⟩; have H6 := Lib.hid (HU.out.below bx); clear bx)
              have H6b := Lib.hid (H6.out.below (bw_alloc (Below.refl _ _) (.cells #[.string ⟨#[]⟩, .string ⟨#[]⟩, .bool false] TwoT)))
              clear H6 HU e8
              refine gen_world (RSt w k4 id (f 0) (f 1) (f 2) (f 3) (.slice a1 m1 c1) q (.slice none 0 0) [] v3 q) H6b.out ?_
              intro u10 h10
              have H8a : Hid (∃ (a2 : Option Addr) (m2 c2 : Nat), RSt w k4 id (f 0) (f 1) (f 2) (f 3) (.slice a1 m1 c1) q (.slice a2 m2 c2) us v3 q u10) := ⟨none, 0, 0, hus0 ▸ h10⟩
              clear h10 H6b hus0
              obtain ⟨a2, m2, c2, h10⟩ := H8a.out
              have H8 := Lib.hid h10
              clear h10 H8a
              by_cases ho : 7 < n
              · have d20 : (7 : Int) < (n : Int) := by omega
                have HB : Hid (lineOf W = .error (placeAt W 7)) := by show _ = _; rw [line_over e0 e1 n0 n1 n2 n3 (by rw [hp2, HL.out]; exact ho), hp2]
                go_wp2_with (go_at_call 25; (with_reducible refine (CW.out 7 7 _ rfl (by omega) H8.out.low).mono ?_); rintro y ux ⟨rfl, bx⟩; have BX := Lib.hid (below_up H8.out.low bx); have hx := kept_obj bx H8.out.res; have r0 : ux.cell? ⟨w.heap.size, 0, none⟩ = some (.int .i64 0) := blk_cell hx 0; have r1 : ux.cell? ⟨w.heap.size, 1, none⟩ = some (.int .i64 0) := blk_cell hx 1; have r2 : ux.cell? ⟨w.heap.size, 2, none⟩ = some (.int .i64 0) := blk_cell hx 2; have r3 : ux.cell? ⟨w.heap.size, 3, none⟩ = some (.int .i64 0) := blk_cell hx 3; have r4 : ux.cell? ⟨w.heap.size, 4, none⟩ = some (.int .i64 0) := blk_cell hx 4; have r5 : ux.cell? ⟨w.heap.size, 5, none⟩ = some (.slice none 0 0) := blk_cell hx 5; have r6 : ux.cell? ⟨w.heap.size, 6, none⟩ = some (.slice none 0 0) := blk_cell hx 6; have r7 : ux.cell? ⟨w.heap.size, 7, none⟩ = some (.int .i64 0) := blk_cell hx 7; have r8 : ux.cell? ⟨w.heap.size, 8, none⟩ = some (.int .i64 0) := blk_cell hx 8; have f0 := blk_free hx 0; have f1 := blk_free hx 1; have f2 := blk_free hx 2; have f3 := blk_free hx 3; have f4 := blk_free hx 4; have f5 := blk_free hx 5; have f6 := blk_free hx 6; have f7 := blk_free hx 7; have f8 := blk_free hx 8; have hr := lt_of_block hx; clear bx hx)
                exact bodyPost_ret (v := .agg #[.int .i64 0, .int .i64 0, .int .i64 0, .int .i64 0, .int .i64 0, .slice none 0 0, .slice none 0 0, .int .i64 (placeAt W 7), .int .i64 10]) (by simp [results, Tryd.results26, go_sem, hr, r0, r1, r2, r3, r4, r5, r6, r7, r8]) rfl (rline_bad HB.out (by repeat (first | with_reducible exact BX.out | refine Below.setCell ?_ (by simp) _)))
              · have d20 : ¬ (7 : Int) < (n : Int) := by omega
                have HOK : Hid (lineOf W = .ok ⟨id, f 0, f 1, f 2, f 3, q, us⟩) := by show _ = _; rw [line_ok e0 e1 n0 n1 n2 n3 (by rw [hp2, HL.out]; exact ho), hch, hus]
                clear ho hp2 hch hus
                go_upto_region 41 with fail
                have cb := H8.out.box
                have p0 : _root_.Go.World.cell? _ ⟨k4, 0, none⟩ = some (.int .i64 id) := blk_cell cb 0
                have p1 : _root_.Go.World.cell? _ ⟨k4, 1, none⟩ = some (.int .i64 (f 0)) := blk_cell cb 1
                have p2 : _root_.Go.World.cell? _ ⟨k4, 2, none⟩ = some (.int .i64 (f 1)) := blk_cell cb 2
                have p3 : _root_.Go.World.cell? _ ⟨k4, 3, none⟩ = some (.int .i64 (f 2)) := blk_cell cb 3
                have p4 : _root_.Go.World.cell? _ ⟨k4, 4, none⟩ = some (.int .i64 (f 3)) := blk_cell cb 4
                have p5 : _root_.Go.World.cell? _ ⟨k4, 5, none⟩ = some (.slice a1 m1 c1) := blk_cell cb 5
                have p6 : _root_.Go.World.cell? _ ⟨k4, 6, none⟩ = some (.slice a2 m2 c2) := blk_cell cb 6
                clear cb
                go_region_law (go_simp; (with_reducible refine (CE.out _ (below_up H8.out.low (by repeat (first | exact Below.refl _ _ | (with_reducible assumption) | refine bw_alloc ?_ _ | refine bw_drew ?_)))).mono ?_); rintro y u9 ⟨rfl, bx⟩; have H9 := Lib.hid ((H8.out.below (by repeat (first | exact Below.refl _ _ | (with_reducible assumption) | refine bw_alloc ?_ _ | refine bw_drew ?_))).below bx); have ct := H9.out.box; have cr := H9.out.res; have s0 : u9.cell? ⟨k4, 0, none⟩ = some (.int .i64 id) := blk_cell ct 0; have s1 : u9.cell? ⟨k4, 1, none⟩ = some (.int .i64 (f 0)) := blk_cell ct 1; have s2 : u9.cell? ⟨k4, 2, none⟩ = some (.int .i64 (f 1)) := blk_cell ct 2; have s3 : u9.cell? ⟨k4, 3, none⟩ = some (.int .i64 (f 2)) := blk_cell ct 3; have s4 : u9.cell? ⟨k4, 4, none⟩ = some (.int .i64 (f 3)) := blk_cell ct 4; have s5 : u9.cell? ⟨k4, 5, none⟩ = some (.slice a1 m1 c1) := blk_cell ct 5; have s6 : u9.cell? ⟨k4, 6, none⟩ = some (.slice a2 m2 c2) := blk_cell ct 6; have r0 : u9.cell? ⟨w.heap.size, 0, none⟩ = some (.int .i64 0) := blk_cell cr 0; have r1 : u9.cell? ⟨w.heap.size, 1, none⟩ = some (.int .i64 0) := blk_cell cr 1; have r2 : u9.cell? ⟨w.heap.size, 2, none⟩ = some (.int .i64 0) := blk_cell cr 2; have r3 : u9.cell? ⟨w.heap.size, 3, none⟩ = some (.int .i64 0) := blk_cell cr 3; have r4 : u9.cell? ⟨w.heap.size, 4, none⟩ = some (.int .i64 0) := blk_cell cr 4; have r5 : u9.cell? ⟨w.heap.size, 5, none⟩ = some (.slice none 0 0) := blk_cell cr 5; have r6 : u9.cell? ⟨w.heap.size, 6, none⟩ = some (.slice none 0 0) := blk_cell cr 6; have r7 : u9.cell? ⟨w.heap.size, 7, none⟩ = some (.int .i64 0) := blk_cell cr 7; have r8 : u9.cell? ⟨w.heap.size, 8, none⟩ = some (.int .i64 0) := blk_cell cr 8; have f0 := blk_free cr 0; have f1 := blk_free cr 1; have f2 := blk_free cr 2; have f3 := blk_free cr 3; have f4 := blk_free cr 4; have f5 := blk_free cr 5; have f6 := blk_free cr 6; have f7 := blk_free cr 7; have f8 := blk_free cr 8; have hr := lt_of_block cr; clear bx ct cr)
                all_goals
                  go_wp2_with fail
                  refine bodyPost_ret (v := .agg #[.int .i64 id, .int .i64 (f 0), .int .i64 (f 1), .int .i64 (f 2), .int .i64 (f 3), .slice a1 m1 c1, .slice a2 m2 c2, .int .i64 (endAt W W.length), .int .i64 0]) (by simp [results, Tryd.results26, go_sem, hr, r0, r1, r2, r3, r4, r5, r6, r7, r8]) rfl ?_
                  exact rline_done H9.out HOK.out _ _ _ _ _ _ _ _ _
            | some z2 =>
              have huz : usAt W = numsOf z2 255 := by unfold usAt numsAt; rw [hp1, e8]; rfl
              cases e9 : numsOf z2 255 with
              | none =>
                have hp2 : plus2 W = 7 := by unfold plus2; rw [huz, e9, hp1]; rfl
                have hjl := val_lt e8
                have CNB : Hid (∀ v, Calls Tryd.prog 46 #[.string z2, .int .i64 255] v fun e w' => e = .returned (.tuple #[.slice none 0 0, .bool false]) ∧ Below v.heap.size v w') := fun v => ((e9 ▸ rnumbers_own z2 (HWZ.out _ _ _ e8) 255 v)).mono fun _ _ h => numso_none h
                clear huz e9 hp1
                go_upto_region 33 with (first
                  | (go_at_call 45; (with_reducible refine (CVS.out 7 7 bUse _ _ rfl (by omega) e8 HU.out.low).mono ?_); rintro y ux ⟨rfl, bx⟩; have H6 := Lib.hid (HU.out.below bx); clear bx)
                  | (go_at_call 46; (with_reducible refine (CNB.out _).mono ?_); rintro y uy ⟨rfl, bx⟩; have H7 := Lib.hid ((H6.out.below (by repeat (first | exact Below.refl _ _ | (with_reducible assumption) | refine bw_alloc ?_ _ | refine bw_drew ?_))).below bx); clear bx))
                have HB : Hid (lineOf W = .error (placeAt W 7)) := by show _ = _; rw [line_over e0 e1 n0 n1 n2 n3 (by rw [hp2]; exact hjl), hp2]
                go_wp2_with (go_at_call 25; (with_reducible refine (CW.out 7 7 _ rfl (by omega) H7.out.low).mono ?_); rintro y ux ⟨rfl, bx⟩; have BX := Lib.hid (below_up H7.out.low bx); have hx := kept_obj bx H7.out.res; have r0 : ux.cell? ⟨w.heap.size, 0, none⟩ = some (.int .i64 0) := blk_cell hx 0; have r1 : ux.cell? ⟨w.heap.size, 1, none⟩ = some (.int .i64 0) := blk_cell hx 1; have r2 : ux.cell? ⟨w.heap.size, 2, none⟩ = some (.int .i64 0) := blk_cell hx 2; have r3 : ux.cell? ⟨w.heap.size, 3, none⟩ = some (.int .i64 0) := blk_cell hx 3; have r4 : ux.cell? ⟨w.heap.size, 4, none⟩ = some (.int .i64 0) := blk_cell hx 4; have r5 : ux.cell? ⟨w.heap.size, 5, none⟩ = some (.slice none 0 0) := blk_cell hx 5; have r6 : ux.cell? ⟨w.heap.size, 6, none⟩ = some (.slice none 0 0) := blk_cell hx 6; have r7 : ux.cell? ⟨w.heap.size, 7, none⟩ = some (.int .i64 0) := blk_cell hx 7; have r8 : ux.cell? ⟨w.heap.size, 8, none⟩ = some (.int .i64 0) := blk_cell hx 8; have f0 := blk_free hx 0; have f1 := blk_free hx 1; have f2 := blk_free hx 2; have f3 := blk_free hx 3; have f4 := blk_free hx 4; have f5 := blk_free hx 5; have f6 := blk_free hx 6; have f7 := blk_free hx 7; have f8 := blk_free hx 8; have hr := lt_of_block hx; clear bx hx)
                exact bodyPost_ret (v := .agg #[.int .i64 0, .int .i64 0, .int .i64 0, .int .i64 0, .int .i64 0, .slice none 0 0, .slice none 0 0, .int .i64 (placeAt W 7), .int .i64 10]) (by simp [results, Tryd.results26, go_sem, hr, r0, r1, r2, r3, r4, r5, r6, r7, r8]) rfl (rline_bad HB.out (by repeat (first | with_reducible exact BX.out | refine Below.setCell ?_ (by simp) _)))
              | some l =>
                have hp2 : plus2 W = 8 := by unfold plus2; rw [huz, e9, hp1]; rfl
                obtain ⟨us, hus⟩ : ∃ us : List Int, (usAt W).getD [] = us := ⟨_, rfl⟩
                have hus0 : l = us := by rw [← hus, huz, e9]; rfl
                subst hus0
                have hll := numsOf_len e9
                have hzz := HWZ.out _ _ _ e8
                obtain ⟨m, hm⟩ : ∃ m, l.length = m := ⟨_, rfl⟩
                have hm9 : m ≤ 900001 := by omega
                have CNB : Hid (∀ v, Calls Tryd.prog 46 #[.string z2, .int .i64 255] v fun e w' => ∃ a c, e = .returned (.tuple #[.slice a m c, .bool true]) ∧ OwnI w' 2 v.heap.size (.slice a m c) l ∧ Below v.heap.size v w') := fun v => ((e9 ▸ rnumbers_own z2 (HWZ.out _ _ _ e8) 255 v)).mono fun _ _ h => numso_some hm h
                have HLM := Lib.hid hm
                clear huz e9 hp1 hll hzz hm
                go_upto_region 34 with (first
                  | (go_at_call 45; (with_reducible refine (CVS.out 7 7 bUse _ _ rfl (by omega) e8 HU.out.low).mono ?_); rintro y ux ⟨rfl, bx⟩; have H6 := Lib.hid (HU.out.below bx); clear bx)
                  | (go_at_call 46; (with_reducible refine (CNB.out _).mono ?_); rintro y uy ⟨a3, c3, rfl, ox, bx⟩; have H7 := Lib.hid ((H6.out.below (by repeat (first | exact Below.refl _ _ | (with_reducible assumption) | refine bw_alloc ?_ _ | refine bw_drew ?_))).src bx ox (Nat.le_trans H6.out.low.size (((by repeat (first | exact Below.refl _ _ | (with_reducible assumption) | refine bw_alloc ?_ _ | refine bw_drew ?_)) : Below ux.heap.size ux _).size))); clear bx ox))
                clear CNB H6 HU e8
                go_wp2_with fail
                go_loopw [17] (fun u wr => ∃ (k : Nat) (a' : Option Addr) (cp' : Nat), k ≤ m ∧ u = .int .i64 k ∧ Hid (RSt w k4 id (f 0) (f 1) (f 2) (f 3) (.slice a1 m1 c1) q (.slice a' k cp') (l.take k) (.slice a3 m c3) l wr)) (fun u _ => (m - intOf u).toNat)
                case atStart => exact ⟨0, none, 0, by omega, rfl, H7⟩
                case round =>
                  obtain ⟨k, a', cp', hk, rfl, HP⟩ := hrel
                  clear H7
                  have b6 : wr.cell? ⟨k4, 6, none⟩ = some (.slice a' k cp') := by rw [blk_cell HP.out.box]; rfl
                  by_cases hlt : k < m
                  · obtain ⟨y, hy⟩ := nth_of HLM.out hlt
                    obtain ⟨g3, o3, rfl, z3⟩ := (HP.out.own3.ints).1.at_ hy
                    have hk1 : (k : Int) < (m : Int) := by omega
                    have hk0 : (0 : Int) ≤ (k : Int) := by omega
                    have HTL : Hid ((l.take k).length = k) := by show _ = _; rw [List.length_take, HLM.out]; omega
                    have HT2 : Hid (l.take k ++ [y] = l.take (k + 1)) := by show _ = _; rw [List.take_add_one, hy]; rfl
                    have HSM : Hid ((((l.take k).length : Int) + ((1 : Nat) : Int)) ≤ 17592186044416) := by show _ ≤ _; rw [HTL.out]; omega
                    have HNN : Hid ((l.take k).length + 1 = k + 1) := by show _ = _; rw [HTL.out]
                    have hkw := lt_of_block HP.out.box
                    clear hy
                    go_upto_region 37 with fail
                    go_region_law (refine step_ints (m := 1) (l := [y]) numI rfl (.tmp 124) (.tmp 129) rfl (by rfl) (by rfl) (HP.out.below (by repeat (first | exact Below.refl _ _ | (with_reducible assumption) | refine bw_alloc ?_ _ | refine bw_drew ?_))).own2 (Nat.le_trans (lt_of_block HP.out.box) (((by repeat (first | exact Below.refl _ _ | (with_reducible assumption) | refine bw_alloc ?_ _ | refine bw_drew ?_)) : Below wr.heap.size wr _).size)) (by first | exact ints_new _ _ _ | exact (ints_new _ _ _).below (by repeat (first | exact Below.refl _ _ | (with_reducible assumption) | refine bw_alloc ?_ _ | refine bw_drew ?_))) rfl HSM.out (fun z => by cases z) (k + 1) HNN.out ?_; intro a5 k5 w5 o5 g5 l5; obtain ⟨hn, y1, y2⟩ := (HP.out.below (by repeat (first | exact Below.refl _ _ | (with_reducible assumption) | refine bw_alloc ?_ _ | refine bw_drew ?_))).push g5 (HT2.out ▸ o5); have HNW := Lib.hid hn; clear hn o5 g5 l5)
                    all_goals
                      go_wp2_with fail
                      go_roundw
                      case rel => exact ⟨k + 1, a5, k5, by omega, by go_num, HNW⟩
                      case measure => simp [intOf]; omega
                  · obtain rfl : m = k := by omega
                    have HT : Hid (l.take m = l) := by show _ = _; rw [← HLM.out, List.take_length]
                    have H8 : Hid (RSt w k4 id (f 0) (f 1) (f 2) (f 3) (.slice a1 m1 c1) q (.slice a' m cp') l (.slice a3 m c3) l wr) := by
                      have q9 := HP.out
                      rw [HT.out] at q9
                      exact q9
                    clear HT HP b6 hlt hk
                    go_upto_region 39 with fail
                    obtain ⟨a2, m2, c2, hv2⟩ : ∃ (a2 : Option Addr) (m2 c2 : Nat), (Value.slice a' m cp') = .slice a2 m2 c2 := ⟨_, _, _, rfl⟩
                    rw [hv2] at H8
                    clear hv2
                    by_cases ho : 8 < n
                    · have d20 : (8 : Int) < (n : Int) := by omega
                      have HB : Hid (lineOf W = .error (placeAt W 8)) := by show _ = _; rw [line_over e0 e1 n0 n1 n2 n3 (by rw [hp2, HL.out]; exact ho), hp2]
                      go_wp2_with (go_at_call 25; (with_reducible refine (CW.out 8 8 _ rfl (by omega) H8.out.low).mono ?_); rintro y ux ⟨rfl, bx⟩; have BX := Lib.hid (below_up H8.out.low bx); have hx := kept_obj bx H8.out.res; have r0 : ux.cell? ⟨w.heap.size, 0, none⟩ = some (.int .i64 0) := blk_cell hx 0; have r1 : ux.cell? ⟨w.heap.size, 1, none⟩ = some (.int .i64 0) := blk_cell hx 1; have r2 : ux.cell? ⟨w.heap.size, 2, none⟩ = some (.int .i64 0) := blk_cell hx 2; have r3 : ux.cell? ⟨w.heap.size, 3, none⟩ = some (.int .i64 0) := blk_cell hx 3; have r4 : ux.cell? ⟨w.heap.size, 4, none⟩ = some (.int .i64 0) := blk_cell hx 4; have r5 : ux.cell? ⟨w.heap.size, 5, none⟩ = some (.slice none 0 0) := blk_cell hx 5; have r6 : ux.cell? ⟨w.heap.size, 6, none⟩ = some (.slice none 0 0) := blk_cell hx 6; have r7 : ux.cell? ⟨w.heap.size, 7, none⟩ = some (.int .i64 0) := blk_cell hx 7; have r8 : ux.cell? ⟨w.heap.size, 8, none⟩ = some (.int .i64 0) := blk_cell hx 8; have f0 := blk_free hx 0; have f1 := blk_free hx 1; have f2 := blk_free hx 2; have f3 := blk_free hx 3; have f4 := blk_free hx 4; have f5 := blk_free hx 5; have f6 := blk_free hx 6; have f7 := blk_free hx 7; have f8 := blk_free hx 8; have hr := lt_of_block hx; clear bx hx)
                      exact bodyPost_ret (v := .agg #[.int .i64 0, .int .i64 0, .int .i64 0, .int .i64 0, .int .i64 0, .slice none 0 0, .slice none 0 0, .int .i64 (placeAt W 8), .int .i64 10]) (by simp [results, Tryd.results26, go_sem, hr, r0, r1, r2, r3, r4, r5, r6, r7, r8]) rfl (rline_bad HB.out (by repeat (first | with_reducible exact BX.out | refine Below.setCell ?_ (by simp) _)))
                    · have d20 : ¬ (8 : Int) < (n : Int) := by omega
                      have HOK : Hid (lineOf W = .ok ⟨id, f 0, f 1, f 2, f 3, q, l⟩) := by show _ = _; rw [line_ok e0 e1 n0 n1 n2 n3 (by rw [hp2, HL.out]; exact ho), hch, hus]
                      clear ho hp2 hch hus
                      go_upto_region 41 with fail
                      have cb := H8.out.box
                      have p0 : _root_.Go.World.cell? _ ⟨k4, 0, none⟩ = some (.int .i64 id) := blk_cell cb 0
                      have p1 : _root_.Go.World.cell? _ ⟨k4, 1, none⟩ = some (.int .i64 (f 0)) := blk_cell cb 1
                      have p2 : _root_.Go.World.cell? _ ⟨k4, 2, none⟩ = some (.int .i64 (f 1)) := blk_cell cb 2
                      have p3 : _root_.Go.World.cell? _ ⟨k4, 3, none⟩ = some (.int .i64 (f 2)) := blk_cell cb 3
                      have p4 : _root_.Go.World.cell? _ ⟨k4, 4, none⟩ = some (.int .i64 (f 3)) := blk_cell cb 4
                      have p5 : _root_.Go.World.cell? _ ⟨k4, 5, none⟩ = some (.slice a1 m1 c1) := blk_cell cb 5
                      have p6 : _root_.Go.World.cell? _ ⟨k4, 6, none⟩ = some (.slice a2 m2 c2) := blk_cell cb 6
                      clear cb
                      go_region_law (go_simp; (with_reducible refine (CE.out _ (below_up H8.out.low (by repeat (first | exact Below.refl _ _ | (with_reducible assumption) | refine bw_alloc ?_ _ | refine bw_drew ?_)))).mono ?_); rintro y u9 ⟨rfl, bx⟩; have H9 := Lib.hid ((H8.out.below (by repeat (first | exact Below.refl _ _ | (with_reducible assumption) | refine bw_alloc ?_ _ | refine bw_drew ?_))).below bx); have ct := H9.out.box; have cr := H9.out.res; have s0 : u9.cell? ⟨k4, 0, none⟩ = some (.int .i64 id) := blk_cell ct 0; have s1 : u9.cell? ⟨k4, 1, none⟩ = some (.int .i64 (f 0)) := blk_cell ct 1; have s2 : u9.cell? ⟨k4, 2, none⟩ = some (.int .i64 (f 1)) := blk_cell ct 2; have s3 : u9.cell? ⟨k4, 3, none⟩ = some (.int .i64 (f 2)) := blk_cell ct 3; have s4 : u9.cell? ⟨k4, 4, none⟩ = some (.int .i64 (f 3)) := blk_cell ct 4; have s5 : u9.cell? ⟨k4, 5, none⟩ = some (.slice a1 m1 c1) := blk_cell ct 5; have s6 : u9.cell? ⟨k4, 6, none⟩ = some (.slice a2 m2 c2) := blk_cell ct 6; have r0 : u9.cell? ⟨w.heap.size, 0, none⟩ = some (.int .i64 0) := blk_cell cr 0; have r1 : u9.cell? ⟨w.heap.size, 1, none⟩ = some (.int .i64 0) := blk_cell cr 1; have r2 : u9.cell? ⟨w.heap.size, 2, none⟩ = some (.int .i64 0) := blk_cell cr 2; have r3 : u9.cell? ⟨w.heap.size, 3, none⟩ = some (.int .i64 0) := blk_cell cr 3; have r4 : u9.cell? ⟨w.heap.size, 4, none⟩ = some (.int .i64 0) := blk_cell cr 4; have r5 : u9.cell? ⟨w.heap.size, 5, none⟩ = some (.slice none 0 0) := blk_cell cr 5; have r6 : u9.cell? ⟨w.heap.size, 6, none⟩ = some (.slice none 0 0) := blk_cell cr 6; have r7 : u9.cell? ⟨w.heap.size, 7, none⟩ = some (.int .i64 0) := blk_cell cr 7; have r8 : u9.cell? ⟨w.heap.size, 8, none⟩ = some (.int .i64 0) := blk_cell cr 8; have f0 := blk_free cr 0; have f1 := blk_free cr 1; have f2 := blk_free cr 2; have f3 := blk_free cr 3; have f4 := blk_free cr 4; have f5 := blk_free cr 5; have f6 := blk_free cr 6; have f7 := blk_free cr 7; have f8 := blk_free cr 8; have hr := lt_of_block cr; clear bx ct cr)
                      all_goals
                        go_wp2_with fail
                        refine bodyPost_ret (v := .agg #[.int .i64 id, .int .i64 (f 0), .int .i64 (f 1), .int .i64 (f 2), .int .i64 (f 3), .slice a1 m1 c1, .slice a2 m2 c2, .int .i64 (endAt W W.length), .int .i64 0]) (by simp [results, Tryd.results26, go_sem, hr, r0, r1, r2, r3, r4, r5, r6, r7, r8]) rfl ?_
                        exact rline_done H9.out HOK.out _ _ _ _ _ _ _ _ _
            
        
end Go.Proofs.YtlpffgmfgkleiaaDoor
