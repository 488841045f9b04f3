/-
  The walk over the statement that sums and parts are as the document's own answer has them.
-/
import Derived.Test.YtlpkilfpjdggeaaState
namespace Go.Proofs.Ytlpkilfpjdggeaa
open Go.RowKit

theorem fold_u64 (L : List Int) (hL : ∀ z ∈ L, U64 z) : ∀ s, U64 s → U64 (foldR gcdN (fun _ _ => true) s L).1 := by
  induction L with
  | nil => intro s hs; exact hs
  | cons z r ih =>
    intro s hs
    rw [foldR_yes rfl]
    exact ih (fun x hx => hL x (List.mem_cons_of_mem _ hx)) _ (gcdN_u64 hs (hL z List.mem_cons_self))

theorem rgcds_later {W : World} {L : List Int} {cap : Nat} {ao : Option Addr} (hz : ∀ z ∈ L, U64 z) (hn : (L.length : Int) ≤ 9223372036854775807) (hr : Reads W W.heap.size ao L) (w : World) (hb : Below W.heap.size W w) :
    Calls Try.prog 26 #[.slice ao L.length cap] w fun e w' => e = .returned (.int .u64 (foldR gcdN (fun _ _ => true) 0 L).1) ∧ w = w' :=
  rgcds_any L hz hn cap ao w (hr.later (Nat.le_refl _) hb)
theorem rlcms_later {W : World} {L : List Int} {cap : Nat} {ao : Option Addr} (hz : ∀ z ∈ L, U64 z) (hn : (L.length : Int) ≤ 9223372036854775807) (hr : Reads W W.heap.size ao L) (w : World) (hb : Below W.heap.size W w) :
    Calls Try.prog 22 #[.slice ao L.length cap] w fun e w' => e = .returned (.agg #[.int .u64 (foldR lcmN lcmB 1 L).1, .bool (foldR lcmN lcmB 1 L).2]) ∧ Below w.heap.size w w' :=
  rlcm_any L hz hn cap ao w (hr.later (Nat.le_refl _) hb)
theorem rsums_later {W : World} {L : List Int} {cap : Nat} {ao : Option Addr} (hz : ∀ z ∈ L, U64 z) (hn : (L.length : Int) ≤ 9223372036854775807) (hr : Reads W W.heap.size ao L) (w : World) (hb : Below W.heap.size W w) :
    Calls Try.prog 20 #[.slice ao L.length cap] w fun e w' => e = .returned (.agg #[.int .u64 (foldR addN addB 0 L).1, .bool (foldR addN addB 0 L).2]) ∧ Below w.heap.size w w' :=
  rsum_any L hz hn cap ao w (hr.later (Nat.le_refl _) hb)

theorem slice_later {f : Nat} {W : World} {R : Ending → Prop} {args : Array Value} (h : ∀ w, Below W.heap.size W w → Calls Try.prog f args w fun e w' => R e ∧ Below w.heap.size w w') (w : World) (hb : Below W.heap.size W w) :
    Calls Try.prog f args w fun e w' => R e ∧ Below w.heap.size w w' := h w hb

set_option maxRecDepth 100000 in
set_option maxHeartbeats 4000000 in
theorem law_tells (a0 : Option Addr) (len cap : Nat) (z : List Int) (a b c : Int) (W : World) (ha : U64 a) (hb : U64 b) (hc : U64 c) (hrow : IsRow .u64 W a0 len cap z) :
    Calls Try.prog 3 #[.agg #[.int .u64 a, .int .u64 b, .int .u64 c], .slice a0 len cap] W fun e w' => e = .returned (.bool true) ∧ Below W.heap.size W w' := by
  obtain ⟨L, hl8, hlu, hlr, cap', hlc, _, F⟩ := few_any hrow
  have hL : (L.length : Int) ≤ 9223372036854775807 := by omega
  have A1 := Lib.hid (add_any a b ha hb)
  have A2 := Lib.hid (radd_any a b ha hb)
  have S1 := Lib.hid (sub_any a b ha hb)
  have S2 := Lib.hid (rsub_any a b ha hb)
  have M1 := Lib.hid (mul_any a b ha hb)
  have M2 := Lib.hid (rmul_any a b ha hb)
  have C1 := Lib.hid (ceil_any a b ha hb)
  have C2 := Lib.hid (rceil_any a b ha hb)
  have D1 := Lib.hid (muldiv_any a b c ha hb hc)
  have D2 := Lib.hid (rmuldiv_any a b c ha hb hc)
  have U1 := Lib.hid (fun w (h : Below W.heap.size W w) => sum_any L hlu hL cap' a0 w (hlr.later (Nat.le_refl _) h))
  have U2 := Lib.hid (fun w (h : Below W.heap.size W w) => rsum_any L hlu hL cap' a0 w (hlr.later (Nat.le_refl _) h))
  have L1 := Lib.hid (fun w (h : Below W.heap.size W w) => lcms_any L hlu hL cap' a0 w (hlr.later (Nat.le_refl _) h))
  have L2 := Lib.hid (fun w (h : Below W.heap.size W w) => rlcm_any L hlu hL cap' a0 w (hlr.later (Nat.le_refl _) h))
  have G1 := Lib.hid (fun w (h : Below W.heap.size W w) => gcds_any L hlu hL cap' a0 w (hlr.later (Nat.le_refl _) h))
  have G2 := Lib.hid (fun w (h : Below W.heap.size W w) => rgcds_any L hlu hL cap' a0 w (hlr.later (Nat.le_refl _) h))
  generalize foldR addN addB 0 L = su at U1 U2
  generalize foldR lcmN lcmB 1 L = lc at L1 L2
  generalize (foldR gcdN (fun _ _ => true) 0 L).1 = gc at G1 G2
  generalize addN a b = an at A1 A2
  generalize addB a b = ab at A1 A2
  generalize subN a b = sn at S1 S2
  generalize subB a b = sb at S1 S2
  generalize mulN a b = mn at M1 M2
  generalize mulB a b = mb at M1 M2
  generalize ceilN a b = cn at C1 C2
  generalize ceilB b = cb at C1 C2
  generalize mdN a b c = dn at D1 D2
  generalize mdR a b c = dr at D1 D2
  generalize mdB a b c = db at D1 D2
  obtain ⟨s1, s2⟩ := su
  obtain ⟨l1, l2⟩ := lc
  have F := Lib.hid F
  have hB := Lib.hid ((Below.refl W.heap.size W).alloc (Nat.le_refl _) (.cells #[.int .u64 a, .int .u64 b, .int .u64 c] 23))
  clear hrow hlu hlr hl8 hlc ha hb hc
  go_enter Try.func3, Try.ntmps3
  go_upto_region 6 with (first | (go_at_call 9; (refine (awake_any _).mono ?_); rintro e w1 ⟨rfl, hw1⟩; have a0 : w1.cell? ⟨W.heap.size, 0, none⟩ = some (.int .u64 a) := kept_cell hw1 (by simp); have a1 : w1.cell? ⟨W.heap.size, 1, none⟩ = some (.int .u64 b) := kept_cell hw1 (by simp); have a2 : w1.cell? ⟨W.heap.size, 2, none⟩ = some (.int .u64 c) := kept_cell hw1 (by simp)) | (go_at_call 10; (refine (F.out _).mono ?_); rintro e w' ⟨rfl, rfl⟩) | (go_at_call 11; (refine (A1.out _).mono ?_); rintro e w' ⟨rfl, rfl⟩))
  have hb1 : Below W.heap.size W w1 := hB.out.trans (hw1.mono (by simp))
  have hlt0 : W.heap.size < w1.heap.size := block_of_cell a2
  clear a0 a1 hw1 hB A1 F
  go_upto_region 7 with (go_at_call 12; (refine (A2.out _).mono ?_); rintro e w2 ⟨rfl, hw2⟩)
  refine gen_world (fun w' => Below W.heap.size W w' ∧ w'.cell? ⟨W.heap.size, 2, none⟩ = some (.int .u64 c) ∧ Cell2 w' w2.heap.size (.int .u64 an) (.bool ab)) ⟨(hb1.trans (hw2.mono hb1.size)).alloc (Nat.le_trans hb1.size hw2.size) _, cell_alloc (kept_cell hw2 a2) _, Cell2.new _ _ _ _⟩ ?_
  intro w3 ⟨hb3, q3, t3⟩
  have k1 : W.heap.size < w2.heap.size := Nat.lt_of_lt_of_le hlt0 hw2.size
  have HT := Lib.hid t3
  clear hb1 a2 hw2 A2 hlt0 t3
  generalize w2.heap.size = Bt at k1 HT ⊢
  go_upto_region 9 with (first | (go_at_call 13; (refine (S1.out _).mono ?_); rintro e w' ⟨rfl, rfl⟩) | (go_at_call 14; (refine (S2.out _).mono ?_); rintro e w4 ⟨rfl, hw4⟩))
  refine gen_world (fun w' => Below W.heap.size W w' ∧ w'.cell? ⟨W.heap.size, 2, none⟩ = some (.int .u64 c) ∧ Cell2 w' Bt (.int .u64 an) (.bool ab) ∧ Cell2 w' w4.heap.size (.int .u64 sn) (.bool sb)) ⟨(hb3.trans (hw4.mono hb3.size)).alloc (Nat.le_trans hb3.size hw4.size) _, cell_alloc (kept_cell hw4 q3) _, (HT.out.kept hw4).alloc _, Cell2.new _ _ _ _⟩ ?_
  intro w5 ⟨hb5, q5, t5, v5⟩
  have k2 : Bt < w4.heap.size := (HT.out.kept hw4).lt
  have HT := Lib.hid t5
  have HV := Lib.hid v5
  clear hb3 q3 hw4 S1 S2 t5 v5
  generalize w4.heap.size = Bv at k2 HV ⊢
  go_upto_region 11 with (first | (go_at_call 15; (refine (M1.out _).mono ?_); rintro e w' ⟨rfl, rfl⟩) | (go_at_call 16; (refine (M2.out _).mono ?_); rintro e w6 ⟨rfl, hw6⟩))
  refine gen_world (fun w' => Below W.heap.size W w' ∧ w'.cell? ⟨W.heap.size, 2, none⟩ = some (.int .u64 c) ∧ Cell2 w' Bt (.int .u64 an) (.bool ab) ∧ Cell2 w' Bv (.int .u64 sn) (.bool sb) ∧ Cell2 w' w6.heap.size (.int .u64 mn) (.bool mb)) ⟨(hb5.trans (hw6.mono hb5.size)).alloc (Nat.le_trans hb5.size hw6.size) _, cell_alloc (kept_cell hw6 q5) _, (HT.out.kept hw6).alloc _, (HV.out.kept hw6).alloc _, Cell2.new _ _ _ _⟩ ?_
  intro w7 ⟨hb7, q7, t7, v7, x7⟩
  have k3 : Bv < w6.heap.size := (HV.out.kept hw6).lt
  have HT := Lib.hid t7
  have HV := Lib.hid v7
  have HX := Lib.hid x7
  clear hb5 q5 hw6 M1 M2
  generalize w6.heap.size = Bx at k3 HX x7 ⊢
  obtain ⟨tt0, tt1, _, _⟩ := t7
  obtain ⟨vv0, vv1, _, _⟩ := v7
  obtain ⟨xx0, xx1, _, _⟩ := x7
  go_upto_region 13 with (fail)
  clear tt0 tt1 vv0 vv1 xx0 xx1
  go_upto_region 15 with (first | (go_at_call 17; (refine (C1.out _).mono ?_); rintro e w' ⟨rfl, rfl⟩) | (go_at_call 18; (refine (C2.out _).mono ?_); rintro e w8 ⟨rfl, hw8⟩; obtain ⟨d0, d1, d2, d3⟩ := HT.out.kept hw8))
  refine gen_world (fun w' => Below W.heap.size W w' ∧ w'.cell? ⟨W.heap.size, 2, none⟩ = some (.int .u64 c) ∧ Cell2 w' Bt (.int .u64 cn) (.bool cb) ∧ Cell2 w' Bv (.int .u64 sn) (.bool sb) ∧ Cell2 w' Bx (.int .u64 mn) (.bool mb)) ⟨below_set2 (hb7.trans (hw8.mono hb7.size)) (by omega) _ _, cell_far2 (kept_cell hw8 q7) (by omega) _ _, (HT.out.kept hw8).set _ _, (HV.out.kept hw8).far (by omega) _ _, (HX.out.kept hw8).far (by omega) _ _⟩ ?_
  intro w9 ⟨hb9, q9, t9, v9, x9⟩
  have HT := Lib.hid t9
  have HV := Lib.hid v9
  have HX := Lib.hid x9
  clear hb7 q7 hw8 d0 d1 d2 d3 C1 C2 t9 v9 x9
  go_upto_region 17 with (first | (go_at_call 19; (refine (U1.out _ hb9).mono ?_); rintro e w10 ⟨rfl, hw10⟩) | (go_at_call 20; (refine (U2.out _ (hb9.trans (hw10.mono hb9.size))).mono ?_); rintro e w11 ⟨rfl, hw11⟩; obtain ⟨d0, d1, d2, d3⟩ := (HV.out.kept hw10).kept hw11))
  have hw := hw10.trans (hw11.mono hw10.size)
  refine gen_world (fun w' => Below W.heap.size W w' ∧ w'.cell? ⟨W.heap.size, 2, none⟩ = some (.int .u64 c) ∧ Cell2 w' Bt (.int .u64 cn) (.bool cb) ∧ Cell2 w' Bv (.int .u64 s1) (.bool s2) ∧ Cell2 w' Bx (.int .u64 mn) (.bool mb)) ⟨below_set2 (hb9.trans (hw.mono hb9.size)) (by omega) _ _, cell_far2 (kept_cell hw q9) (by omega) _ _, (HT.out.kept hw).far (by omega) _ _, (HV.out.kept hw).set _ _, (HX.out.kept hw).far (by omega) _ _⟩ ?_
  intro w12 ⟨hb12, q12, t12, v12, x12⟩
  have HT := Lib.hid t12
  have HV := Lib.hid v12
  have HX := Lib.hid x12
  clear hb9 q9 hw10 hw11 hw d0 d1 d2 d3 U1 U2 t12 v12 x12
  go_upto_region 19 with (first | (go_at_call 21; (refine (L1.out _ hb12).mono ?_); rintro e w13 ⟨rfl, hw13⟩) | (go_at_call 22; (refine (L2.out _ (hb12.trans (hw13.mono hb12.size))).mono ?_); rintro e w14 ⟨rfl, hw14⟩; obtain ⟨d0, d1, d2, d3⟩ := (HX.out.kept hw13).kept hw14))
  have hw := hw13.trans (hw14.mono hw13.size)
  refine gen_world (fun w' => Below W.heap.size W w' ∧ w'.cell? ⟨W.heap.size, 2, none⟩ = some (.int .u64 c) ∧ Cell2 w' Bt (.int .u64 cn) (.bool cb) ∧ Cell2 w' Bv (.int .u64 s1) (.bool s2) ∧ Cell2 w' Bx (.int .u64 l1) (.bool l2)) ⟨below_set2 (hb12.trans (hw.mono hb12.size)) (by omega) _ _, cell_far2 (kept_cell hw q12) (by omega) _ _, (HT.out.kept hw).far (by omega) _ _, (HV.out.kept hw).far (by omega) _ _, (HX.out.kept hw).set _ _⟩ ?_
  intro w15 ⟨hb15, q15, t15, v15, x15⟩
  have HT := Lib.hid t15
  have HV := Lib.hid v15
  have HX := Lib.hid x15
  clear hb12 q12 hw13 hw14 hw d0 d1 d2 d3 L1 L2 t15 v15 x15
  go_upto_region 20 with (go_at_call 23; (refine (D1.out _).mono ?_); rintro e w16 ⟨rfl, hw16⟩)
  have q16 := kept_cell hw16 q15
  have hb16 := hb15.trans (hw16.mono hb15.size)
  have HT := Lib.hid (HT.out.kept hw16)
  have HV := Lib.hid (HV.out.kept hw16)
  have HX := Lib.hid (HX.out.kept hw16)
  clear hw16 q15 hb15 D1
  go_upto_region 21 with (go_at_call 24; (refine (D2.out _).mono ?_); rintro e w17 ⟨rfl, hw17⟩)
  refine gen_world (fun w' => Below W.heap.size W w' ∧ Cell2 w' Bt (.int .u64 cn) (.bool cb) ∧ Cell2 w' Bv (.int .u64 s1) (.bool s2) ∧ Cell2 w' Bx (.int .u64 l1) (.bool l2) ∧ w'.cell? ⟨w17.heap.size, 0, none⟩ = some (.int .u64 dn) ∧ w'.cell? ⟨w17.heap.size, 1, none⟩ = some (.int .u64 dr) ∧ w'.cell? ⟨w17.heap.size, 2, none⟩ = some (.bool db)) ⟨(hb16.trans (hw17.mono hb16.size)).alloc (Nat.le_trans hb16.size hw17.size) _, (HT.out.kept hw17).alloc _, (HV.out.kept hw17).alloc _, (HX.out.kept hw17).alloc _, by simp, by simp, by simp⟩ ?_
  intro w18 ⟨hb18, ⟨tt0, tt1, _, _⟩, ⟨vv0, vv1, _, _⟩, ⟨xx0, xx1, _, _⟩, zz0, zz1, zz2⟩
  clear hb16 q16 hw17 D2 HT HV HX
  generalize w17.heap.size = Bz at zz0 zz1 zz2 ⊢
  go_wp2_with (first | (go_at_call 25; (refine (G1.out _ hb18).mono ?_); rintro e w19 ⟨rfl, hw19⟩) | (go_at_call 26; (refine (G2.out _ (hb18.trans (hw19.mono hb18.size))).mono ?_); rintro e w' ⟨rfl, rfl⟩))
  go_ret
  exact ⟨rfl, hb18.trans (hw19.mono hb18.size)⟩

theorem row_tells (W : World) (z : List Int) (hz : z.length = 3) (hwz : ∀ x ∈ z, (Lit.int .u64 x).wf = true) (a0 : Option Addr) (len cap : Nat) (zs : List Int) (hrow : IsRow .u64 W a0 len cap zs) :
    Calls Try.prog 3 #[.agg (z.map (Value.int .u64)).toArray, .slice a0 len cap] W fun e w' => e = .returned (.bool true) ∧ Below W.heap.size W w' := by
  match z, hz with
  | [a, b, c], _ =>
    exact law_tells a0 len cap zs a b c W (u64_of_wf (hwz a (by simp))) (u64_of_wf (hwz b (by simp))) (u64_of_wf (hwz c (by simp))) hrow

end Go.Proofs.Ytlpkilfpjdggeaa
