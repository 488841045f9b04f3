/- Texts of this claim, put together: YRefP, LW5, LW6, YText, YPrint, KW17. -/
import Derived.Test.YtlpffgmfgkleiaaDoorMR8

/-
  What the document reads out of a text: what lies in memory.
-/
namespace Go.Proofs.YtlpffgmfgkleiaaDoor
open Go.RowKit Go.Maps

theorem lrun_ne (L : List WV) : ∀ i, i ≤ L.length → ∀ g ∈ lrun L i, g ≠ []
  | 0, _, g, h => by simp [lrun] at h
  | i + 1, hi, g, h => by
    have ih := lrun_ne L i (by omega)
    have hx : L[i]?.toList ≠ [] := by
      rw [List.getElem?_eq_getElem (by omega)]; simp
    rw [lrun] at h
    split at h
    · rcases List.mem_append.1 h with q | q
      · exact ih g q
      · simp only [List.mem_singleton] at q; subst q; exact hx
    · rcases List.mem_append.1 h with q | q
      · exact ih g (List.dropLast_subset _ q)
      · simp only [List.mem_singleton] at q; subst q
        intro e
        exact hx (List.append_eq_nil_iff.1 e).2
theorem lines_ne {s : ByteArray} {G : List WV} (h : G ∈ linesOf s) : G ≠ [] := lrun_ne _ _ (Nat.le_refl _) G h
abbrev AllT : TypeId := 39
theorem zeroAll (w : World) : (zeroValue AllT).run Tryd.prog w = .ok (.agg #[.int .i64 0, .int .i64 0, .slice none 0 0, .int .i64 0, .int .i64 0]) w := by kernel_rfl
/-- What the document tells of a text. -/
def RParseIs (s : ByteArray) (w : World) (y : Ending) (w' : World) : Prop :=
  ∃ (a : Option Addr) (n c : Nat), y = .returned (.agg #[.int .i64 (outOf s).S, .int .i64 (outOf s).R, .slice a n c, .int .i64 (outOf s).at_, .int .i64 (outOf s).e]) ∧ Holds (outOf s).S (outOf s).R (outOf s).l w.heap.size (.agg #[.int .i64 (outOf s).S, .int .i64 (outOf s).R, .slice a n c]) w' ∧ Below w.heap.size w w'
theorem below5 {w u : World} (h : Below w.heap.size w u) (y0 y1 y2 y3 y4 : Value) : Below w.heap.size w (((((u.setCell ⟨w.heap.size, 0, none⟩ y0).setCell ⟨w.heap.size, 1, none⟩ y1).setCell ⟨w.heap.size, 2, none⟩ y2).setCell ⟨w.heap.size, 3, none⟩ y3).setCell ⟨w.heap.size, 4, none⟩ y4) :=
  ((((h.setCell (p := ⟨w.heap.size, 0, none⟩) (Nat.le_refl _) _).setCell (p := ⟨w.heap.size, 1, none⟩) (Nat.le_refl _) _).setCell (p := ⟨w.heap.size, 2, none⟩) (Nat.le_refl _) _).setCell (p := ⟨w.heap.size, 3, none⟩) (Nat.le_refl _) _).setCell (p := ⟨w.heap.size, 4, none⟩) (Nat.le_refl _) _
theorem rparse_bad {s : ByteArray} {p e : Int} {w u : World} (h : outOf s = ⟨0, 0, [], p, e⟩) (hb : Below w.heap.size w u) (y0 y1 y2 y3 y4 : Value) : RParseIs s w (.returned (.agg #[.int .i64 0, .int .i64 0, .slice none 0 0, .int .i64 p, .int .i64 e])) (((((u.setCell ⟨w.heap.size, 0, none⟩ y0).setCell ⟨w.heap.size, 1, none⟩ y1).setCell ⟨w.heap.size, 2, none⟩ y2).setCell ⟨w.heap.size, 3, none⟩ y3).setCell ⟨w.heap.size, 4, none⟩ y4) := by
  unfold RParseIs; rw [h]; exact ⟨none, 0, 0, rfl, holds_zero _ _, below5 hb _ _ _ _ _⟩
theorem rparse_ok {s : ByteArray} {S R : Int} {l : List Tk} {B n c : Nat} {a : Option Addr} {w u : World} (h : outOf s = ⟨S, R, l, s.size, 0⟩) (hh : Holds S R l B (.agg #[.int .i64 S, .int .i64 R, .slice a n c]) u) (hB : w.heap.size < B) (hb : Below w.heap.size w u) (y0 y1 y2 y3 y4 : Value) : RParseIs s w (.returned (.agg #[.int .i64 S, .int .i64 R, .slice a n c, .int .i64 s.size, .int .i64 0])) (((((u.setCell ⟨w.heap.size, 0, none⟩ y0).setCell ⟨w.heap.size, 1, none⟩ y1).setCell ⟨w.heap.size, 2, none⟩ y2).setCell ⟨w.heap.size, 3, none⟩ y3).setCell ⟨w.heap.size, 4, none⟩ y4) := by
  unfold RParseIs; rw [h]; exact ⟨a, n, c, rfl, (((((hh.set hB _).set hB _).set hB _).set hB _).set hB _).low (by omega), below5 hb _ _ _ _ _⟩
theorem out_bad {s : ByteArray} {q : Int × Int} (h : parseOf s = .error q) : outOf s = ⟨0, 0, [], q.1, q.2⟩ := by unfold outOf; rw [h]
theorem out_ok {s : ByteArray} {S R : Nat} {l : List Tk} (h : parseOf s = .ok (S, R, l)) : outOf s = ⟨S, R, l, s.size, 0⟩ := by unfold outOf; rw [h]
theorem SysAt.set0 {W1 W : World} {N g : Nat} {s s' r : Int} (h : SysAt W1 N g s r (.slice none 0 0) [] W) : SysAt W1 N g s' r (.slice none 0 0) [] (W.setCell ⟨g, 0, none⟩ (.int .i64 s')) :=
  ⟨h.low.setCell (p := ⟨g, 0, none⟩) h.gl _, h.gl, (blk_set h.box _).trans rfl, OwnT.nil _ _, (fun x hx => by cases hx), (fun x hx => by cases hx), (fun x hx => by cases hx)⟩
theorem SysAt.set1 {W1 W : World} {N g : Nat} {s r r' : Int} (h : SysAt W1 N g s r (.slice none 0 0) [] W) : SysAt W1 N g s r' (.slice none 0 0) [] (W.setCell ⟨g, 1, none⟩ (.int .i64 r')) :=
  ⟨h.low.setCell (p := ⟨g, 1, none⟩) h.gl _, h.gl, (blk_set h.box _).trans rfl, OwnT.nil _ _, (fun x hx => by cases hx), (fun x hx => by cases hx), (fun x hx => by cases hx)⟩
theorem SysAt.far0 {W1 W : World} {N g b o : Nat} {s r : Int} (h : SysAt W1 N g s r (.slice none 0 0) [] W) (hb : N ≤ b) (hne : g ≠ b) (v : Value) : SysAt W1 N g s r (.slice none 0 0) [] (W.setCell ⟨b, o, none⟩ v) :=
  ⟨h.low.setCell (p := ⟨b, o, none⟩) hb _, h.gl, (farR hne v).trans h.box, OwnT.nil _ _, (fun x hx => by cases hx), (fun x hx => by cases hx), (fun x hx => by cases hx)⟩
theorem num_box {u : World} {nb : Nat} {x y : Value} (h : Box u nb NumT #[x, y]) (v0 v1 : Value) : Box ((u.setCell ⟨nb, 0, none⟩ v0).setCell ⟨nb, 1, none⟩ v1) nb NumT #[v0, v1] := by
  have q0 := blk_set (o := 0) h v0
  exact blk_set (o := 1) q0 v1
theorem c_sets {W : List WV} (h : wordAt W 0 = some bCache) (h1 : setsOf W = none) : cacheOf W = .error (placeAt W 1) := by unfold cacheOf; rw [if_neg (fun q => q h), h1]
theorem c_rel {W : List WV} (h : wordAt W 0 = some bCache) {s : Nat} (h1 : setsOf W = some s) (h2 : relOf W = none) : cacheOf W = .error (placeAt W 2) := by
  unfold cacheOf; rw [if_neg (fun q => q h), h1]; simp only []; rw [h2]
theorem c_over {W : List WV} (h : wordAt W 0 = some bCache) {s r : Nat} (h1 : setsOf W = some s) (h2 : relOf W = some r) (h3 : 3 < W.length) : cacheOf W = .error (placeAt W 3) := by
  unfold cacheOf; rw [if_neg (fun q => q h), h1]; simp only []; rw [h2]; simp only []; rw [if_pos h3]
theorem c_ok {W : List WV} (h : wordAt W 0 = some bCache) {s r : Nat} (h1 : setsOf W = some s) (h2 : relOf W = some r) (h3 : ¬ 3 < W.length) : cacheOf W = .ok (s, r) := by
  unfold cacheOf; rw [if_neg (fun q => q h), h1]; simp only []; rw [h2]; simp only []; rw [if_neg h3]
theorem b_lt {α : Type} {W : List WV} {i : Nat} {f : ByteArray → Option α} {n : α} (h : (wordAt W i).bind f = some n) : i < W.length := by
  rcases Nat.lt_or_ge i W.length with q | q
  · exact q
  · rw [wordAt_none q] at h; cases h
theorem cache_list : bCache.toList = [99, 97, 99, 104, 101] := by rw [ByteArray.toList_eq]
theorem c_first {W : List WV} (h : wordAt W 0 ≠ some bCache) : cacheOf W = .error (placeAt W 0) := by unfold cacheOf; rw [if_pos h]

set_option maxRecDepth 100000 in
set_option maxHeartbeats 8000000 in
theorem rparse_any (s : ByteArray) (hs : s.size ≤ 900000) (w : World) : Calls Tryd.prog 13 #[.string s] w (RParseIs s w) := by
  have hz := zeroAll
  have hz2 := w_zeroSys
  have hz3 := zeroNumb
  have hz4 := zeroGot
  have CL := Lib.hid (fun w => rlines_any s hs w)
  have HOK : Hid (∀ G ∈ linesOf s, WordsOk G) := fun G hG => lines_ok hs hG
  have HNE : Hid (∀ G ∈ linesOf s, G ≠ []) := fun G hG => lines_ne hG
  have HCT := lines_count s
  obtain ⟨G, hG⟩ : ∃ G, linesOf s = G := ⟨_, rfl⟩
  rw [hG] at CL HOK HCT HNE
  have HG := Lib.hid hG
  clear hG
  have hs2 : (s.size : Int) ≤ 900000 := by omega
  go_enter Tryd.func13, Tryd.ntmps13
  go_upto_region 1 with fail
  refine gen_world (fun v => Below w.heap.size w v ∧ Box v w.heap.size AllT #[.int .i64 0, .int .i64 0, .slice none 0 0, .int .i64 0, .int .i64 0]) ⟨bw_alloc (Below.refl _ _) _, heap_alloc_new w _⟩ ?_
  intro u0 ⟨hb0, hx0⟩
  have B0 := Lib.hid hb0
  have X0 := Lib.hid hx0
  clear hb0 hx0
  go_upto_region 2 with (go_at_call 23; (with_reducible refine (CL.out _).mono ?_); rintro e u1 ⟨a, c, B, cs, rfl, -, hR, b1⟩; have HR := Lib.hid hR; have B1 := Lib.hid (below_up B0.out b1); have X1 := Lib.hid (kept_obj b1 X0.out); clear hR b1)
  clear CL B0 X0
  cases G with
  | nil =>
    have hx9 := X1.out
    have r0 : u1.cell? ⟨w.heap.size, 0, none⟩ = some (.int .i64 0) := blk_cell hx9 0
    have r1 : u1.cell? ⟨w.heap.size, 1, none⟩ = some (.int .i64 0) := blk_cell hx9 1
    have r2 : u1.cell? ⟨w.heap.size, 2, none⟩ = some (.slice none 0 0) := blk_cell hx9 2
    have r3 : u1.cell? ⟨w.heap.size, 3, none⟩ = some (.int .i64 0) := blk_cell hx9 3
    have r4 : u1.cell? ⟨w.heap.size, 4, none⟩ = some (.int .i64 0) := blk_cell hx9 4
    have f0 := blk_free hx9 0
    have f1 := blk_free hx9 1
    have f2 := blk_free hx9 2
    have f3 := blk_free hx9 3
    have f4 := blk_free hx9 4
    have hr := lt_of_block hx9
    have HB : Hid (outOf s = ⟨0, 0, [], s.size, 10⟩) := out_bad (parse_none HG.out)
    have HLW : Hid (Below w.heap.size w u1) := B1.out
    clear hx9
    go_wp2_with fail
    exact bodyPost_ret (v := .agg #[.int .i64 0, .int .i64 0, .slice none 0 0, .int .i64 s.size, .int .i64 10]) (by simp [results, Tryd.results13, go_sem, hr, r0, r1, r2, r3, r4]) rfl (rparse_bad HB.out HLW.out _ _ _ _ _)
  | cons W rest =>
    obtain ⟨n, hn⟩ : ∃ n, rest.length = n := ⟨_, rfl⟩
    have HN := Lib.hid hn
    have hl1 : (W :: rest).length = n + 1 := by rw [List.length_cons, hn]
    rw [hl1] at HR HCT ⊢
    clear hn hl1
    have hn9 : (n : Int) ≤ 900000 := by omega
    have hw0 : w.heap.size < u1.heap.size := lt_of_block X1.out
    obtain ⟨g0, aW, cW, rfl, z0, hv0, hl0, hm0⟩ := rows_cell HR.out (j := 0) (x := W) rfl
    have HWD : Hid (Words u1 aW W.length cW W) := ⟨rfl, hv0, hl0, hm0⟩
    have HWO := Lib.hid (HOK.out W (by simp))
    obtain ⟨x0, hx0⟩ : ∃ x0, W[0]? = some x0 := by
      cases W with
      | nil => exact absurd rfl (HNE.out [] (by simp))
      | cons x l => exact ⟨x, rfl⟩
    obtain ⟨gw, ow, rfl, ⟨y0, y1, y2⟩⟩ := HWD.out.view.at_ hx0
    obtain ⟨m, hm⟩ : ∃ m, W.length = m := ⟨_, rfl⟩
    have HM := Lib.hid hm
    rw [hm] at z0 HWD
    have hmp : 0 < m := by have := (List.getElem?_eq_some_iff.1 hx0).1; omega
    have hmp2 : (0 : Int) < (m : Int) := by omega
    have hm9 : (m : Int) ≤ 9223372036854775807 := by have := hm0; have := hl0; omega
    have hp0 : (0 : Int) < ((n + 1 : Nat) : Int) := by omega
    have d0 : ¬ ((n + 1 : Nat) : Int) = 0 := by omega
    have d0b : ((n : Int) + 1 == 0) = false := by rw [beq_eq_false_iff_ne]; omega
    clear hv0 hl0 hm0 hm
    go_upto_region 6 with fail
    refine gen_world (SysAt u1 u1.heap.size u1.heap.size 0 0 (.slice none 0 0) []) (sysAt_new (Below.refl _ _) (Nat.le_refl _)) ?_
    intro u2 h2
    have H2 := Lib.hid h2
    have v0 := kept_cellB h2.low (block_of_cell y0) y0
    have v2 := kept_cellB h2.low (block_of_cell y2) y2
    simp only [Nat.zero_mul, Nat.add_zero] at v0 v2
    clear h2 y0 y1 y2
    by_cases e0 : wordAt W 0 = some bCache
    rotate_left
    · have hne : ¬ x0.tx = bCache := fun q => e0 (by rw [wordAt_some hx0, q])
      have d4 : (x0.tx.toList == [99, 97, 99, 104, 101]) = false := by rw [← cache_list, beq_bytes, decide_eq_false hne]
      have d5 : (x0.tx.toList != [99, 97, 99, 104, 101]) = true := by rw [bne, d4]; rfl
      have HPL := Lib.hid (placeAt_some hx0)
      clear hx0 hne
      have hx9 := (kept_objB H2.out.low hw0 X1.out)
      have r0 : u2.cell? ⟨w.heap.size, 0, none⟩ = some (.int .i64 0) := blk_cell hx9 0
      have r1 : u2.cell? ⟨w.heap.size, 1, none⟩ = some (.int .i64 0) := blk_cell hx9 1
      have r2 : u2.cell? ⟨w.heap.size, 2, none⟩ = some (.slice none 0 0) := blk_cell hx9 2
      have r3 : u2.cell? ⟨w.heap.size, 3, none⟩ = some (.int .i64 0) := blk_cell hx9 3
      have r4 : u2.cell? ⟨w.heap.size, 4, none⟩ = some (.int .i64 0) := blk_cell hx9 4
      have f0 := blk_free hx9 0
      have f1 := blk_free hx9 1
      have f2 := blk_free hx9 2
      have f3 := blk_free hx9 3
      have f4 := blk_free hx9 4
      have hr := lt_of_block hx9
      have HB : Hid (outOf s = ⟨0, 0, [], x0.at_, 10⟩) := (HPL.out ▸ out_bad (parse_cache HG.out (c_first e0)) : outOf s = ⟨0, 0, [], x0.at_, 10⟩)
      have HLW : Hid (Below w.heap.size w u2) := (below_up B1.out H2.out.low)
      clear hx9
      go_wp2_with fail
      exact bodyPost_ret (v := .agg #[.int .i64 0, .int .i64 0, .slice none 0 0, .int .i64 x0.at_, .int .i64 10]) (by simp [results, Tryd.results13, go_sem, hr, r0, r1, r2, r3, r4]) rfl (rparse_bad HB.out HLW.out _ _ _ _ _)
    have hxt : x0.tx = bCache := by rw [wordAt_some hx0] at e0; exact Option.some.inj e0
    have d4 : (x0.tx.toList == [99, 97, 99, 104, 101]) = true := by rw [← cache_list, beq_bytes, decide_eq_true hxt]
    have d5 : (x0.tx.toList != [99, 97, 99, 104, 101]) = false := by rw [bne, d4]; rfl
    clear hxt hx0
    go_upto_region 8 with fail
    clear d4 d5 v0 v2
    have CWR : Hid (∀ (i : Nat) (I : Int) (v : World), (i : Int) = I → i ≤ 1000 → Below u1.heap.size u1 v → Calls Tryd.prog 25 #[.slice (some ⟨gw, ow, none⟩) m cW, .int .i64 I] v (WrongIs (placeAt W i) v)) := fun i I v e hi hb => e ▸ wrong_any (HWD.out.below hb) hi
    unfold WrongIs at CWR
    have HWT : Hid (∀ (i : Nat) x, W[i]? = some x → ∀ v, Calls Tryd.prog 24 #[.string x.tx, .int .i64 256] v (NumB (numOf x.tx 256) v)) := fun i x hx v => rnumber_any x.tx (by have := (HWO.out x (List.mem_of_getElem? hx)).2; omega) 256 v
    have HWT2 : Hid (∀ (i : Nat) x, W[i]? = some x → ∀ v, Calls Tryd.prog 24 #[.string x.tx, .int .i64 1000] v (NumB (numOf x.tx 1000) v)) := fun i x hx v => rnumber_any x.tx (by have := (HWO.out x (List.mem_of_getElem? hx)).2; omega) 1000 v
    unfold NumB at HWT HWT2
    go_wp2_with fail
    go_loopw [6] (fun u wr => ∃ (k S R : Nat), ((k = 1 ∧ S = 0 ∧ R = 0) ∨ (k = 2 ∧ setsOf W = some S ∧ R = 0) ∨ (k = 3 ∧ setsOf W = some S ∧ relOf W = some R)) ∧ u = .int .i64 k ∧ Hid (SysAt u1 u1.heap.size u1.heap.size S R (.slice none 0 0) [] wr)) (fun u _ => (3 - intOf u).toNat)
    case atStart => exact ⟨1, 0, 0, .inl ⟨rfl, rfl, rfl⟩, rfl, H2⟩
    case round =>
      obtain ⟨k, S, R, hcase, rfl, HP⟩ := hrel
      clear H2
      have hgw2 : u1.heap.size < wr.heap.size := lt_of_block HP.out.box
      rcases hcase with ⟨rfl, rfl, rfl⟩ | ⟨rfl, e1, rfl⟩ | ⟨rfl, e1, e2⟩
      · cases e1 : setsOf W with
        | none =>
          by_cases hi : 1 < m
          · obtain ⟨xi, hxi⟩ := nth_of HM.out hi
            obtain ⟨g', o', eq1, q0, q1, q2⟩ := HWD.out.view.at_ hxi
            cases eq1
            have t2 : wr.cell? ⟨gw, ow + 3 + 2, none⟩ = some (.string xi.tx) := kept_cellB HP.out.low (block_of_cell q2) q2
            have hgx : gw < wr.heap.size := Nat.lt_trans (block_of_cell q2) hgw2
            have CI := Lib.hid (HWT.out _ _ hxi)
            have en : numOf xi.tx 256 = none := by unfold setsOf at e1; rw [wordAt_some hxi] at e1; exact e1
            rw [en] at CI
            have d3 : (1 : Int) < (m : Int) := by omega
            clear hxi q0 q1 q2 en
            go_upto_region 18 with (go_at_call 24; (with_reducible refine (CI.out _).mono ?_); rintro y ux ⟨rfl, bx⟩; have hy := kept_obj bx (heap_alloc_new wr _); have HA := Lib.hid ((HP.out.below (bw_alloc (Below.refl _ _) _)).below bx); have nr0 : ux.cell? ⟨wr.heap.size, 0, none⟩ = some (.int .i64 0) := blk_cell hy 0; have nr1 : ux.cell? ⟨wr.heap.size, 1, none⟩ = some (.bool false) := blk_cell hy 1; have nf0 := blk_free hy 0; have nf1 := blk_free hy 1; have nhr := lt_of_block hy; clear bx hy)
            refine gen_world (SysAt u1 u1.heap.size u1.heap.size ((0 : Nat) : Int) ((0 : Nat) : Int) (.slice none 0 0) []) ((HA.out.far0 (Nat.le_of_lt hgw2) (Nat.ne_of_lt hgw2) _).far0 (Nat.le_of_lt hgw2) (Nat.ne_of_lt hgw2) _) ?_
            intro u3 h3
            have H3 := Lib.hid h3
            clear h3 HA HP CI t2
            go_upto_region 19 with (go_at_call 25; (with_reducible refine (CWR.out 1 1 _ rfl (by omega) H3.out.low).mono ?_); rintro y uw ⟨rfl, bx⟩; have H4 := Lib.hid (H3.out.below bx); clear bx)
            refine gen_world (fun v => SysAt u1 u1.heap.size u1.heap.size ((0 : Nat) : Int) ((0 : Nat) : Int) (.slice none 0 0) [] v ∧ v.heap[uw.heap.size]? = some (.cells #[.int .i64 0, .int .i64 0, .int .i64 0, .int .i64 0, .int .i64 0, .slice none 0 0, .slice none 0 0, .int .i64 (placeAt W 1), .int .i64 10] GotT (0, 0))) ⟨H4.out.below (bw_alloc (Below.refl _ _) _), heap_alloc_new uw _⟩ ?_
            intro u5 ⟨h5, hy5⟩
            have H5 := Lib.hid h5
            generalize uw.heap.size = kg at hy5 ⊢
            have g7 : u5.cell? ⟨kg, 7, none⟩ = some (.int .i64 (placeAt W 1)) := blk_cell hy5 7
            have g8 : u5.cell? ⟨kg, 8, none⟩ = some (.int .i64 10) := blk_cell hy5 8
            clear h5 hy5 H3 H4
            have hx9 := (kept_objB H5.out.low hw0 X1.out)
            have r0 : u5.cell? ⟨w.heap.size, 0, none⟩ = some (.int .i64 0) := blk_cell hx9 0
            have r1 : u5.cell? ⟨w.heap.size, 1, none⟩ = some (.int .i64 0) := blk_cell hx9 1
            have r2 : u5.cell? ⟨w.heap.size, 2, none⟩ = some (.slice none 0 0) := blk_cell hx9 2
            have r3 : u5.cell? ⟨w.heap.size, 3, none⟩ = some (.int .i64 0) := blk_cell hx9 3
            have r4 : u5.cell? ⟨w.heap.size, 4, none⟩ = some (.int .i64 0) := blk_cell hx9 4
            have f0 := blk_free hx9 0
            have f1 := blk_free hx9 1
            have f2 := blk_free hx9 2
            have f3 := blk_free hx9 3
            have f4 := blk_free hx9 4
            have hr := lt_of_block hx9
            have HB : Hid (outOf s = ⟨0, 0, [], (placeAt W 1), 10⟩) := out_bad (parse_cache HG.out (c_sets e0 e1))
            have HLW : Hid (Below w.heap.size w u5) := (below_up B1.out H5.out.low)
            clear hx9
            go_wp2_with fail
            exact bodyPost_ret (v := .agg #[.int .i64 0, .int .i64 0, .slice none 0 0, .int .i64 (placeAt W 1), .int .i64 10]) (by simp [results, Tryd.results13, go_sem, hr, r0, r1, r2, r3, r4]) rfl (rparse_bad HB.out HLW.out _ _ _ _ _)
          · have d3 : ¬ (1 : Int) < (m : Int) := by omega
            go_upto_region 18 with fail
            refine gen_world (SysAt u1 u1.heap.size u1.heap.size ((0 : Nat) : Int) ((0 : Nat) : Int) (.slice none 0 0) []) (HP.out.below (bw_alloc (Below.refl _ _) _)) ?_
            intro u3 h3
            have H3 := Lib.hid h3
            clear h3 HP
            go_upto_region 19 with (go_at_call 25; (with_reducible refine (CWR.out 1 1 _ rfl (by omega) H3.out.low).mono ?_); rintro y uw ⟨rfl, bx⟩; have H4 := Lib.hid (H3.out.below bx); clear bx)
            refine gen_world (fun v => SysAt u1 u1.heap.size u1.heap.size ((0 : Nat) : Int) ((0 : Nat) : Int) (.slice none 0 0) [] v ∧ v.heap[uw.heap.size]? = some (.cells #[.int .i64 0, .int .i64 0, .int .i64 0, .int .i64 0, .int .i64 0, .slice none 0 0, .slice none 0 0, .int .i64 (placeAt W 1), .int .i64 10] GotT (0, 0))) ⟨H4.out.below (bw_alloc (Below.refl _ _) _), heap_alloc_new uw _⟩ ?_
            intro u5 ⟨h5, hy5⟩
            have H5 := Lib.hid h5
            generalize uw.heap.size = kg at hy5 ⊢
            have g7 : u5.cell? ⟨kg, 7, none⟩ = some (.int .i64 (placeAt W 1)) := blk_cell hy5 7
            have g8 : u5.cell? ⟨kg, 8, none⟩ = some (.int .i64 10) := blk_cell hy5 8
            clear h5 hy5 H3 H4
            have hx9 := (kept_objB H5.out.low hw0 X1.out)
            have r0 : u5.cell? ⟨w.heap.size, 0, none⟩ = some (.int .i64 0) := blk_cell hx9 0
            have r1 : u5.cell? ⟨w.heap.size, 1, none⟩ = some (.int .i64 0) := blk_cell hx9 1
            have r2 : u5.cell? ⟨w.heap.size, 2, none⟩ = some (.slice none 0 0) := blk_cell hx9 2
            have r3 : u5.cell? ⟨w.heap.size, 3, none⟩ = some (.int .i64 0) := blk_cell hx9 3
            have r4 : u5.cell? ⟨w.heap.size, 4, none⟩ = some (.int .i64 0) := blk_cell hx9 4
            have f0 := blk_free hx9 0
            have f1 := blk_free hx9 1
            have f2 := blk_free hx9 2
            have f3 := blk_free hx9 3
            have f4 := blk_free hx9 4
            have hr := lt_of_block hx9
            have HB : Hid (outOf s = ⟨0, 0, [], (placeAt W 1), 10⟩) := out_bad (parse_cache HG.out (c_sets e0 e1))
            have HLW : Hid (Below w.heap.size w u5) := (below_up B1.out H5.out.low)
            clear hx9
            go_wp2_with fail
            exact bodyPost_ret (v := .agg #[.int .i64 0, .int .i64 0, .slice none 0 0, .int .i64 (placeAt W 1), .int .i64 10]) (by simp [results, Tryd.results13, go_sem, hr, r0, r1, r2, r3, r4]) rfl (rparse_bad HB.out HLW.out _ _ _ _ _)
        | some S =>
          have hi : 1 < m := by have := b_lt e1; have := HM.out; omega
          obtain ⟨xi, hxi⟩ := nth_of HM.out hi
          obtain ⟨g', o', eq1, q0, q1, q2⟩ := HWD.out.view.at_ hxi
          cases eq1
          have t2 : wr.cell? ⟨gw, ow + 3 + 2, none⟩ = some (.string xi.tx) := kept_cellB HP.out.low (block_of_cell q2) q2
          have hgx : gw < wr.heap.size := Nat.lt_trans (block_of_cell q2) hgw2
          have CI := Lib.hid (HWT.out _ _ hxi)
          have en : numOf xi.tx 256 = some S := by unfold setsOf at e1; rw [wordAt_some hxi] at e1; exact e1
          rw [en] at CI
          have d3 : (1 : Int) < (m : Int) := by omega
          clear hxi q0 q1 q2 en
          go_upto_region 20 with (go_at_call 24; (with_reducible refine (CI.out _).mono ?_); rintro y ux ⟨rfl, bx⟩; have hy := kept_obj bx (heap_alloc_new wr _); have HY := Lib.hid hy; have HA := Lib.hid ((HP.out.below (bw_alloc (Below.refl _ _) _)).below bx); have nr0 : ux.cell? ⟨wr.heap.size, 0, none⟩ = some (.int .i64 0) := blk_cell hy 0; have nr1 : ux.cell? ⟨wr.heap.size, 1, none⟩ = some (.bool false) := blk_cell hy 1; have nf0 := blk_free hy 0; have nf1 := blk_free hy 1; have nhr := lt_of_block hy; clear bx hy)
          refine gen_world (fun v => SysAt u1 u1.heap.size u1.heap.size ((0 : Nat) : Int) ((0 : Nat) : Int) (.slice none 0 0) [] v ∧ Box v wr.heap.size NumT #[.int .i64 S, .bool true]) ⟨(HA.out.far0 (Nat.le_of_lt hgw2) (Nat.ne_of_lt hgw2) _).far0 (Nat.le_of_lt hgw2) (Nat.ne_of_lt hgw2) _, num_box HY.out _ _⟩ ?_
          intro u3 ⟨h3, hn3⟩
          have H3 := Lib.hid h3
          have w0 : u3.cell? ⟨wr.heap.size, 0, none⟩ = some (.int .i64 S) := blk_cell hn3 0
          have hcx := h3.box
          have xr0 : u3.cell? ⟨u1.heap.size, 0, none⟩ = some (.int .i64 (((0 : Nat) : Int))) := blk_cell hcx 0
          have xr1 : u3.cell? ⟨u1.heap.size, 1, none⟩ = some (.int .i64 (((0 : Nat) : Int))) := blk_cell hcx 1
          have xr2 : u3.cell? ⟨u1.heap.size, 2, none⟩ = some (.slice none 0 0) := blk_cell hcx 2
          have xf0 := blk_free hcx 0
          have xf1 := blk_free hcx 1
          have xf2 := blk_free hcx 2
          have xhr := lt_of_block hcx
          clear h3 hn3 hcx HA HY HP CI t2 nr0 nr1 nf0 nf1 nhr
          go_wp2_with fail
          go_roundw
          case rel => exact ⟨2, S, 0, .inr (.inl ⟨rfl, rfl, rfl⟩), by go_num, H3.out.set0⟩
          case measure => simp [intOf]
      · cases e2 : relOf W with
        | none =>
          by_cases hi : 2 < m
          · obtain ⟨xi, hxi⟩ := nth_of HM.out hi
            obtain ⟨g', o', eq1, q0, q1, q2⟩ := HWD.out.view.at_ hxi
            cases eq1
            have t2 : wr.cell? ⟨gw, ow + 6 + 2, none⟩ = some (.string xi.tx) := kept_cellB HP.out.low (block_of_cell q2) q2
            have hgx : gw < wr.heap.size := Nat.lt_trans (block_of_cell q2) hgw2
            have CI := Lib.hid (HWT2.out _ _ hxi)
            have en : numOf xi.tx 1000 = none := by unfold relOf at e2; rw [wordAt_some hxi] at e2; exact e2
            rw [en] at CI
            have d3 : (2 : Int) < (m : Int) := by omega
            clear hxi q0 q1 q2 en
            go_upto_region 18 with (go_at_call 24; (with_reducible refine (CI.out _).mono ?_); rintro y ux ⟨rfl, bx⟩; have hy := kept_obj bx (heap_alloc_new wr _); have HA := Lib.hid ((HP.out.below (bw_alloc (Below.refl _ _) _)).below bx); have nr0 : ux.cell? ⟨wr.heap.size, 0, none⟩ = some (.int .i64 0) := blk_cell hy 0; have nr1 : ux.cell? ⟨wr.heap.size, 1, none⟩ = some (.bool false) := blk_cell hy 1; have nf0 := blk_free hy 0; have nf1 := blk_free hy 1; have nhr := lt_of_block hy; clear bx hy)
            refine gen_world (SysAt u1 u1.heap.size u1.heap.size (S : Int) ((0 : Nat) : Int) (.slice none 0 0) []) ((HA.out.far0 (Nat.le_of_lt hgw2) (Nat.ne_of_lt hgw2) _).far0 (Nat.le_of_lt hgw2) (Nat.ne_of_lt hgw2) _) ?_
            intro u3 h3
            have H3 := Lib.hid h3
            clear h3 HA HP CI t2
            go_upto_region 19 with (go_at_call 25; (with_reducible refine (CWR.out 2 2 _ rfl (by omega) H3.out.low).mono ?_); rintro y uw ⟨rfl, bx⟩; have H4 := Lib.hid (H3.out.below bx); clear bx)
            refine gen_world (fun v => SysAt u1 u1.heap.size u1.heap.size (S : Int) ((0 : Nat) : Int) (.slice none 0 0) [] v ∧ v.heap[uw.heap.size]? = some (.cells #[.int .i64 0, .int .i64 0, .int .i64 0, .int .i64 0, .int .i64 0, .slice none 0 0, .slice none 0 0, .int .i64 (placeAt W 2), .int .i64 10] GotT (0, 0))) ⟨H4.out.below (bw_alloc (Below.refl _ _) _), heap_alloc_new uw _⟩ ?_
            intro u5 ⟨h5, hy5⟩
            have H5 := Lib.hid h5
            generalize uw.heap.size = kg at hy5 ⊢
            have g7 : u5.cell? ⟨kg, 7, none⟩ = some (.int .i64 (placeAt W 2)) := blk_cell hy5 7
            have g8 : u5.cell? ⟨kg, 8, none⟩ = some (.int .i64 10) := blk_cell hy5 8
            clear h5 hy5 H3 H4
            have hx9 := (kept_objB H5.out.low hw0 X1.out)
            have r0 : u5.cell? ⟨w.heap.size, 0, none⟩ = some (.int .i64 0) := blk_cell hx9 0
            have r1 : u5.cell? ⟨w.heap.size, 1, none⟩ = some (.int .i64 0) := blk_cell hx9 1
            have r2 : u5.cell? ⟨w.heap.size, 2, none⟩ = some (.slice none 0 0) := blk_cell hx9 2
            have r3 : u5.cell? ⟨w.heap.size, 3, none⟩ = some (.int .i64 0) := blk_cell hx9 3
            have r4 : u5.cell? ⟨w.heap.size, 4, none⟩ = some (.int .i64 0) := blk_cell hx9 4
            have f0 := blk_free hx9 0
            have f1 := blk_free hx9 1
            have f2 := blk_free hx9 2
            have f3 := blk_free hx9 3
            have f4 := blk_free hx9 4
            have hr := lt_of_block hx9
            have HB : Hid (outOf s = ⟨0, 0, [], (placeAt W 2), 10⟩) := out_bad (parse_cache HG.out (c_rel e0 e1 e2))
            have HLW : Hid (Below w.heap.size w u5) := (below_up B1.out H5.out.low)
            clear hx9
            go_wp2_with fail
            exact bodyPost_ret (v := .agg #[.int .i64 0, .int .i64 0, .slice none 0 0, .int .i64 (placeAt W 2), .int .i64 10]) (by simp [results, Tryd.results13, go_sem, hr, r0, r1, r2, r3, r4]) rfl (rparse_bad HB.out HLW.out _ _ _ _ _)
          · have d3 : ¬ (2 : Int) < (m : Int) := by omega
            go_upto_region 18 with fail
            refine gen_world (SysAt u1 u1.heap.size u1.heap.size (S : Int) ((0 : Nat) : Int) (.slice none 0 0) []) (HP.out.below (bw_alloc (Below.refl _ _) _)) ?_
            intro u3 h3
            have H3 := Lib.hid h3
            clear h3 HP
            go_upto_region 19 with (go_at_call 25; (with_reducible refine (CWR.out 2 2 _ rfl (by omega) H3.out.low).mono ?_); rintro y uw ⟨rfl, bx⟩; have H4 := Lib.hid (H3.out.below bx); clear bx)
            refine gen_world (fun v => SysAt u1 u1.heap.size u1.heap.size (S : Int) ((0 : Nat) : Int) (.slice none 0 0) [] v ∧ v.heap[uw.heap.size]? = some (.cells #[.int .i64 0, .int .i64 0, .int .i64 0, .int .i64 0, .int .i64 0, .slice none 0 0, .slice none 0 0, .int .i64 (placeAt W 2), .int .i64 10] GotT (0, 0))) ⟨H4.out.below (bw_alloc (Below.refl _ _) _), heap_alloc_new uw _⟩ ?_
            intro u5 ⟨h5, hy5⟩
            have H5 := Lib.hid h5
            generalize uw.heap.size = kg at hy5 ⊢
            have g7 : u5.cell? ⟨kg, 7, none⟩ = some (.int .i64 (placeAt W 2)) := blk_cell hy5 7
            have g8 : u5.cell? ⟨kg, 8, none⟩ = some (.int .i64 10) := blk_cell hy5 8
            clear h5 hy5 H3 H4
            have hx9 := (kept_objB H5.out.low hw0 X1.out)
            have r0 : u5.cell? ⟨w.heap.size, 0, none⟩ = some (.int .i64 0) := blk_cell hx9 0
            have r1 : u5.cell? ⟨w.heap.size, 1, none⟩ = some (.int .i64 0) := blk_cell hx9 1
            have r2 : u5.cell? ⟨w.heap.size, 2, none⟩ = some (.slice none 0 0) := blk_cell hx9 2
            have r3 : u5.cell? ⟨w.heap.size, 3, none⟩ = some (.int .i64 0) := blk_cell hx9 3
            have r4 : u5.cell? ⟨w.heap.size, 4, none⟩ = some (.int .i64 0) := blk_cell hx9 4
            have f0 := blk_free hx9 0
            have f1 := blk_free hx9 1
            have f2 := blk_free hx9 2
            have f3 := blk_free hx9 3
            have f4 := blk_free hx9 4
            have hr := lt_of_block hx9
            have HB : Hid (outOf s = ⟨0, 0, [], (placeAt W 2), 10⟩) := out_bad (parse_cache HG.out (c_rel e0 e1 e2))
            have HLW : Hid (Below w.heap.size w u5) := (below_up B1.out H5.out.low)
            clear hx9
            go_wp2_with fail
            exact bodyPost_ret (v := .agg #[.int .i64 0, .int .i64 0, .slice none 0 0, .int .i64 (placeAt W 2), .int .i64 10]) (by simp [results, Tryd.results13, go_sem, hr, r0, r1, r2, r3, r4]) rfl (rparse_bad HB.out HLW.out _ _ _ _ _)
        | some R =>
          have hi : 2 < m := by have := b_lt e2; have := HM.out; omega
          obtain ⟨xi, hxi⟩ := nth_of HM.out hi
          obtain ⟨g', o', eq1, q0, q1, q2⟩ := HWD.out.view.at_ hxi
          cases eq1
          have t2 : wr.cell? ⟨gw, ow + 6 + 2, none⟩ = some (.string xi.tx) := kept_cellB HP.out.low (block_of_cell q2) q2
          have hgx : gw < wr.heap.size := Nat.lt_trans (block_of_cell q2) hgw2
          have CI := Lib.hid (HWT2.out _ _ hxi)
          have en : numOf xi.tx 1000 = some R := by unfold relOf at e2; rw [wordAt_some hxi] at e2; exact e2
          rw [en] at CI
          have d3 : (2 : Int) < (m : Int) := by omega
          clear hxi q0 q1 q2 en
          go_upto_region 20 with (go_at_call 24; (with_reducible refine (CI.out _).mono ?_); rintro y ux ⟨rfl, bx⟩; have hy := kept_obj bx (heap_alloc_new wr _); have HY := Lib.hid hy; have HA := Lib.hid ((HP.out.below (bw_alloc (Below.refl _ _) _)).below bx); have nr0 : ux.cell? ⟨wr.heap.size, 0, none⟩ = some (.int .i64 0) := blk_cell hy 0; have nr1 : ux.cell? ⟨wr.heap.size, 1, none⟩ = some (.bool false) := blk_cell hy 1; have nf0 := blk_free hy 0; have nf1 := blk_free hy 1; have nhr := lt_of_block hy; clear bx hy)
          refine gen_world (fun v => SysAt u1 u1.heap.size u1.heap.size (S : Int) ((0 : Nat) : Int) (.slice none 0 0) [] v ∧ Box v wr.heap.size NumT #[.int .i64 R, .bool true]) ⟨(HA.out.far0 (Nat.le_of_lt hgw2) (Nat.ne_of_lt hgw2) _).far0 (Nat.le_of_lt hgw2) (Nat.ne_of_lt hgw2) _, num_box HY.out _ _⟩ ?_
          intro u3 ⟨h3, hn3⟩
          have H3 := Lib.hid h3
          have w0 : u3.cell? ⟨wr.heap.size, 0, none⟩ = some (.int .i64 R) := blk_cell hn3 0
          have hcx := h3.box
          have xr0 : u3.cell? ⟨u1.heap.size, 0, none⟩ = some (.int .i64 ((S : Int))) := blk_cell hcx 0
          have xr1 : u3.cell? ⟨u1.heap.size, 1, none⟩ = some (.int .i64 (((0 : Nat) : Int))) := blk_cell hcx 1
          have xr2 : u3.cell? ⟨u1.heap.size, 2, none⟩ = some (.slice none 0 0) := blk_cell hcx 2
          have xf0 := blk_free hcx 0
          have xf1 := blk_free hcx 1
          have xf2 := blk_free hcx 2
          have xhr := lt_of_block hcx
          clear h3 hn3 hcx HA HY HP CI t2 nr0 nr1 nf0 nf1 nhr
          go_wp2_with fail
          go_roundw
          case rel => exact ⟨3, S, R, .inr (.inr ⟨rfl, e1, rfl⟩), by go_num, H3.out.set1⟩
          case measure => simp [intOf]
      · have hl3 : 3 ≤ W.length := b_lt e2
        rw [HM.out] at hl3
        by_cases ho : 3 < m
        · obtain ⟨xi, hxi⟩ := nth_of HM.out ho
          obtain ⟨g', o', eq1, q0, q1, q2⟩ := HWD.out.view.at_ hxi
          cases eq1
          have t0 : wr.cell? ⟨gw, ow + 9, none⟩ = some (.int .i64 xi.at_) := kept_cellB HP.out.low (block_of_cell q0) q0
          have hgx : gw < wr.heap.size := Nat.lt_trans (block_of_cell q0) hgw2
          have d3 : (3 : Int) < (m : Int) := by omega
          have HPL := Lib.hid (placeAt_some hxi)
          have HCO := Lib.hid (c_over e0 e1 e2 (by rw [HM.out]; exact ho))
          clear hxi q0 q1 q2
          have hx9 := (kept_objB HP.out.low hw0 X1.out)
          have r0 : wr.cell? ⟨w.heap.size, 0, none⟩ = some (.int .i64 0) := blk_cell hx9 0
          have r1 : wr.cell? ⟨w.heap.size, 1, none⟩ = some (.int .i64 0) := blk_cell hx9 1
          have r2 : wr.cell? ⟨w.heap.size, 2, none⟩ = some (.slice none 0 0) := blk_cell hx9 2
          have r3 : wr.cell? ⟨w.heap.size, 3, none⟩ = some (.int .i64 0) := blk_cell hx9 3
          have r4 : wr.cell? ⟨w.heap.size, 4, none⟩ = some (.int .i64 0) := blk_cell hx9 4
          have f0 := blk_free hx9 0
          have f1 := blk_free hx9 1
          have f2 := blk_free hx9 2
          have f3 := blk_free hx9 3
          have f4 := blk_free hx9 4
          have hr := lt_of_block hx9
          have HB : Hid (outOf s = ⟨0, 0, [], xi.at_, 10⟩) := (HPL.out ▸ out_bad (parse_cache HG.out HCO.out) : outOf s = ⟨0, 0, [], xi.at_, 10⟩)
          have HLW : Hid (Below w.heap.size w wr) := (below_up B1.out HP.out.low)
          clear hx9
          go_wp2_with fail
          exact bodyPost_ret (v := .agg #[.int .i64 0, .int .i64 0, .slice none 0 0, .int .i64 xi.at_, .int .i64 10]) (by simp [results, Tryd.results13, go_sem, hr, r0, r1, r2, r3, r4]) rfl (rparse_bad HB.out HLW.out _ _ _ _ _)
        · have d3 : ¬ (3 : Int) < (m : Int) := by omega
          have HC := Lib.hid (c_ok e0 e1 e2 (by rw [HM.out]; exact ho))
          clear ho e1 e2 hl3 CWR HWT HWT2 hgw2
          go_wp2_with fail
          go_loopw [10] (fun u wr => ∃ (j k : Nat) (a' : Option Addr) (cp' : Nat) (L : List TV), k ≤ n ∧ u = .int .i64 j ∧ Hid (j = k + 1) ∧ Hid (L.length = k) ∧ Hid (∀ x ∈ L, I64 x.p ∧ I64 x.id) ∧ Hid (tailOf S R [] rest = tailOf S R (L.map TV.tk) (rest.drop k)) ∧ Hid (SysAt u1 u1.heap.size u1.heap.size S R (.slice a' k cp') L wr)) (fun u _ => (n + 1 - intOf u).toNat)
          case atStart => exact ⟨1, 0, none, 0, [], by omega, rfl, rfl, rfl, (fun x hx => by simp at hx), rfl, HP⟩
          case round =>
            obtain ⟨j, k, a', cp', L, hk, rfl, HJ, HLL, HLS, HT, HQ⟩ := hrel
            clear HP
            have b2 : wr.cell? ⟨u1.heap.size, 2, none⟩ = some (.slice a' k cp') := by rw [blk_cell HQ.out.box]; rfl
            have hgw3 : u1.heap.size < wr.heap.size := lt_of_block HQ.out.box
            by_cases hlt : k < n
            · obtain ⟨V, hV⟩ := nth_of HN.out hlt
              obtain ⟨g1, aV, cV, eq2, zV, hvV, hlV, hmV⟩ := rows_cell HR.out (j := j) (x := V) (by rw [HJ.out]; simpa using hV)
              cases eq2
              have zV' : wr.cell? ⟨g0, j, none⟩ = some (.slice aV V.length cV) := kept_cellB HQ.out.low (block_of_cell zV) zV
              have hg0 : g0 < wr.heap.size := Nat.lt_trans (block_of_cell zV) hgw3
              have hj1 : (j : Int) < ((n + 1 : Nat) : Int) := by have := HJ.out; omega
              have hj0 : (0 : Int) ≤ (j : Int) := by omega
              have hj9 : IntKind.i64.wrap ((j : Int) + 1) = ((j + 1 : Nat) : Int) := (IntWalk.i64_in _ (by have := HJ.out; omega)).trans (by omega)
              have HJ9 := Lib.hid hj9
              clear hj9
              have HVM := Lib.hid (List.mem_of_getElem? hV)
              have HVW : Hid (Words u1 aV V.length cV V) := ⟨rfl, hvV, hlV, hmV⟩
              have CT0 : Hid (∀ v, Below wr.heap.size wr v → Calls Tryd.prog 26 #[.slice aV V.length cV] v (RLineIs V v)) := fun v hb => rline_any ((HVW.out.below HQ.out.low).below hb) (fun x hx => (HOK.out V (by simp; right; exact HVM.out) x hx).2)
              have HTS := HT.out
              rw [tail_step hV] at HTS
              have HZ : Hid (u1.cell? ⟨g0, j, none⟩ = some (.slice aV V.length cV)) := zV
              clear zV hvV hlV hmV
              unfold RLineIs at CT0
              cases hq : lineOf V with
              | error p =>
                rw [hq] at CT0 HTS
                unfold WrongIs at CT0
                have HTB := Lib.hid HTS
                clear HTS hq HT
                go_upto_region 29 with (go_at_call 26; (with_reducible refine (CT0.out _ (Below.refl _ _)).mono ?_); rintro y uw ⟨rfl, bx⟩; have H4 := Lib.hid (HQ.out.below bx); clear bx)
                refine gen_world (fun v => SysAt u1 u1.heap.size u1.heap.size S R (.slice a' k cp') L v ∧ v.heap[uw.heap.size]? = some (.cells #[.int .i64 0, .int .i64 0, .int .i64 0, .int .i64 0, .int .i64 0, .slice none 0 0, .slice none 0 0, .int .i64 p, .int .i64 10] GotT (0, 0))) ⟨H4.out.below (bw_alloc (Below.refl _ _) _), heap_alloc_new uw _⟩ ?_
                intro u5 ⟨h5, hy5⟩
                have H5 := Lib.hid h5
                generalize uw.heap.size = kg at hy5 ⊢
                have g7 : u5.cell? ⟨kg, 7, none⟩ = some (.int .i64 p) := blk_cell hy5 7
                have g8 : u5.cell? ⟨kg, 8, none⟩ = some (.int .i64 10) := blk_cell hy5 8
                clear h5 hy5 H4 HQ b2
                have hx9 := (kept_objB H5.out.low hw0 X1.out)
                have r0 : u5.cell? ⟨w.heap.size, 0, none⟩ = some (.int .i64 0) := blk_cell hx9 0
                have r1 : u5.cell? ⟨w.heap.size, 1, none⟩ = some (.int .i64 0) := blk_cell hx9 1
                have r2 : u5.cell? ⟨w.heap.size, 2, none⟩ = some (.slice none 0 0) := blk_cell hx9 2
                have r3 : u5.cell? ⟨w.heap.size, 3, none⟩ = some (.int .i64 0) := blk_cell hx9 3
                have r4 : u5.cell? ⟨w.heap.size, 4, none⟩ = some (.int .i64 0) := blk_cell hx9 4
                have f0 := blk_free hx9 0
                have f1 := blk_free hx9 1
                have f2 := blk_free hx9 2
                have f3 := blk_free hx9 3
                have f4 := blk_free hx9 4
                have hr := lt_of_block hx9
                have HB : Hid (outOf s = ⟨0, 0, [], p, 10⟩) := out_bad (parse_tail HG.out HC.out HTB.out)
                have HLW : Hid (Below w.heap.size w u5) := (below_up B1.out H5.out.low)
                clear hx9
                go_wp2_with fail
                exact bodyPost_ret (v := .agg #[.int .i64 0, .int .i64 0, .slice none 0 0, .int .i64 p, .int .i64 10]) (by simp [results, Tryd.results13, go_sem, hr, r0, r1, r2, r3, r4]) rfl (rparse_bad HB.out HLW.out _ _ _ _ _)
              | ok tk =>
                rw [hq] at CT0 HTS
                simp only [] at HTS
                obtain ⟨hw0', hid, hp⟩ := line_small hq
                obtain ⟨xv, hxv⟩ : ∃ xv, V[0]? = some xv := by
                  cases h : V[0]? with
                  | some x0 => exact ⟨x0, rfl⟩
                  | none => unfold wordAt at hw0'; rw [h] at hw0'; cases hw0'
                rw [placeAt_some hxv] at HTS
                have hvl : (0 : Int) < (V.length : Int) := by have := (List.getElem?_eq_some_iff.1 hxv).1; omega
                obtain ⟨gv, ov, rfl, q0, -, -⟩ := HVW.out.view.at_ hxv
                have HQ0 : Hid (u1.cell? ⟨gv, ov, none⟩ = some (.int .i64 xv.at_)) := q0
                have hgv := block_of_cell q0
                have CT1 : Hid (∀ v, Below wr.heap.size wr v → Calls Tryd.prog 26 #[.slice (some ⟨gv, ov, none⟩) V.length cV] v fun y w' => ∃ x : TV, y = .returned (.agg #[.int .i64 x.id, .int .i64 x.c, .int .i64 x.d, .int .i64 x.t, .int .i64 x.p, .slice x.a1 x.ch.length x.c1, .slice x.a2 x.us.length x.c2, .int .i64 (endAt V V.length), .int .i64 0]) ∧ x.tk = tk ∧ x.ok w' ∧ (IsI w' x.a1 x.ch ∧ IsI w' x.a2 x.us) ∧ (FreshI u1.heap.size x.a1 x.ch ∧ FreshI u1.heap.size x.a2 x.us) ∧ Below v.heap.size v w') :=
                  fun v hb => (CT0.out v hb).mono fun y w' ⟨x, h1, h2, h3, h4, h5, h6⟩ => ⟨x, h1, h2, h3, ⟨h4.1, h5.1⟩, ⟨h4.2.low (Nat.le_trans (Nat.le_of_lt hgw3) hb.size), h5.2.low (Nat.le_trans (Nat.le_of_lt hgw3) hb.size)⟩, h6⟩
                have HSM : Hid (L.length + 1 ≤ 1000000) := by show _ ≤ _; have := HLL.out; omega
                have HNN : Hid (L.length + 1 = k + 1) := by show _ = _; rw [HLL.out]
                have HIDP : Hid (∀ x : TV, x.tk = tk → I64 x.p ∧ I64 x.id) := fun x hx => by
                  have e1 : x.p = tk.p := by rw [← hx]; rfl
                  have e2 : x.id = tk.id := by rw [← hx]; rfl
                  rw [e1, e2]; unfold I64; omega
                have HTS2 := Lib.hid HTS
                obtain ⟨E, hE⟩ : ∃ E, checkT S R (L.map TV.tk ++ [tk]) = E := ⟨_, rfl⟩
                rw [hE] at HTS2
                have HE : Hid (∀ x : TV, x.tk = tk → checkOf S R (L ++ [x]) = E) := fun x hx => by rw [check_tk, List.map_append, List.map_cons, List.map_nil, hx]; exact hE
                clear CT0 HTS hq HT hw0' hid hp hxv q0 hE
                go_upto_region 29 with (go_at_call 26; (with_reducible refine (CT1.out _ (Below.refl _ _)).mono ?_); rintro y uw ⟨y, rfl, hy, hok, hi, hfr, bx⟩; have HTK := Lib.hid hy; have HY := Lib.hid hok; have HI := Lib.hid hi; have HFR := Lib.hid hfr; have H4 := Lib.hid (HQ.out.below bx); clear bx hy hok hi hfr)
                refine gen_world (fun v => Below uw.heap.size uw v ∧ v.heap[uw.heap.size]? = some (.cells #[.int .i64 y.id, .int .i64 y.c, .int .i64 y.d, .int .i64 y.t, .int .i64 y.p, .slice y.a1 y.ch.length y.c1, .slice y.a2 y.us.length y.c2, .int .i64 (endAt V V.length), .int .i64 0] GotT (0, 0))) ⟨bw_alloc (Below.refl _ _) _, heap_alloc_new uw _⟩ ?_
                intro u5 ⟨h5, hy5⟩
                have H5 := Lib.hid (H4.out.below h5)
                have HY5 := Lib.hid (HY.out.below h5)
                have HI5 : Hid (IsI u5 y.a1 y.ch ∧ IsI u5 y.a2 y.us) := ⟨HI.out.1.below h5, HI.out.2.below h5⟩
                generalize uw.heap.size = kg at hy5 ⊢
                have tr0 : u5.cell? ⟨kg, 0, none⟩ = some (.int .i64 y.id) := blk_cell hy5 0
                have tr1 : u5.cell? ⟨kg, 1, none⟩ = some (.int .i64 y.c) := blk_cell hy5 1
                have tr2 : u5.cell? ⟨kg, 2, none⟩ = some (.int .i64 y.d) := blk_cell hy5 2
                have tr3 : u5.cell? ⟨kg, 3, none⟩ = some (.int .i64 y.t) := blk_cell hy5 3
                have tr4 : u5.cell? ⟨kg, 4, none⟩ = some (.int .i64 y.p) := blk_cell hy5 4
                have tr5 : u5.cell? ⟨kg, 5, none⟩ = some (.slice y.a1 y.ch.length y.c1) := blk_cell hy5 5
                have tr6 : u5.cell? ⟨kg, 6, none⟩ = some (.slice y.a2 y.us.length y.c2) := blk_cell hy5 6
                have tr7 : u5.cell? ⟨kg, 7, none⟩ = some (.int .i64 (endAt V V.length)) := blk_cell hy5 7
                have tr8 : u5.cell? ⟨kg, 8, none⟩ = some (.int .i64 0) := blk_cell hy5 8
                have thr := lt_of_block hy5
                have c2' : u5.cell? ⟨u1.heap.size, 2, none⟩ = some (.slice a' k cp') := by rw [blk_cell H5.out.box]; rfl
                have hg5 : u1.heap.size < u5.heap.size := lt_of_block H5.out.box
                clear h5 hy5 H4 HQ b2 CT1 HY HI
                go_upto_region 32 with (at_builtin; refine wp_append (m := 1) (l := [y]) rfl (.tmp 100) (.tmp 103) rfl rfl rfl (H5.out.below (by repeat (first | exact Below.refl _ _ | (with_reducible assumption) | refine bw_alloc ?_ _ | refine bw_drew ?_))).own (Nat.le_trans (lt_of_block H5.out.box) (((by repeat (first | exact Below.refl _ _ | (with_reducible assumption) | refine bw_alloc ?_ _ | refine bw_drew ?_)) : Below u5.heap.size u5 _).size)) (View.of_at (at_new _ _ _)) rfl HSM.out (fun z => by cases z) (k + 1) HNN.out ?_; intro a3 k3 w3 o3 g3 l3; obtain ⟨hn, z1, z2⟩ := (H5.out.below (by repeat (first | exact Below.refl _ _ | (with_reducible assumption) | refine bw_alloc ?_ _ | refine bw_drew ?_))).push g3 o3 (HY5.out.below (by repeat (first | exact Below.refl _ _ | (with_reducible assumption) | refine bw_alloc ?_ _ | refine bw_drew ?_))) ⟨HI5.out.1.below (by repeat (first | exact Below.refl _ _ | (with_reducible assumption) | refine bw_alloc ?_ _ | refine bw_drew ?_)), HI5.out.2.below (by repeat (first | exact Below.refl _ _ | (with_reducible assumption) | refine bw_alloc ?_ _ | refine bw_drew ?_))⟩ HFR.out; have HNW := Lib.hid hn; clear hn o3 g3 l3)
                refine gen_world (SysAt u1 u1.heap.size u1.heap.size S R (.slice a3 (k + 1) k3) (L ++ [y])) HNW.out ?_
                intro u7 h7
                have H7 := Lib.hid h7
                have HL1 : Hid ((L ++ [y]).length = k + 1) := by show _ = _; rw [List.length_append, HLL.out]; rfl
                have HL2 : Hid (∀ x ∈ L ++ [y], I64 x.p ∧ I64 x.id) := fun x hx => by
                  rcases List.mem_append.1 hx with q | q
                  · exact HLS.out x q
                  · simp at q; subst q; exact HIDP.out x HTK.out
                have HMAP : Hid ((L ++ [y]).map TV.tk = L.map TV.tk ++ [tk]) := by show _ = _; rw [List.map_append, List.map_cons, List.map_nil, HTK.out]
                have p0 : u7.cell? ⟨u1.heap.size, 0, none⟩ = some (.int .i64 S) := by rw [blk_cell h7.box]; rfl
                have p1 : u7.cell? ⟨u1.heap.size, 1, none⟩ = some (.int .i64 R) := by rw [blk_cell h7.box]; rfl
                have p2 : u7.cell? ⟨u1.heap.size, 2, none⟩ = some (.slice a3 (k + 1) k3) := by rw [blk_cell h7.box]; rfl
                have hg7 : u1.heap.size < u7.heap.size := lt_of_block h7.box
                have CK := Lib.hid (rcheck_any S R h7.tasks)
                rw [HE.out y HTK.out] at CK
                have zV7 : u7.cell? ⟨g0, j, none⟩ = some (.slice (some ⟨gv, ov, none⟩) V.length cV) := kept_cellB h7.low (block_of_cell HZ.out) HZ.out
                clear h7 HNW H5 HY5 HI5 c2' hg5
                by_cases hE0 : E = 0
                · subst hE0
                  have HT2 : Hid (tailOf S R [] rest = tailOf S R ((L ++ [y]).map TV.tk) (rest.drop (k + 1))) := by
                    show _ = _
                    rw [HTS2.out, if_pos rfl, HMAP.out]
                  have HJ2 : Hid (j + 1 = k + 1 + 1) := by show _ = _; rw [HJ.out]
                  have hj9 := HJ9.out
                  clear HTS2 HE HMAP zV7
                  go_wp2_with (go_at_call 16; (with_reducible refine CK.out.mono ?_); rintro e u8 ⟨rfl, b8⟩; have H8 := Lib.hid (H7.out.below b8); clear b8)
                  go_roundw
                  case rel => exact ⟨j + 1, k + 1, a3, k3, L ++ [y], Nat.succ_le_of_lt hlt, by go_num, HJ2, HL1, HL2, HT2, H8⟩
                  case measure => clear hj9; simp [intOf]; omega
                · have d1 : (E == 0) = false := by rw [beq_eq_false_iff_ne]; exact hE0
                  have d2 : (E != 0) = true := by rw [bne, d1]; rfl
                  have HPE : Hid (parseOf s = .error (xv.at_, E)) := parse_tail HG.out HC.out (by rw [HTS2.out, if_neg hE0])
                  clear hE0 HTS2 HE HMAP zV7
                  go_upto_region 33 with (go_at_call 16; (with_reducible refine CK.out.mono ?_); rintro e u8 ⟨rfl, b8⟩; have H8 := Lib.hid (H7.out.below b8); clear b8)
                  have q8 : u8.cell? ⟨gv, ov, none⟩ = some (.int .i64 xv.at_) := kept_cellB H8.out.low hgv HQ0.out
                  have z8 : u8.cell? ⟨g0, j, none⟩ = some (.slice (some ⟨gv, ov, none⟩) V.length cV) := kept_cellB H8.out.low (block_of_cell HZ.out) HZ.out
                  have hx9 := (kept_objB H8.out.low hw0 X1.out)
                  have r0 : u8.cell? ⟨w.heap.size, 0, none⟩ = some (.int .i64 0) := blk_cell hx9 0
                  have r1 : u8.cell? ⟨w.heap.size, 1, none⟩ = some (.int .i64 0) := blk_cell hx9 1
                  have r2 : u8.cell? ⟨w.heap.size, 2, none⟩ = some (.slice none 0 0) := blk_cell hx9 2
                  have r3 : u8.cell? ⟨w.heap.size, 3, none⟩ = some (.int .i64 0) := blk_cell hx9 3
                  have r4 : u8.cell? ⟨w.heap.size, 4, none⟩ = some (.int .i64 0) := blk_cell hx9 4
                  have f0 := blk_free hx9 0
                  have f1 := blk_free hx9 1
                  have f2 := blk_free hx9 2
                  have f3 := blk_free hx9 3
                  have f4 := blk_free hx9 4
                  have hr := lt_of_block hx9
                  have HB : Hid (outOf s = ⟨0, 0, [], xv.at_, E⟩) := out_bad HPE.out
                  have HLW : Hid (Below w.heap.size w u8) := (below_up B1.out H8.out.low)
                  clear hx9
                  go_wp2_with fail
                  exact bodyPost_ret (v := .agg #[.int .i64 0, .int .i64 0, .slice none 0 0, .int .i64 xv.at_, .int .i64 E]) (by simp [results, Tryd.results13, go_sem, hr, r0, r1, r2, r3, r4]) rfl (rparse_bad HB.out HLW.out _ _ _ _ _)
            · obtain rfl : n = k := by omega
              have HTE : Hid (tailOf S R [] rest = .ok (L.map TV.tk)) := by
                show _ = _
                rw [HT.out, List.drop_of_length_le (by rw [HN.out]; exact Nat.le_refl _), tailOf]
              have hjn : ¬ (j : Int) < ((n + 1 : Nat) : Int) := by have := HJ.out; omega
              by_cases hn00 : n = 0
              · subst hn00
                have hL0 : L = [] := List.length_eq_zero_iff.1 HLL.out
                subst hL0
                have HPE : Hid (parseOf s = .error (s.size, 1)) := parse_empty HG.out HC.out HTE.out
                clear HTE HT
                have hx9 := (kept_objB HQ.out.low hw0 X1.out)
                have r0 : wr.cell? ⟨w.heap.size, 0, none⟩ = some (.int .i64 0) := blk_cell hx9 0
                have r1 : wr.cell? ⟨w.heap.size, 1, none⟩ = some (.int .i64 0) := blk_cell hx9 1
                have r2 : wr.cell? ⟨w.heap.size, 2, none⟩ = some (.slice none 0 0) := blk_cell hx9 2
                have r3 : wr.cell? ⟨w.heap.size, 3, none⟩ = some (.int .i64 0) := blk_cell hx9 3
                have r4 : wr.cell? ⟨w.heap.size, 4, none⟩ = some (.int .i64 0) := blk_cell hx9 4
                have f0 := blk_free hx9 0
                have f1 := blk_free hx9 1
                have f2 := blk_free hx9 2
                have f3 := blk_free hx9 3
                have f4 := blk_free hx9 4
                have hr := lt_of_block hx9
                have HB : Hid (outOf s = ⟨0, 0, [], s.size, 1⟩) := out_bad HPE.out
                have HLW : Hid (Below w.heap.size w wr) := (below_up B1.out HQ.out.low)
                clear hx9
                go_wp2_with fail
                exact bodyPost_ret (v := .agg #[.int .i64 0, .int .i64 0, .slice none 0 0, .int .i64 s.size, .int .i64 1]) (by simp [results, Tryd.results13, go_sem, hr, r0, r1, r2, r3, r4]) rfl (rparse_bad HB.out HLW.out _ _ _ _ _)
              · have d7 : ((n : Int) == 0) = false := by rw [beq_eq_false_iff_ne]; omega
                have d8 : ¬ (n : Int) = 0 := by omega
                have hLn : L.map TV.tk ≠ [] := fun q => by
                  have := congrArg List.length q
                  rw [List.length_map, HLL.out] at this
                  exact hn00 this
                have HPE : Hid (parseOf s = .ok (S, R, L.map TV.tk)) := parse_some HG.out HC.out HTE.out hLn
                have hx9 := kept_objB HQ.out.low hw0 X1.out
                have r0 : wr.cell? ⟨w.heap.size, 0, none⟩ = some (.int .i64 0) := blk_cell hx9 0
                have r1 : wr.cell? ⟨w.heap.size, 1, none⟩ = some (.int .i64 0) := blk_cell hx9 1
                have r2 : wr.cell? ⟨w.heap.size, 2, none⟩ = some (.slice none 0 0) := blk_cell hx9 2
                have r3 : wr.cell? ⟨w.heap.size, 3, none⟩ = some (.int .i64 0) := blk_cell hx9 3
                have r4 : wr.cell? ⟨w.heap.size, 4, none⟩ = some (.int .i64 0) := blk_cell hx9 4
                have f0 := blk_free hx9 0
                have f1 := blk_free hx9 1
                have f2 := blk_free hx9 2
                have f3 := blk_free hx9 3
                have f4 := blk_free hx9 4
                have hr := lt_of_block hx9
                have p0 : wr.cell? ⟨u1.heap.size, 0, none⟩ = some (.int .i64 S) := by rw [blk_cell HQ.out.box]; rfl
                have p1 : wr.cell? ⟨u1.heap.size, 1, none⟩ = some (.int .i64 R) := by rw [blk_cell HQ.out.box]; rfl
                have HFIN : Hid (∀ y0 y1 y2 y3 y4 : Value, RParseIs s w (.returned (.agg #[.int .i64 S, .int .i64 R, .slice a' n cp', .int .i64 s.size, .int .i64 0])) (((((wr.setCell ⟨w.heap.size, 0, none⟩ y0).setCell ⟨w.heap.size, 1, none⟩ y1).setCell ⟨w.heap.size, 2, none⟩ y2).setCell ⟨w.heap.size, 3, none⟩ y3).setCell ⟨w.heap.size, 4, none⟩ y4)) := fun y0 y1 y2 y3 y4 => rparse_ok (out_ok HPE.out) (HQ.out.holds rfl HLS.out) hw0 (below_up B1.out HQ.out.low) y0 y1 y2 y3 y4
                clear HTE HT HQ hx9 hLn hn00 HPE
                go_wp2_with fail
                exact bodyPost_ret (v := .agg #[.int .i64 S, .int .i64 R, .slice a' n cp', .int .i64 s.size, .int .i64 0]) (by simp [results, Tryd.results13, go_sem, hr, r0, r1, r2, r3, r4]) rfl (HFIN.out _ _ _ _ _)
end Go.Proofs.YtlpffgmfgkleiaaDoor

/-
  The walks over digits.
-/
namespace Go.Proofs.YtlpffgmfgkleiaaDoor
open Go.RowKit Go.Maps

/-- The digits of a number. -/
def upOf (n : Nat) : ByteArray := if n < 10 then ⟨#[UInt8.ofNat (48 + n)]⟩ else upOf (n / 10) ++ ⟨#[UInt8.ofNat (48 + n % 10)]⟩
theorem upOf_small {n : Nat} (h : n < 10) : upOf n = ⟨#[UInt8.ofNat (48 + n)]⟩ := by rw [upOf, if_pos h]
theorem upOf_more {n : Nat} (h : ¬ n < 10) : upOf n = upOf (n / 10) ++ ⟨#[UInt8.ofNat (48 + n % 10)]⟩ := by rw [upOf, if_neg h]
theorem upOf_size : ∀ (k n : Nat), n < 10 ^ k → (upOf n).size ≤ k ∨ (upOf n).size ≤ 1
  | 0, n, h => by
    right; rw [upOf_small (by simp at h; omega)]; exact Nat.le_refl _
  | k + 1, n, h => by
    by_cases h1 : n < 10
    · right; rw [upOf_small h1]; exact Nat.le_refl _
    · left
      rw [upOf_more h1, ByteArray.size_append]
      have := upOf_size k (n / 10) (by rw [Nat.pow_succ] at h; omega)
      have e : (⟨#[UInt8.ofNat (48 + n % 10)]⟩ : ByteArray).size = 1 := rfl
      rw [e]
      rcases this with q | q
      · omega
      · have hk : 0 < k := by
          rcases Nat.eq_zero_or_pos k with z | z
          · subst z; simp at h; omega
          · exact z
        omega
theorem conv_one (m : Nat) (h : m < 10) (w : World) (b : Nat) (hc : w.cell? ⟨b, 0, none⟩ = some (.int .u8 (48 + (m : Int)))) : Sem.run Tryd.prog (convert 34 9 (.slice (some ⟨b, 0, none⟩) 1 1)) w = .ok (.string ⟨#[UInt8.ofNat (48 + m)]⟩) w := by
  refine run_convert_bytes_back w 34 9 5 ⟨b, 0, none⟩ 1 [UInt8.ofNat (48 + m)] Tryd.underlying34 Tryd.underlying5 Tryd.underlying9 ?_
  intro j hj
  have : j = 0 := by simp at hj; omega
  subst this
  rw [addr_at, Nat.zero_add, hc]
  have e : (UInt8.ofNat (48 + m)).toNat = 48 + m := by
    rw [UInt8.toNat_ofNat']; omega
  simp only [List.getElem_cons_zero, e]
  congr 2
theorem add_str (u v r : ByteArray) (hr : u ++ v = r) (hs : (u.size + v.size : Nat) ≤ 1000000000) (w : World) : Sem.run Tryd.prog (Op.stringOp .add u v) w = .ok (.string r) w := by
  subst hr
  exact run_string_add_sum (P := Tryd.prog) w u v (by omega)
set_option maxRecDepth 100000 in
set_option maxHeartbeats 1000000 in
theorem up_small (n : Nat) (h : n < 10) (w : World) : Calls Tryd.prog 34 #[.int .u64 n] w fun e w' => e = .returned (.string (upOf n)) ∧ Below w.heap.size w w' := by
  obtain ⟨v, hv⟩ : ∃ v : ByteArray, ⟨#[UInt8.ofNat (48 + n)]⟩ = v := ⟨_, rfl⟩
  rw [upOf_small h, hv]
  have h1 : (n : Int) < 10 := by omega
  have w1 : IntKind.u64.wrap (48 + (n : Int)) = 48 + (n : Int) := by rw [IntKind.wrap_u64]; omega
  have w2 : IntKind.u8.wrap (48 + (n : Int)) = 48 + (n : Int) := by rw [IntKind.wrap_u8]; omega
  have hcv := conv_one n h
  rw [hv] at hcv
  clear hv
  go_enter Tryd.func34, Tryd.ntmps34
  go_wp2_with fail
  go_ret
  exact ⟨rfl, (by repeat (first | exact Below.refl _ _ | (with_reducible assumption) | refine bw_alloc ?_ _ | refine bw_drew ?_))⟩
def UpBack (n : Nat) (w : World) (e : Ending) (w' : World) : Prop := e = .returned (.string (upOf n)) ∧ Below w.heap.size w w'
set_option maxRecDepth 100000 in
set_option maxHeartbeats 2000000 in
theorem up_any (n : Nat) : n ≤ 18446744073709551615 → ∀ w : World, Calls Tryd.prog 34 #[.int .u64 n] w (UpBack n w) := by
  induction n using Nat.strongRecOn with
  | _ n ih =>
    intro hn w
    by_cases h : n < 10
    · exact up_small n h w
    · have IH := Lib.hid (ih (n / 10) (by omega) (by omega))
      clear ih
      obtain ⟨k, hk⟩ : ∃ k, n / 10 = k := ⟨_, rfl⟩
      obtain ⟨m, hm⟩ : ∃ m, n % 10 = m := ⟨_, rfl⟩
      obtain ⟨u, hu⟩ : ∃ u, upOf k = u := ⟨_, rfl⟩
      obtain ⟨v, hv⟩ : ∃ v : ByteArray, ⟨#[UInt8.ofNat (48 + m)]⟩ = v := ⟨_, rfl⟩
      obtain ⟨r, hr⟩ : ∃ r, u ++ v = r := ⟨_, rfl⟩
      have hres : upOf n = r := by rw [upOf_more h, hk, hm, hu, hv, hr]
      have hsz : u.size + v.size ≤ 1000000000 := by
        have h1 := upOf_size 20 k (by have e : (10 : Nat) ^ 20 = 100000000000000000000 := by decide
                                      rw [e]; omega)
        rw [hu] at h1
        have h2 : v.size = 1 := by rw [← hv]; rfl
        omega
      have hadd := add_str u v r hr hsz
      have hcv := conv_one m (by omega)
      rw [hv] at hcv
      have HF : Hid (∀ w', Below w.heap.size w w' → UpBack n w (.returned (.string r)) w') := fun w' h => ⟨by rw [hres], h⟩
      have IH2 : Hid (∀ v, Calls Tryd.prog 34 #[.int .u64 (k : Int)] v fun e w' => e = .returned (.string u) ∧ Below v.heap.size v w') := by
        have := IH.out
        rw [hk] at this
        unfold UpBack at this
        rw [hu] at this
        exact this
      have e1 : (n : Int).tdiv 10 = (k : Int) := by rw [Int.tdiv_eq_ediv_of_nonneg (by omega)]; omega
      have e2 : (n : Int).tmod 10 = (m : Int) := by rw [Int.tmod_eq_emod_of_nonneg (by omega)]; omega
      have e3 : (n : Int) / 10 = (k : Int) := by omega
      have e4 : (n : Int) % 10 = (m : Int) := by omega
      have h1 : ¬ (n : Int) < 10 := by omega
      have w0 : IntKind.u64.wrap (k : Int) = (k : Int) := by rw [IntKind.wrap_u64]; omega
      have w3 : IntKind.u64.wrap (m : Int) = (m : Int) := by rw [IntKind.wrap_u64]; omega
      have w1 : IntKind.u64.wrap (48 + (m : Int)) = 48 + (m : Int) := by rw [IntKind.wrap_u64]; omega
      have w2 : IntKind.u8.wrap (48 + (m : Int)) = 48 + (m : Int) := by rw [IntKind.wrap_u8]; omega
      clear hk hm hu hv hr hres hsz IH h
      go_enter Tryd.func34, Tryd.ntmps34
      go_upto_region 3 with fail
      go_region_law (go_simp; (with_reducible refine (IH2.out _).mono ?_); rintro e w5 ⟨rfl, b5⟩; (try (have c5 := (kept_cell (v := .int .u8 (48 + (m : Int))) (b := w.heap.size) (o := 0) b5 (by first | (rw [World.cell?_alloc_new]; rfl) | (exact (World.cell?_alloc_new ..).trans rfl))))); have B5 := Lib.hid (below_up ((by repeat (first | exact Below.refl _ _ | (with_reducible assumption) | refine bw_alloc ?_ _ | refine bw_drew ?_)) : Below w.heap.size w _) b5); clear b5)
      all_goals
        go_wp2_with fail
        go_ret
        exact HF.out _ (below_up B5.out (by repeat (first | exact Below.refl _ _ | (with_reducible assumption) | refine bw_alloc ?_ _ | refine bw_drew ?_)))
end Go.Proofs.YtlpffgmfgkleiaaDoor

/-
  The walks over digits of any number, and over rows of them.
-/
namespace Go.Proofs.YtlpffgmfgkleiaaDoor
open Go.RowKit Go.Maps

def digOf (n : Int) : ByteArray := if n < 0 then ⟨#[45]⟩ ++ upOf n.natAbs else upOf n.natAbs
theorem digOf_size (n : Int) (h : I64 n) : (digOf n).size ≤ 22 := by
  have hn : n.natAbs < 10 ^ 20 := by
    have e : (10 : Nat) ^ 20 = 100000000000000000000 := by decide
    rw [e]; unfold I64 at h; omega
  have := upOf_size 20 n.natAbs hn
  unfold digOf
  split
  · rw [ByteArray.size_append]
    have e : (⟨#[45]⟩ : ByteArray).size = 1 := rfl
    omega
  · omega
set_option maxRecDepth 100000 in
set_option maxHeartbeats 1000000 in
theorem rdigits_any (n : Int) (hn : I64 n) (w : World) : Calls Tryd.prog 17 #[.int .i64 n] w fun e w' => e = .returned (.string (digOf n)) ∧ Below w.heap.size w w' := by
  unfold I64 at hn
  by_cases h : n < 0
  · obtain ⟨m, hm⟩ : ∃ m : Nat, n.natAbs = m := ⟨_, rfl⟩
    obtain ⟨u, hu⟩ : ∃ u, upOf m = u := ⟨_, rfl⟩
    obtain ⟨r, hr⟩ : ∃ r : ByteArray, ⟨#[45]⟩ ++ u = r := ⟨_, rfl⟩
    have hres : digOf n = r := by unfold digOf; rw [if_pos h, hm, hu, hr]
    rw [hres]
    have hsz : (⟨#[45]⟩ : ByteArray).size + u.size ≤ 1000000000 := by
      have h1 := upOf_size 20 m (by have e : (10 : Nat) ^ 20 = 100000000000000000000 := by decide
                                    rw [e]; omega)
      rw [hu] at h1
      have e : (⟨#[45]⟩ : ByteArray).size = 1 := rfl
      omega
    have hadd := add_str ⟨#[45]⟩ u r hr hsz
    have C : Hid (∀ v, Calls Tryd.prog 34 #[.int .u64 (m : Int)] v fun e w' => e = .returned (.string u) ∧ Below v.heap.size v w') := fun v => by
      have := up_any m (by omega) v
      unfold UpBack at this
      rwa [hu] at this
    have w1 : IntKind.u64.wrap n = n + 18446744073709551616 := by rw [IntKind.wrap_u64]; omega
    have w2 : IntKind.u64.wrap (-(n + 18446744073709551616)) = (m : Int) := by rw [IntKind.wrap_u64]; omega
    clear hm hu hr hres hsz
    go_enter Tryd.func17, Tryd.ntmps17
    go_wp2_with (go_at_call 34; (with_reducible refine (C.out _).mono ?_); rintro e w1 ⟨rfl, b1⟩; have B1 := Lib.hid b1; clear b1)
    go_ret
    exact ⟨rfl, B1.out⟩
  · obtain ⟨m, rfl⟩ : ∃ m : Nat, n = m := ⟨n.toNat, by omega⟩
    obtain ⟨u, hu⟩ : ∃ u, upOf m = u := ⟨_, rfl⟩
    have hres : digOf (m : Int) = u := by unfold digOf; rw [if_neg h, Int.natAbs_natCast, hu]
    rw [hres]
    have C : Hid (∀ v, Calls Tryd.prog 34 #[.int .u64 (m : Int)] v fun e w' => e = .returned (.string u) ∧ Below v.heap.size v w') := fun v => by
      have := up_any m (by omega) v
      unfold UpBack at this
      rwa [hu] at this
    have w1 : IntKind.u64.wrap (m : Int) = (m : Int) := by rw [IntKind.wrap_u64]; omega
    clear hu hres
    go_enter Tryd.func17, Tryd.ntmps17
    go_wp2_with (go_at_call 34; (with_reducible refine (C.out _).mono ?_); rintro e w1 ⟨rfl, b1⟩; have B1 := Lib.hid b1; clear b1)
    go_ret
    exact ⟨rfl, B1.out⟩

/-- The first numbers of a row, with a comma between two. -/
def jrun (l : List Int) : Nat → ByteArray
  | 0 => ⟨#[]⟩
  | i + 1 => (if i = 0 then jrun l i else jrun l i ++ ⟨#[44]⟩) ++ digOf (l[i]?.getD 0)
def joinOf (l : List Int) : ByteArray := jrun l l.length
theorem jrun_size (l : List Int) (hl : ∀ x ∈ l, I64 x) : ∀ i, (jrun l i).size ≤ 23 * i
  | 0 => Nat.le_refl _
  | i + 1 => by
    have ih := jrun_size l hl i
    have hd : (digOf (l[i]?.getD 0)).size ≤ 22 := by
      apply digOf_size
      cases e : l[i]? with
      | none => show I64 0; unfold I64; omega
      | some x => exact hl x (List.mem_of_getElem? e)
    rw [jrun, ByteArray.size_append]
    split
    · omega
    · rw [ByteArray.size_append]
      have e : (⟨#[44]⟩ : ByteArray).size = 1 := rfl
      omega
set_option maxRecDepth 100000 in
set_option maxHeartbeats 2000000 in
theorem rjoin_any (a : Option Addr) (n cap : Nat) (l : List Int) (hl : l.length = n) (hn : n ≤ 1000000) (hw : ∀ x ∈ l, I64 x) (w : World) (h : Ints w a l) : Calls Tryd.prog 35 #[.slice a n cap] w fun e w' => e = .returned (.string (joinOf l)) ∧ Below w.heap.size w w' := by
  have H := Lib.hid h
  have HL := Lib.hid hl
  have HW := Lib.hid hw
  clear h hl hw
  go_enter Tryd.func35, Tryd.ntmps35
  go_wp2_with fail
  go_loopw [3, 4] (fun v u wr => ∃ (i : Nat) (t : ByteArray), i ≤ n ∧ u = .int .i64 i ∧ v = .string t ∧ Hid (jrun l i = t) ∧ Hid (Below w.heap.size w wr)) (fun _ u _ => (n - intOf u).toNat)
  case atStart => exact ⟨0, ⟨#[]⟩, by omega, rfl, rfl, rfl, Below.refl _ _⟩
  case round =>
    obtain ⟨i, t, hi, rfl, rfl, HT, HB⟩ := hrel
    by_cases hlt : i < n
    · obtain ⟨x, hx⟩ := nth_of HL.out hlt
      obtain ⟨g, o, rfl, c0⟩ := (H.out.below HB.out).at_ hx
      have hk1 : (i : Int) < (n : Int) := by omega
      have hk0 : (0 : Int) ≤ (i : Int) := by omega
      have hxw := HW.out x (List.mem_of_getElem? hx)
      obtain ⟨d, hd⟩ : ∃ d, digOf x = d := ⟨_, rfl⟩
      have C : Hid (∀ v, Calls Tryd.prog 17 #[.int .i64 x] v fun e w' => e = .returned (.string d) ∧ Below v.heap.size v w') := fun v => by
        have := rdigits_any x hxw v
        rwa [hd] at this
      have hts : t.size ≤ 23 * i := by rw [← HT.out]; exact jrun_size l HW.out i
      have hds : d.size ≤ 22 := by rw [← hd]; exact digOf_size x hxw
      obtain ⟨t1, ht1⟩ : ∃ t1, (if i = 0 then t else t ++ ⟨#[44]⟩) = t1 := ⟨_, rfl⟩
      obtain ⟨t2, ht2⟩ : ∃ t2, t1 ++ d = t2 := ⟨_, rfl⟩
      have HT2 : Hid (jrun l (i + 1) = t2) := by
        show _ = _; rw [jrun, HT.out, hx, ht1]
        show t1 ++ digOf x = t2
        rw [hd, ht2]
      have hc44 : (⟨#[44]⟩ : ByteArray).size = 1 := rfl
      have ht1s : t1.size ≤ 23 * i + 1 := by
        rw [← ht1]; split
        · omega
        · rw [ByteArray.size_append]; omega
      have hadd2 := add_str t1 d t2 ht2 (by omega)
      by_cases h0 : i = 0
      · rw [if_pos h0] at ht1
        subst ht1
        have f1 : ¬ (0 : Int) < (i : Int) := by omega
        have f2 : ¬ 0 < i := by omega
        clear h0 hx hd ht2 hts hds ht1s hxw hc44
        go_wp2_with (go_at_call 17; (with_reducible refine (C.out _).mono ?_); rintro e w5 ⟨rfl, b5⟩; have B5 := Lib.hid (below_up HB.out b5); clear b5)
        go_roundw
        case rel => exact ⟨i + 1, t2, by omega, by go_num, rfl, HT2, B5⟩
        case measure => simp [intOf]; omega
      · rw [if_neg h0] at ht1
        have hadd1 := add_str t ⟨#[44]⟩ t1 ht1 (by omega)
        have f1 : (0 : Int) < (i : Int) := by omega
        have f2 : 0 < i := by omega
        clear h0 hx hd ht2 hts hds ht1s hxw ht1 hc44
        go_wp2_with (go_at_call 17; (with_reducible refine (C.out _).mono ?_); rintro e w5 ⟨rfl, b5⟩; have B5 := Lib.hid (below_up HB.out b5); clear b5)
        go_roundw
        case rel => exact ⟨i + 1, t2, by omega, by go_num, rfl, HT2, B5⟩
        case measure => simp [intOf]; omega
    · obtain rfl : n = i := by omega
      have HF : Hid (joinOf l = t) := by show _ = _; unfold joinOf; rw [HL.out]; exact HT.out
      go_wp2_with fail
      go_ret
      exact ⟨by rw [HF.out]; rfl, HB.out⟩
end Go.Proofs.YtlpffgmfgkleiaaDoor

/-
  A task as a text, in plain words; the walk over the document's own.
-/
namespace Go.Proofs.YtlpffgmfgkleiaaDoor
open Go.RowKit Go.Maps

abbrev sTask : ByteArray := ⟨#[116, 97, 115, 107, 32]⟩
abbrev sC : ByteArray := ⟨#[32, 99, 61]⟩
abbrev sD : ByteArray := ⟨#[32, 100, 61]⟩
abbrev sT : ByteArray := ⟨#[32, 116, 61]⟩
abbrev sP : ByteArray := ⟨#[32, 112, 61]⟩
abbrev sChunks : ByteArray := ⟨#[32, 99, 104, 117, 110, 107, 115, 61]⟩
abbrev sUse : ByteArray := ⟨#[32, 117, 115, 101, 61]⟩
/-- A task's words without its rows. -/
def headOf (t : Tk) : ByteArray := sTask ++ digOf t.id ++ sC ++ digOf t.c ++ sD ++ digOf t.d ++ sT ++ digOf t.t ++ sP ++ digOf t.p
def midOf (t : Tk) : ByteArray := if t.ch = [] then headOf t else headOf t ++ sChunks ++ joinOf t.ch
def wholeOf (t : Tk) : ByteArray := if t.us = [] then midOf t else midOf t ++ sUse ++ joinOf t.us
/-- A task as a text; of one that is wrong none. -/
def lineText (t : Tk) : ByteArray := if rightOf t.tv 256 = 0 then wholeOf t else ⟨#[]⟩
theorem right_tk (x : TV) (s : Int) : rightOf x s = rightOf x.tk.tv s := rfl
theorem fill_mem : ∀ (l : List Int) (c : Int), fillB l c = true → ∀ x ∈ l, 1 ≤ x ∧ x ≤ c
  | [], c, _, x, hx => by cases hx
  | y :: l, c, h, x, hx => by
    rw [fillB] at h
    by_cases q : 1 ≤ y ∧ y ≤ c
    · rw [if_pos q] at h
      rcases List.mem_cons.1 hx with rfl | hx
      · exact q
      · have := fill_mem l (c - y) h x hx
        omega
    · rw [if_neg q] at h; cases h
/-- What is right has small numbers. -/
structure Small (x : TV) : Prop where
  id : 1 ≤ x.id ∧ x.id ≤ 99
  p : 1 ≤ x.p ∧ x.p ≤ 99
  c : 1 ≤ x.c ∧ x.c ≤ x.d
  d : x.d ≤ x.t ∧ x.t ≤ 1073741824
  chl : x.ch.length ≤ 64
  ch : ∀ y ∈ x.ch, 1 ≤ y ∧ y ≤ x.c
  usl : x.us.length ≤ 64
  us : ∀ y ∈ x.us, 0 ≤ y ∧ y < 256
theorem small_of {x : TV} {s : Int} (h : rightOf x s = 0) (hs : s ≤ 256) : Small x := by
  unfold rightOf at h
  split at h
  · cases h
  · rename_i a1
    split at h
    · cases h
    · rename_i a2
      split at h
      · cases h
      · rename_i a3
        split at h
        · cases h
        · rename_i a4
          unfold idBad at a1
          unfold cdBad at a2
          unfold chBad at a3
          unfold usBad at a4
          simp only [not_or, Nat.not_lt] at a3 a4
          refine ⟨by omega, by omega, by omega, by omega, a3.1, fun y hy => ?_, a4.1, fun y hy => ?_⟩
          · have hne : x.ch ≠ [] := fun q => by rw [q] at hy; cases hy
            cases hf : fillB x.ch x.c with
            | false => exact absurd ⟨hne, hf⟩ a3.2
            | true => exact fill_mem _ _ hf y hy
          · have : badB s y = false := by
              cases hb : badB s y with
              | false => rfl
              | true => exact absurd (List.any_eq_true.2 ⟨y, hy, hb⟩) a4.2
            unfold badB at this
            simp only [decide_eq_false_iff_not] at this
            omega
theorem size_join {l : List Int} (hl : ∀ x ∈ l, I64 x) (h : l.length ≤ 64) : (joinOf l).size ≤ 1472 := by
  have := jrun_size l hl l.length
  unfold joinOf
  omega

set_option maxRecDepth 100000 in
set_option maxHeartbeats 4000000 in
theorem rtext_any (x : TV) (w : World) (hx : x.ok w) : Calls Tryd.prog 18 #[x.val] w fun e w' => e = .returned (.string (lineText x.tk)) ∧ Below w.heap.size w w' := by
  have CR : Hid (∀ v, Below w.heap.size w v → Calls Tryd.prog 33 #[x.val, .int .i64 256] v fun e w' => e = .returned (.int .i64 (rightOf x 256)) ∧ Below v.heap.size v w') := fun v hb => rright_any x 256 v (hx.below hb)
  have HX := Lib.hid hx
  have HLT : Hid (lineText x.tk = if rightOf x 256 = 0 then wholeOf x.tk else ⟨#[]⟩) := rfl
  unfold TV.val at CR ⊢
  by_cases hr : rightOf x 256 = 0
  rotate_left
  · obtain ⟨E, hE⟩ : ∃ E, rightOf x 256 = E := ⟨_, rfl⟩
    rw [hE] at CR hr
    have HL : Hid (lineText x.tk = ⟨#[]⟩) := by show _ = _; rw [HLT.out, if_neg (by rw [hE]; exact hr)]
    have d1 : (E == 0) = false := by rw [beq_eq_false_iff_ne]; exact hr
    have d2 : (E != 0) = true := by rw [bne, d1]; rfl
    clear HLT hE hr hx
    go_enter Tryd.func18, Tryd.ntmps18
    go_upto_region 1 with fail
    refine gen_world (fun v => Below w.heap.size w v ∧ AtB v w.heap.size x) ⟨bw_alloc (Below.refl _ _) _, atB_new w x _⟩ ?_
    intro u0 ⟨hb0, ⟨c0, c1, c2, c3, c4, c5, c6⟩⟩
    have B0 := Lib.hid hb0
    clear hb0
    go_wp2_with (go_at_call 33; (with_reducible refine (CR.out _ B0.out).mono ?_); rintro e u1 ⟨rfl, b1⟩; have B1 := Lib.hid (below_up B0.out b1); clear b1)
    go_ret
    exact ⟨by rw [HL.out]; rfl, B1.out⟩
  · have hsm := small_of hr (by omega)
    have HL : Hid (lineText x.tk = wholeOf x.tk) := by show _ = _; rw [HLT.out, if_pos hr]
    rw [hr] at CR
    have hchI : ∀ y ∈ x.ch, I64 y := fun y hy => by have := hsm.ch y hy; have := hsm.c; have := hsm.d; unfold I64; omega
    have husI : ∀ y ∈ x.us, I64 y := fun y hy => by have := hsm.us y hy; unfold I64; omega
    have i1 : I64 x.id := by have := hsm.id; unfold I64; omega
    have i2 : I64 x.c := by have := hsm.c; have := hsm.d; unfold I64; omega
    have i3 : I64 x.d := by have := hsm.c; have := hsm.d; unfold I64; omega
    have i4 : I64 x.t := by have := hsm.c; have := hsm.d; unfold I64; omega
    have i5 : I64 x.p := by have := hsm.p; unfold I64; omega
    obtain ⟨g1, hg1⟩ : ∃ g, digOf x.id = g := ⟨_, rfl⟩
    have z1 : g1.size ≤ 22 := by rw [← hg1]; exact digOf_size _ i1
    have D1 : Hid (∀ v, Calls Tryd.prog 17 #[.int .i64 x.id] v fun e w' => e = .returned (.string g1) ∧ Below v.heap.size v w') := fun v => by have := rdigits_any x.id i1 v; rwa [hg1] at this
    obtain ⟨g2, hg2⟩ : ∃ g, digOf x.c = g := ⟨_, rfl⟩
    have z2 : g2.size ≤ 22 := by rw [← hg2]; exact digOf_size _ i2
    have D2 : Hid (∀ v, Calls Tryd.prog 17 #[.int .i64 x.c] v fun e w' => e = .returned (.string g2) ∧ Below v.heap.size v w') := fun v => by have := rdigits_any x.c i2 v; rwa [hg2] at this
    obtain ⟨g3, hg3⟩ : ∃ g, digOf x.d = g := ⟨_, rfl⟩
    have z3 : g3.size ≤ 22 := by rw [← hg3]; exact digOf_size _ i3
    have D3 : Hid (∀ v, Calls Tryd.prog 17 #[.int .i64 x.d] v fun e w' => e = .returned (.string g3) ∧ Below v.heap.size v w') := fun v => by have := rdigits_any x.d i3 v; rwa [hg3] at this
    obtain ⟨g4, hg4⟩ : ∃ g, digOf x.t = g := ⟨_, rfl⟩
    have z4 : g4.size ≤ 22 := by rw [← hg4]; exact digOf_size _ i4
    have D4 : Hid (∀ v, Calls Tryd.prog 17 #[.int .i64 x.t] v fun e w' => e = .returned (.string g4) ∧ Below v.heap.size v w') := fun v => by have := rdigits_any x.t i4 v; rwa [hg4] at this
    obtain ⟨g5, hg5⟩ : ∃ g, digOf x.p = g := ⟨_, rfl⟩
    have z5 : g5.size ≤ 22 := by rw [← hg5]; exact digOf_size _ i5
    have D5 : Hid (∀ v, Calls Tryd.prog 17 #[.int .i64 x.p] v fun e w' => e = .returned (.string g5) ∧ Below v.heap.size v w') := fun v => by have := rdigits_any x.p i5 v; rwa [hg5] at this
    have ksUse : sUse.size = 5 := rfl
    have ksChunks : sChunks.size = 8 := rfl
    have ksP : sP.size = 3 := rfl
    have ksT : sT.size = 3 := rfl
    have ksD : sD.size = 3 := rfl
    have ksC : sC.size = 3 := rfl
    have ksTask : sTask.size = 5 := rfl
    obtain ⟨s1, hs1⟩ : ∃ s, sTask ++ g1 = s := ⟨_, rfl⟩
    have y1 : s1.size = sTask.size + g1.size := by rw [← hs1, ByteArray.size_append]
    obtain ⟨s2, hs2⟩ : ∃ s, s1 ++ sC = s := ⟨_, rfl⟩
    have y2 : s2.size = s1.size + sC.size := by rw [← hs2, ByteArray.size_append]
    obtain ⟨s3, hs3⟩ : ∃ s, s2 ++ g2 = s := ⟨_, rfl⟩
    have y3 : s3.size = s2.size + g2.size := by rw [← hs3, ByteArray.size_append]
    obtain ⟨s4, hs4⟩ : ∃ s, s3 ++ sD = s := ⟨_, rfl⟩
    have y4 : s4.size = s3.size + sD.size := by rw [← hs4, ByteArray.size_append]
    obtain ⟨s5, hs5⟩ : ∃ s, s4 ++ g3 = s := ⟨_, rfl⟩
    have y5 : s5.size = s4.size + g3.size := by rw [← hs5, ByteArray.size_append]
    obtain ⟨s6, hs6⟩ : ∃ s, s5 ++ sT = s := ⟨_, rfl⟩
    have y6 : s6.size = s5.size + sT.size := by rw [← hs6, ByteArray.size_append]
    obtain ⟨s7, hs7⟩ : ∃ s, s6 ++ g4 = s := ⟨_, rfl⟩
    have y7 : s7.size = s6.size + g4.size := by rw [← hs7, ByteArray.size_append]
    obtain ⟨s8, hs8⟩ : ∃ s, s7 ++ sP = s := ⟨_, rfl⟩
    have y8 : s8.size = s7.size + sP.size := by rw [← hs8, ByteArray.size_append]
    obtain ⟨s9, hs9⟩ : ∃ s, s8 ++ g5 = s := ⟨_, rfl⟩
    have y9 : s9.size = s8.size + g5.size := by rw [← hs9, ByteArray.size_append]
    have A1 := Lib.hid (add_str sTask g1 s1 hs1 (by omega))
    have A2 := Lib.hid (add_str s1 sC s2 hs2 (by omega))
    have A3 := Lib.hid (add_str s2 g2 s3 hs3 (by omega))
    have A4 := Lib.hid (add_str s3 sD s4 hs4 (by omega))
    have A5 := Lib.hid (add_str s4 g3 s5 hs5 (by omega))
    have A6 := Lib.hid (add_str s5 sT s6 hs6 (by omega))
    have A7 := Lib.hid (add_str s6 g4 s7 hs7 (by omega))
    have A8 := Lib.hid (add_str s7 sP s8 hs8 (by omega))
    have A9 := Lib.hid (add_str s8 g5 s9 hs9 (by omega))
    have HHD : Hid (headOf x.tk = s9) := by
      show _ = _
      unfold headOf TV.tk
      simp only []
      rw [hg1, hg2, hg3, hg4, hg5, hs1, hs2, hs3, hs4, hs5, hs6, hs7, hs8, hs9]
    have HS9 : Hid (s9.size ≤ 200) := by show _ ≤ _; omega
    obtain ⟨M, hM⟩ : ∃ M, midOf x.tk = M := ⟨_, rfl⟩
    obtain ⟨Z, hZ⟩ : ∃ Z, wholeOf x.tk = Z := ⟨_, rfl⟩
    have HM := Lib.hid hM
    have HZ := Lib.hid hZ
    have HCH := Lib.hid hchI
    have HUS := Lib.hid husI
    have HSM := Lib.hid hsm
    have HMS : Hid (M.size ≤ 2000) := by
      show _ ≤ _
      rw [← HM.out]
      unfold midOf
      split
      · rw [HHD.out]; have := HS9.out; omega
      · rw [ByteArray.size_append, ByteArray.size_append, HHD.out]
        have := HS9.out
        have e : (joinOf x.tk.ch).size ≤ 1472 := size_join HCH.out HSM.out.chl
        omega
    clear hM hZ hchI husI hsm i1 i2 i3 i4 i5 hg1 z1 hg2 z2 hg3 z3 hg4 z4 hg5 z5 hs1 y1 hs2 y2 hs3 y3 hs4 y4 hs5 y5 hs6 y6 hs7 y7 hs8 y8 hs9 y9 ksTask ksC ksD ksT ksP ksChunks ksUse hr hx HLT
    go_enter Tryd.func18, Tryd.ntmps18
    go_upto_region 1 with fail
    refine gen_world (fun v => Below w.heap.size w v ∧ AtB v w.heap.size x) ⟨bw_alloc (Below.refl _ _) _, atB_new w x _⟩ ?_
    intro u0 ⟨hb0, ht0⟩
    have B0 := Lib.hid hb0
    have T0 := Lib.hid ht0
    obtain ⟨c0, c1, c2, c3, c4, c5, c6⟩ := ht0
    clear hb0
    go_upto_region 3 with (go_at_call 33; (with_reducible refine (CR.out _ B0.out).mono ?_); rintro e u1 ⟨rfl, b1⟩; have B1 := Lib.hid (below_up B0.out b1); have T1 := Lib.hid (T0.out.below b1); clear b1)
    clear CR B0 T0 c0 c1 c2 c3 c4 c5 c6
    have MK : Hid (∀ v, Below u1.heap.size u1 v → (Below u1.heap.size u1 v ∧ v.cell? ⟨w.heap.size, 0, none⟩ = some (.int .i64 x.id) ∧ v.cell? ⟨w.heap.size, 1, none⟩ = some (.int .i64 x.c) ∧ v.cell? ⟨w.heap.size, 2, none⟩ = some (.int .i64 x.d) ∧ v.cell? ⟨w.heap.size, 3, none⟩ = some (.int .i64 x.t) ∧ v.cell? ⟨w.heap.size, 4, none⟩ = some (.int .i64 x.p))) := fun v hb => ⟨hb, kept_cell hb T1.out.c0, kept_cell hb T1.out.c1, kept_cell hb T1.out.c2, kept_cell hb T1.out.c3, kept_cell hb T1.out.c4⟩
    have E1 : Hid (∀ v, Below u1.heap.size u1 v → Calls Tryd.prog 17 #[.int .i64 x.id] v fun e w' => e = .returned (.string g1) ∧ Below u1.heap.size u1 w') := fun v hb => (D1.out v).mono fun _ _ ⟨h1, h2⟩ => ⟨h1, below_up hb h2⟩
    have E2 : Hid (∀ v, Below u1.heap.size u1 v → Calls Tryd.prog 17 #[.int .i64 x.c] v fun e w' => e = .returned (.string g2) ∧ Below u1.heap.size u1 w') := fun v hb => (D2.out v).mono fun _ _ ⟨h1, h2⟩ => ⟨h1, below_up hb h2⟩
    have E3 : Hid (∀ v, Below u1.heap.size u1 v → Calls Tryd.prog 17 #[.int .i64 x.d] v fun e w' => e = .returned (.string g3) ∧ Below u1.heap.size u1 w') := fun v hb => (D3.out v).mono fun _ _ ⟨h1, h2⟩ => ⟨h1, below_up hb h2⟩
    have E4 : Hid (∀ v, Below u1.heap.size u1 v → Calls Tryd.prog 17 #[.int .i64 x.t] v fun e w' => e = .returned (.string g4) ∧ Below u1.heap.size u1 w') := fun v hb => (D4.out v).mono fun _ _ ⟨h1, h2⟩ => ⟨h1, below_up hb h2⟩
    have E5 : Hid (∀ v, Below u1.heap.size u1 v → Calls Tryd.prog 17 #[.int .i64 x.p] v fun e w' => e = .returned (.string g5) ∧ Below u1.heap.size u1 w') := fun v hb => (D5.out v).mono fun _ _ ⟨h1, h2⟩ => ⟨h1, below_up hb h2⟩
    have a1 := A1.out
    have a2 := A2.out
    have a3 := A3.out
    have a4 := A4.out
    have a5 := A5.out
    have a6 := A6.out
    have a7 := A7.out
    have a8 := A8.out
    have a9 := A9.out
    go_cut [3] from 9 to 32 (fun u wx => u = .string s9 ∧ Hid (Below u1.heap.size u1 wx))
    case first =>
      go_region_held3 (fun v => Below u1.heap.size u1 v ∧ v.cell? ⟨w.heap.size, 0, none⟩ = some (.int .i64 x.id) ∧ v.cell? ⟨w.heap.size, 1, none⟩ = some (.int .i64 x.c) ∧ v.cell? ⟨w.heap.size, 2, none⟩ = some (.int .i64 x.d) ∧ v.cell? ⟨w.heap.size, 3, none⟩ = some (.int .i64 x.t) ∧ v.cell? ⟨w.heap.size, 4, none⟩ = some (.int .i64 x.p)) (exact MK.out _ (by repeat (first | exact Below.refl _ _ | (with_reducible assumption) | refine bw_alloc ?_ _ | refine bw_drew ?_))) (first
        | (go_at_call 17; (with_reducible refine (E1.out _ (by repeat (first | exact Below.refl _ _ | (with_reducible assumption) | refine bw_alloc ?_ _ | refine bw_drew ?_))).mono ?_); rintro e wx ⟨rfl, bx⟩)
        | (go_at_call 17; (with_reducible refine (E2.out _ (by repeat (first | exact Below.refl _ _ | (with_reducible assumption) | refine bw_alloc ?_ _ | refine bw_drew ?_))).mono ?_); rintro e wx ⟨rfl, bx⟩)
        | (go_at_call 17; (with_reducible refine (E3.out _ (by repeat (first | exact Below.refl _ _ | (with_reducible assumption) | refine bw_alloc ?_ _ | refine bw_drew ?_))).mono ?_); rintro e wx ⟨rfl, bx⟩)
        | (go_at_call 17; (with_reducible refine (E4.out _ (by repeat (first | exact Below.refl _ _ | (with_reducible assumption) | refine bw_alloc ?_ _ | refine bw_drew ?_))).mono ?_); rintro e wx ⟨rfl, bx⟩)
        | (go_at_call 17; (with_reducible refine (E5.out _ (by repeat (first | exact Below.refl _ _ | (with_reducible assumption) | refine bw_alloc ?_ _ | refine bw_drew ?_))).mono ?_); rintro e wx ⟨rfl, bx⟩))
      all_goals
        go_wp2_with fail
        go_meet
        exact ⟨rfl, Lib.hid (by assumption)⟩
    case rest =>
      obtain ⟨rfl, HB2⟩ := hcut
      have T2 := Lib.hid (T1.out.below HB2.out)
      have B2 := Lib.hid (below_up B1.out HB2.out)
      clear MK E1 E2 E3 E4 E5 D1 D2 D3 D4 D5 A1 A2 A3 A4 A5 A6 A7 A8 A9 a1 a2 a3 a4 a5 a6 a7 a8 a9 T1 B1 HB2
      have c5 := T2.out.c5
      obtain ⟨N, hN⟩ : ∃ N, x.ch.length = N := ⟨_, rfl⟩
      rw [hN] at c5
      go_upto_if 36 with fail
      go_cut [3] from 36 to 42 (fun u wy => u = .string M ∧ Hid (Below w.heap.size w wy) ∧ Hid (AtB wy w.heap.size x))
      case first =>
        by_cases hc : x.ch = []
        · have hM : Hid (M = s9) := by show _ = _; rw [← HM.out, ← HHD.out]; unfold midOf; rw [if_pos (show x.tk.ch = [] from hc)]
          have hl0 : N = 0 := by rw [← hN, hc]; rfl
          have hl1 : ¬ (0 : Int) < (N : Int) := by omega
          clear hl0 hc hN
          go_wp2_with fail
          go_meet
          exact ⟨by rw [hM.out], B2, T2⟩
        · have hlp : 0 < x.ch.length := List.length_pos_iff.2 hc
          obtain ⟨q, hq⟩ : ∃ q, joinOf x.ch = q := ⟨_, rfl⟩
          obtain ⟨m1, hm1⟩ : ∃ m, s9 ++ sChunks = m := ⟨_, rfl⟩
          have hM : m1 ++ q = M := by rw [← HM.out]; unfold midOf; rw [if_neg (show ¬ x.tk.ch = [] from hc), HHD.out, hm1]; show m1 ++ q = m1 ++ joinOf x.ch; rw [hq]
          have hqs : q.size ≤ 1472 := by rw [← hq]; exact size_join HCH.out HSM.out.chl
          have k8 : sChunks.size = 8 := rfl
          have hm1s : m1.size = s9.size + 8 := by rw [← hm1, ByteArray.size_append, k8]
          have CJ : Hid (∀ v, Below w.heap.size w v → Calls Tryd.prog 35 #[.slice x.a1 N x.c1] v fun e w' => e = .returned (.string q) ∧ Below v.heap.size v w') := fun v hb => by
            have := rjoin_any x.a1 N x.c1 x.ch hN (by have := HSM.out.chl; omega) HCH.out v (HX.out.one.below hb)
            rwa [hq] at this
          have b1 := add_str s9 sChunks m1 hm1 (by have := HS9.out; omega)
          have b2 := add_str m1 q M hM (by have := HS9.out; omega)
          rw [hN] at hlp
          have hlp2 : (0 : Int) < (N : Int) := by omega
          clear hN hq hm1 hM hqs k8 hm1s hc
          go_wp2_with (go_at_call 35; (with_reducible refine (CJ.out _ B2.out).mono ?_); rintro e wx ⟨rfl, bx⟩; have B3 := Lib.hid (below_up B2.out bx); have T3 := Lib.hid (T2.out.below bx); clear bx)
          go_meet
          exact ⟨rfl, B3, T3⟩
      case rest =>
        clear B2 T2 c5
        obtain ⟨rfl, B3, T3⟩ := hcut
        have c6 := T3.out.c6
        by_cases hu : x.us = []
        · have hZ : Hid (Z = M) := by show _ = _; rw [← HZ.out, ← HM.out]; unfold wholeOf; rw [if_pos (show x.tk.us = [] from hu)]
          have hl0 : x.us.length = 0 := by rw [hu]; rfl
          rw [hl0] at c6
          clear hl0 hu
          go_wp2_with fail
          go_ret
          exact ⟨by rw [HL.out, HZ.out, hZ.out]; rfl, B3.out⟩
        · have hlp : 0 < x.us.length := List.length_pos_iff.2 hu
          have hl64 := HSM.out.usl
          obtain ⟨K, hK⟩ : ∃ K, x.us.length = K := ⟨_, rfl⟩
          obtain ⟨q, hq⟩ : ∃ q, joinOf x.us = q := ⟨_, rfl⟩
          obtain ⟨m1, hm1⟩ : ∃ m, M ++ sUse = m := ⟨_, rfl⟩
          have hZ : m1 ++ q = Z := by rw [← HZ.out]; unfold wholeOf; rw [if_neg (show ¬ x.tk.us = [] from hu), HM.out, hm1]; show m1 ++ q = m1 ++ joinOf x.us; rw [hq]
          have hqs : q.size ≤ 1472 := by rw [← hq]; exact size_join HUS.out HSM.out.usl
          have k5 : sUse.size = 5 := rfl
          have hm1s : m1.size = M.size + 5 := by rw [← hm1, ByteArray.size_append, k5]
          have a1 := Lib.hid (add_str M sUse m1 hm1 (by have := HMS.out; omega))
          have a2 := Lib.hid (add_str m1 q Z hZ (by have := HMS.out; omega))
          rw [hK] at c6 hlp hl64
          have hlp2 : (0 : Int) < (K : Int) := by omega
          have CJ : Hid (∀ (a : Option Addr) (c : Nat) v, Ints v a x.us → Calls Tryd.prog 35 #[.slice a K c] v fun e w' => e = .returned (.string q) ∧ Below v.heap.size v w') := fun a c v hi => by
            have := rjoin_any a K c x.us hK (by omega) HUS.out v hi
            rwa [hq] at this
          have HK := Lib.hid hK
          have HX2 : Hid (∀ v, Below w.heap.size w v → Ints v x.a2 x.us) := fun v hb => HX.out.two.below hb
          have hdK : decide (0 < K) = true := by rw [decide_eq_true_eq]; exact hlp
          clear hq hm1 hZ hqs k5 hm1s hu hlp hN hK
          go_wp2_with fail
          try rw [hdK]
          try rw [show decide ((0 : Int) < (K : Int)) = true from decide_eq_true hlp2]
          go_loopw [4, 5] (fun v u wr => ∃ (k : Nat) (a' : Option Addr) (cp' : Nat), k ≤ K ∧ u = .int .i64 k ∧ v = .slice a' k cp' ∧ Hid (Below w.heap.size w wr) ∧ Hid (AtB wr w.heap.size x) ∧ Hid (OwnI wr 2 (w.heap.size + 1) (.slice a' k cp') (x.us.take k))) (fun _ u _ => (K - intOf u).toNat)
          case atStart => exact ⟨0, _, _, by omega, rfl, rfl, B3, T3, OwnI.nil _ _ _⟩
          case round =>
            obtain ⟨k, a', cp', hk, rfl, rfl, HB, HT, HP⟩ := hrel
            clear B3 T3 c6
            have c6 := HT.out.c6
            rw [HK.out] at c6
            by_cases hlt : k < K
            · obtain ⟨y, hy⟩ := nth_of HK.out hlt
              obtain ⟨g, o, eq, z0⟩ := (HX2.out wr HB.out).at_ hy
              rw [eq] at c6
              have hk1 : (k : Int) < (K : Int) := by omega
              have hk0 : (0 : Int) ≤ (k : Int) := by omega
              have HTL : Hid ((x.us.take k).length = k) := by show _ = _; rw [List.length_take, HK.out]; omega
              have HT2 : Hid (x.us.take k ++ [y] = x.us.take (k + 1)) := by show _ = _; rw [List.take_add_one, hy]; rfl
              have HSM2 : Hid ((((x.us.take k).length : Int) + ((1 : Nat) : Int)) ≤ 17592186044416) := by show _ ≤ _; rw [HTL.out]; omega
              have HNN : Hid ((x.us.take k).length + 1 = k + 1) := by show _ = _; rw [HTL.out]
              have hwr : w.heap.size < wr.heap.size := block_of_cell HT.out.c0
              have HSZ : Hid (w.heap.size + 1 ≤ (wr.alloc (.cells #[.int .i64 y] 2)).heap.size) := by show _ ≤ _; rw [World.size_alloc]; omega
              have HG : Hid (∀ w3, Below (w.heap.size + 1) wr w3 → Below w.heap.size w w3 ∧ AtB w3 w.heap.size x) := fun w3 h3 => ⟨HB.out.trans (h3.mono (by omega)), HT.out.belowB h3 (by omega)⟩
              clear hy eq
              go_wp2_with (at_builtin; refine wp_ints (m := 1) (l := [y]) numL rfl _ _ rfl rfl rfl (HP.out.below (by repeat (first | exact Below.refl _ _ | (with_reducible assumption) | refine bw_alloc ?_ _ | refine bw_drew ?_))) HSZ.out (ints_new _ _ _) rfl HSM2.out (fun z => by cases z) (k + 1) HNN.out ?_; intro a3 k3 w3 o3 g3 l3; have HO := Lib.hid (HT2.out ▸ o3); have HG3 := HG.out w3 (growni_new (((by repeat (first | exact Below.refl _ _ | (with_reducible assumption) | refine bw_alloc ?_ _ | refine bw_drew ?_)) : Below wr.heap.size wr _).mono hwr) (HP.out.below (by repeat (first | exact Below.refl _ _ | (with_reducible assumption) | refine bw_alloc ?_ _ | refine bw_drew ?_))) HSZ.out g3); have HB3 := Lib.hid HG3.1; have HT3 := Lib.hid HG3.2; clear o3 g3 l3 HG3)
              go_roundw
              case rel => first | exact ⟨k + 1, a3, k3, by omega, by go_num, rfl, HB3, HT3, HO⟩ | (simp only [hdK]; exact ⟨_, _, _, _, _, _, _, _, _, _, _, _, _, _, _, _, _, ⟨k + 1, a3, k3, by omega, by go_num, rfl, HB3, HT3, HO⟩, rfl⟩)
              case measure => simp [intOf]; omega
            · obtain rfl : K = k := by omega
              have HTT : Hid (x.us.take K = x.us) := by show _ = _; rw [← HK.out, List.take_length]
              have HI : Hid (Ints wr a' x.us) := by have := HP.out.ints.1; rwa [HTT.out] at this
              have b1 := a1.out
              have b2 := a2.out
              clear HTT HP hlt hk
              go_wp2_with (go_at_call 35; (with_reducible refine (CJ.out _ _ _ HI.out).mono ?_); rintro e wx ⟨rfl, bx⟩; have B4 := Lib.hid (below_up HB.out bx); clear bx)
              go_ret
              exact ⟨by rw [HL.out, HZ.out]; rfl, B4.out⟩
end Go.Proofs.YtlpffgmfgkleiaaDoor

/-
  A system as a text, in plain words; the walk over the document's own.
-/
namespace Go.Proofs.YtlpffgmfgkleiaaDoor
open Go.RowKit Go.Maps

abbrev sCache : ByteArray := ⟨#[99, 97, 99, 104, 101, 32]⟩
abbrev sSp : ByteArray := ⟨#[32]⟩
abbrev sNl : ByteArray := ⟨#[10]⟩
def headText (S R : Int) : ByteArray := sCache ++ digOf S ++ sSp ++ digOf R ++ sNl
def printRun (h : ByteArray) : List Tk → ByteArray
  | [] => h
  | t :: l => printRun (h ++ lineText t ++ sNl) l
/-- A system as a text; of one that is wrong none. -/
def printText (S R : Int) (l : List Tk) : ByteArray := if checkT S R l = 0 then printRun (headText S R) l else ⟨#[]⟩
theorem run_snoc (t : Tk) : ∀ (l : List Tk) (h : ByteArray), printRun h (l ++ [t]) = printRun h l ++ lineText t ++ sNl
  | [], _ => rfl
  | x :: l, h => by rw [List.cons_append, printRun, printRun, run_snoc t l]
theorem run_next {l : List Tk} {k : Nat} {t : Tk} (ht : l[k]? = some t) (h : ByteArray) : printRun h (l.take (k + 1)) = printRun h (l.take k) ++ lineText t ++ sNl := by
  rw [List.take_add_one, ht]
  exact run_snoc t _ h
theorem line_size (x : TV) : (lineText x.tk).size ≤ 3400 := by
  unfold lineText
  by_cases h : rightOf x.tk.tv 256 = 0
  rotate_left
  · rw [if_neg h]; exact Nat.zero_le _
  rw [if_pos h]
  have hs := small_of (x := x) (s := 256) h (by omega)
  have e1 := hs.id
  have e2 := hs.p
  have e3 := hs.c
  have e4 := hs.d
  have z1 := digOf_size x.tk.id (by unfold I64; show _ ≤ x.id ∧ x.id ≤ _; omega)
  have z2 := digOf_size x.tk.c (by unfold I64; show _ ≤ x.c ∧ x.c ≤ _; omega)
  have z3 := digOf_size x.tk.d (by unfold I64; show _ ≤ x.d ∧ x.d ≤ _; omega)
  have z4 := digOf_size x.tk.t (by unfold I64; show _ ≤ x.t ∧ x.t ≤ _; omega)
  have z5 := digOf_size x.tk.p (by unfold I64; show _ ≤ x.p ∧ x.p ≤ _; omega)
  have hh : (headOf x.tk).size ≤ 200 := by
    unfold headOf
    simp only [ByteArray.size_append]
    have k1 : sTask.size = 5 := rfl
    have k2 : sC.size = 3 := rfl
    have k3 : sD.size = 3 := rfl
    have k4 : sT.size = 3 := rfl
    have k5 : sP.size = 3 := rfl
    omega
  have hj1 := size_join (l := x.ch) (fun y hy => by have := hs.ch y hy; unfold I64; omega) hs.chl
  have hj2 := size_join (l := x.us) (fun y hy => by have := hs.us y hy; unfold I64; omega) hs.usl
  have hm : (midOf x.tk).size ≤ 1680 := by
    unfold midOf
    split
    · omega
    · simp only [ByteArray.size_append]
      have k1 : sChunks.size = 8 := rfl
      have : (joinOf x.tk.ch).size ≤ 1472 := hj1
      omega
  unfold wholeOf
  split
  · omega
  · simp only [ByteArray.size_append]
    have k1 : sUse.size = 5 := rfl
    have : (joinOf x.tk.us).size ≤ 1472 := hj2
    omega
theorem run_size (h : ByteArray) (L : List TV) (k : Nat) : (printRun h ((L.map TV.tk).take k)).size ≤ h.size + 3401 * k := by
  induction k with
  | zero => rw [List.take_zero]; exact Nat.le_refl _
  | succ k ih =>
    cases hx : L[k]? with
    | none =>
      have : L.length ≤ k := List.getElem?_eq_none_iff.1 hx
      rw [List.take_of_length_le (by rw [List.length_map]; omega)]
      rw [List.take_of_length_le (by rw [List.length_map]; omega)] at ih
      omega
    | some x =>
      rw [run_next (t := x.tk) (by rw [List.getElem?_map, hx]; rfl), ByteArray.size_append, ByteArray.size_append]
      have h1 := line_size x
      have h2 : sNl.size = 1 := rfl
      omega
/-- What is right by its system. -/
theorem first_all {s : Int} : ∀ (L : List TV) (last : Int) (seen : List Int), firstOf s last seen L = 0 → ∀ x ∈ L, rightOf x s = 0
  | [], _, _, _, x, hx => by cases hx
  | y :: L, last, seen, h, x, hx => by
    rw [firstOf] at h
    by_cases h1 : rightOf y s = 0
    rotate_left
    · rw [if_pos h1] at h; exact absurd h h1
    rw [if_neg (fun z => z h1)] at h
    split at h
    · cases h
    · split at h
      · cases h
      · rcases List.mem_cons.1 hx with rfl | hx
        · exact h1
        · exact first_all L _ _ h x hx
structure CheckOk (S R : Int) (L : List TV) : Prop where
  s : 0 ≤ S ∧ S ≤ 256
  r : 0 ≤ R ∧ R ≤ 1000
  pos : 0 < L.length
  most : L.length ≤ 64
  all : ∀ x ∈ L, rightOf x S = 0
  first : firstOf S 0 [] L = 0
theorem check_pass {S R : Int} {L : List TV} (h : checkOf S R L = 0) : CheckOk S R L := by
  unfold checkOf at h
  split at h
  · cases h
  · rename_i hb
    unfold sysBad at hb
    split at h
    · cases h
    · exact ⟨by omega, by omega, by omega, by omega, first_all L _ _ h, h⟩
theorem print_tk (S R : Int) (L : List TV) : printText S R (L.map TV.tk) = if checkOf S R L = 0 then printRun (headText S R) (L.map TV.tk) else ⟨#[]⟩ := by
  unfold printText; rw [check_tk]
theorem print_size (S R : Int) (L : List TV) : (printText S R (L.map TV.tk)).size ≤ 300000 := by
  rw [print_tk]
  by_cases h : checkOf S R L = 0
  rotate_left
  · rw [if_neg h]; exact Nat.zero_le _
  rw [if_pos h]
  have q := check_pass h
  have := run_size (headText S R) L L.length
  rw [List.take_of_length_le (by rw [List.length_map]; omega)] at this
  have h2 : (headText S R).size ≤ 60 := by
    unfold headText
    have z1 := digOf_size S (by have := q.s; unfold I64; omega)
    have z2 := digOf_size R (by have := q.r; unfold I64; omega)
    simp only [ByteArray.size_append]
    have k1 : sCache.size = 6 := rfl
    have k2 : sSp.size = 1 := rfl
    have k3 : sNl.size = 1 := rfl
    omega
  have := q.most
  omega

set_option maxRecDepth 100000 in
set_option maxHeartbeats 4000000 in
theorem rprint_any {w : World} {a : Option Addr} {n cap : Nat} {L : List TV} (S R : Int) (ha : Tasks w a n cap L) : Calls Tryd.prog 10 #[.agg #[.int .i64 S, .int .i64 R, .slice a n cap]] w fun e w' => e = .returned (.string (printText S R (L.map TV.tk))) ∧ Below w.heap.size w w' := by
  have CK : Hid (∀ v, Below w.heap.size w v → Calls Tryd.prog 16 #[.agg #[.int .i64 S, .int .i64 R, .slice a n cap]] v fun e w' => e = .returned (.int .i64 (checkOf S R L)) ∧ Below v.heap.size v w') := fun v hb => rcheck_any S R (ha.below hb)
  have HA := Lib.hid ha
  have HPT : Hid (printText S R (L.map TV.tk) = if checkOf S R L = 0 then printRun (headText S R) (L.map TV.tk) else ⟨#[]⟩) := print_tk S R L
  by_cases hr : checkOf S R L = 0
  rotate_left
  · obtain ⟨E, hE⟩ : ∃ E, checkOf S R L = E := ⟨_, rfl⟩
    rw [hE] at CK hr
    have HL : Hid (printText S R (L.map TV.tk) = ⟨#[]⟩) := by show _ = _; rw [HPT.out, if_neg (by rw [hE]; exact hr)]
    have d1 : (E == 0) = false := by rw [beq_eq_false_iff_ne]; exact hr
    have d2 : (E != 0) = true := by rw [bne, d1]; rfl
    clear HPT hE hr ha
    go_enter Tryd.func10, Tryd.ntmps10
    go_upto_region 1 with fail
    refine gen_world (SysB w w.heap.size S R a n cap) sysB_new ?_
    intro u0 h0
    have H0 := Lib.hid h0
    obtain ⟨-, c0, c1, c2⟩ := h0
    go_wp2_with (go_at_call 16; (with_reducible refine (CK.out _ H0.out.low).mono ?_); rintro e u1 ⟨rfl, b1⟩; have B1 := Lib.hid (below_up H0.out.low b1); clear b1)
    go_ret
    exact ⟨by rw [HL.out]; rfl, B1.out⟩
  · have hq := check_pass hr
    have HL : Hid (printText S R (L.map TV.tk) = printRun (headText S R) (L.map TV.tk)) := by show _ = _; rw [HPT.out, if_pos hr]
    rw [hr] at CK
    have i1 : I64 S := by have := hq.s; unfold I64; omega
    have i2 : I64 R := by have := hq.r; unfold I64; omega
    have hn : L.length = n := ha.len
    have hn64 : n ≤ 64 := by have := hq.most; omega
    obtain ⟨g1, hg1⟩ : ∃ g, digOf S = g := ⟨_, rfl⟩
    have z1 : g1.size ≤ 22 := by rw [← hg1]; exact digOf_size _ i1
    have D1 : Hid (∀ v, Calls Tryd.prog 17 #[.int .i64 S] v fun e w' => e = .returned (.string g1) ∧ Below v.heap.size v w') := fun v => by have := rdigits_any S i1 v; rwa [hg1] at this
    obtain ⟨g2, hg2⟩ : ∃ g, digOf R = g := ⟨_, rfl⟩
    have z2 : g2.size ≤ 22 := by rw [← hg2]; exact digOf_size _ i2
    have D2 : Hid (∀ v, Calls Tryd.prog 17 #[.int .i64 R] v fun e w' => e = .returned (.string g2) ∧ Below v.heap.size v w') := fun v => by have := rdigits_any R i2 v; rwa [hg2] at this
    have kCache : sCache.size = 6 := rfl
    have kSp : sSp.size = 1 := rfl
    have kNl : sNl.size = 1 := rfl
    obtain ⟨s1, hs1⟩ : ∃ s, sCache ++ g1 = s := ⟨_, rfl⟩
    have y1 : s1.size = sCache.size + g1.size := by rw [← hs1, ByteArray.size_append]
    obtain ⟨s2, hs2⟩ : ∃ s, s1 ++ sSp = s := ⟨_, rfl⟩
    have y2 : s2.size = s1.size + sSp.size := by rw [← hs2, ByteArray.size_append]
    obtain ⟨s3, hs3⟩ : ∃ s, s2 ++ g2 = s := ⟨_, rfl⟩
    have y3 : s3.size = s2.size + g2.size := by rw [← hs3, ByteArray.size_append]
    obtain ⟨s4, hs4⟩ : ∃ s, s3 ++ sNl = s := ⟨_, rfl⟩
    have y4 : s4.size = s3.size + sNl.size := by rw [← hs4, ByteArray.size_append]
    have A1 := Lib.hid (add_str sCache g1 s1 hs1 (by omega))
    have A2 := Lib.hid (add_str s1 sSp s2 hs2 (by omega))
    have A3 := Lib.hid (add_str s2 g2 s3 hs3 (by omega))
    have A4 := Lib.hid (add_str s3 sNl s4 hs4 (by omega))
    have HHD : Hid (headText S R = s4) := by
      show _ = _
      unfold headText
      rw [hg1, hg2, hs1, hs2, hs3, hs4]
    have HS4 : Hid (s4.size ≤ 60) := by show _ ≤ _; omega
    have HRL : Hid (∀ x ∈ L, rightOf x 256 = 0 → True) := fun _ _ _ => trivial
    have HRS : Hid (∀ k, (printRun s4 ((L.map TV.tk).take k)).size ≤ s4.size + 3401 * k) := fun k => run_size s4 L k
    rw [HHD.out] at HL
    clear i1 i2 hg1 hg2 z1 z2 hs1 hs2 hs3 hs4 y1 y2 y3 y4 kCache kSp kNl HRL hq hr HPT HHD ha
    have HN := Lib.hid hn
    clear hn
    go_enter Tryd.func10, Tryd.ntmps10
    go_upto_region 1 with fail
    refine gen_world (SysB w w.heap.size S R a n cap) sysB_new ?_
    intro u0 h0
    have H0 := Lib.hid h0
    obtain ⟨-, c0, c1, c2⟩ := h0
    go_upto_region 3 with (go_at_call 16; (with_reducible refine (CK.out _ H0.out.low).mono ?_); rintro e u1 ⟨rfl, b1⟩; have H1 := Lib.hid (H0.out.below b1); clear b1)
    clear CK H0 c0 c1 c2
    have MK : Hid (∀ v, Below u1.heap.size u1 v → (Below u1.heap.size u1 v ∧ v.cell? ⟨w.heap.size, 0, none⟩ = some (.int .i64 S) ∧ v.cell? ⟨w.heap.size, 1, none⟩ = some (.int .i64 R))) := fun v hb => ⟨hb, kept_cell hb H1.out.s0, kept_cell hb H1.out.s1⟩
    have E1 : Hid (∀ v, Below u1.heap.size u1 v → Calls Tryd.prog 17 #[.int .i64 S] v fun e w' => e = .returned (.string g1) ∧ Below u1.heap.size u1 w') := fun v hb => (D1.out v).mono fun _ _ ⟨h1, h2⟩ => ⟨h1, below_up hb h2⟩
    have E2 : Hid (∀ v, Below u1.heap.size u1 v → Calls Tryd.prog 17 #[.int .i64 R] v fun e w' => e = .returned (.string g2) ∧ Below u1.heap.size u1 w') := fun v hb => (D2.out v).mono fun _ _ ⟨h1, h2⟩ => ⟨h1, below_up hb h2⟩
    have a1 := A1.out
    have a2 := A2.out
    have a3 := A3.out
    have a4 := A4.out
    go_cut [3] from 8 to 18 (fun u wx => u = .string s4 ∧ Hid (Below u1.heap.size u1 wx))
    case first =>
      go_region_held3 (fun v => Below u1.heap.size u1 v ∧ v.cell? ⟨w.heap.size, 0, none⟩ = some (.int .i64 S) ∧ v.cell? ⟨w.heap.size, 1, none⟩ = some (.int .i64 R)) (exact MK.out _ (by repeat (first | exact Below.refl _ _ | (with_reducible assumption) | refine bw_alloc ?_ _ | refine bw_drew ?_))) (first
        | (go_at_call 17; (with_reducible refine (E1.out _ (by repeat (first | exact Below.refl _ _ | (with_reducible assumption) | refine bw_alloc ?_ _ | refine bw_drew ?_))).mono ?_); rintro e wx ⟨rfl, bx⟩)
        | (go_at_call 17; (with_reducible refine (E2.out _ (by repeat (first | exact Below.refl _ _ | (with_reducible assumption) | refine bw_alloc ?_ _ | refine bw_drew ?_))).mono ?_); rintro e wx ⟨rfl, bx⟩))
      all_goals
        go_wp2_with fail
        go_meet
        exact ⟨rfl, Lib.hid (by assumption)⟩
    case rest =>
      obtain ⟨rfl, HB2⟩ := hcut
      have H2 := Lib.hid (H1.out.below HB2.out)
      clear MK E1 E2 D1 D2 A1 A2 A3 A4 a1 a2 a3 a4 H1 HB2
      go_wp2_with fail
      go_loopw [3, 4] (fun v u wr => ∃ (k : Nat), k ≤ n ∧ u = .int .i64 k ∧ v = .string (printRun s4 ((L.map TV.tk).take k)) ∧ Hid (SysB w w.heap.size S R a n cap wr)) (fun _ u _ => (n - intOf u).toNat)
      case atStart => exact ⟨0, by omega, rfl, rfl, H2⟩
      case round =>
        obtain ⟨k, hk, rfl, rfl, HP⟩ := hrel
        clear H2
        obtain ⟨_, q0, q1, q2⟩ := HP.out
        by_cases hlt : k < n
        · obtain ⟨x, hx⟩ := nth_of HA.out.len hlt
          obtain ⟨g, o, rfl, ⟨c0, c1, c2, c3, c4, c5, c6⟩⟩ := (HA.out.view.below HP.out.low).at_ hx
          have hk1 : (k : Int) < (n : Int) := by omega
          have hk0 : (0 : Int) ≤ (k : Int) := by omega
          obtain ⟨X, hX⟩ : ∃ X, printRun s4 ((L.map TV.tk).take k) = X := ⟨_, rfl⟩
          obtain ⟨Y, hY⟩ : ∃ Y, lineText x.tk = Y := ⟨_, rfl⟩
          obtain ⟨m1, hm1⟩ : ∃ m, X ++ Y = m := ⟨_, rfl⟩
          obtain ⟨m2, hm2⟩ : ∃ m, m1 ++ sNl = m := ⟨_, rfl⟩
          have HNX : Hid (printRun s4 ((L.map TV.tk).take (k + 1)) = m2) := by
            show _ = _
            rw [run_next (t := x.tk) (by rw [List.getElem?_map, hx]; rfl), hX, hY, hm1, hm2]
          have hYs : Y.size ≤ 3400 := by rw [← hY]; exact line_size x
          have hXs : X.size ≤ s4.size + 3401 * k := by rw [← hX]; exact HRS.out k
          have hm1s : m1.size = X.size + Y.size := by rw [← hm1, ByteArray.size_append]
          have k1 : sNl.size = 1 := rfl
          have b1 := add_str X Y m1 hm1 (by have := HS4.out; omega)
          have b2 := add_str m1 sNl m2 hm2 (by have := HS4.out; omega)
          have CL : Hid (∀ v, Below wr.heap.size wr v → Calls Tryd.prog 18 #[x.val] v fun e w' => e = .returned (.string Y) ∧ Below v.heap.size v w') := fun v hb => by
            have := rtext_any x v (((HA.out.ok.at_ hx).below HP.out.low).below hb)
            rwa [hY] at this
          unfold TV.val at CL
          rw [hX]
          clear hx hX hY hm1 hm2 hYs hXs hm1s k1
          go_wp2_with (go_at_call 18; (with_reducible refine (CL.out _ (by repeat (first | exact Below.refl _ _ | (with_reducible assumption) | refine bw_alloc ?_ _ | refine bw_drew ?_))).mono ?_); rintro e w2 ⟨rfl, b2⟩; have HP2 := Lib.hid (HP.out.below b2); clear b2)
          go_roundw
          case rel => exact ⟨k + 1, by omega, by go_num, by rw [HNX.out], HP2⟩
          case measure => simp [intOf]; omega
        · obtain rfl : n = k := by omega
          have HT : Hid (printRun s4 ((L.map TV.tk).take n) = printText S R (L.map TV.tk)) := by
            show _ = _
            rw [HL.out, List.take_of_length_le (by rw [List.length_map, HN.out]; exact Nat.le_refl _)]
          rw [HT.out]
          go_wp2_with fail
          go_ret
          exact ⟨rfl, HP.out.low⟩
end Go.Proofs.YtlpffgmfgkleiaaDoor

/-
  The walk over the system that a statement's plain numbers mean.
-/
namespace Go.Proofs.YtlpffgmfgkleiaaDoor
open Go.RowKit Go.Maps

/-- Plain numbers in a box, a system that comes back, plain numbers that are being made. -/
structure CopyAt (w : World) (S R : Int) (a : Option Addr) (n cap : Nat) (v : Value) (M : List NV) (W : World) : Prop where
  low : Below w.heap.size w W
  src : W.heap[w.heap.size]? = some (.cells #[.int .i64 S, .int .i64 R, .slice a n cap] 24 (0, 0))
  res : W.heap[w.heap.size + 1]? = some (.cells #[.int .i64 0, .int .i64 0, .slice none 0 0] 32 (0, 0))
  box : W.heap[w.heap.size + 2]? = some (.cells #[.int .i64 S, .int .i64 R, v] 57 (0, 0))
  own : OwnN W (w.heap.size + 3) v M
theorem CopyAt.below {w W W' : World} {S R : Int} {a : Option Addr} {n cap : Nat} {v : Value} {M : List NV} (h : CopyAt w S R a n cap v M W) (hb : Below W.heap.size W W') : CopyAt w S R a n cap v M W' :=
  ⟨below_up h.low hb, kept_obj hb h.src, kept_obj hb h.res, kept_obj hb h.box, h.own.below hb⟩
theorem copyAt_new {w : World} {S R : Int} {a : Option Addr} {n cap : Nat} : CopyAt w S R a n cap (.slice none 0 0) [] (((w.alloc (.cells #[.int .i64 S, .int .i64 R, .slice a n cap] 24)).alloc (.cells #[.int .i64 0, .int .i64 0, .slice none 0 0] 32)).alloc (.cells #[.int .i64 S, .int .i64 R, .slice none 0 0] 57)) := by
  refine ⟨(by repeat (first | exact Below.refl _ _ | (with_reducible assumption) | refine bw_alloc ?_ _ | refine bw_drew ?_)), ?_, ?_, ?_, OwnN.nil _ _⟩
  · rw [Below.heap_alloc _ _ _ (by simp; omega), Below.heap_alloc _ _ _ (by simp)]; exact heap_alloc_new w _
  · rw [Below.heap_alloc _ _ _ (by simp)]
    have := heap_alloc_new (w.alloc (.cells #[.int .i64 S, .int .i64 R, .slice a n cap] 24)) (.cells #[.int .i64 0, .int .i64 0, .slice none 0 0] 32)
    rwa [World.size_alloc] at this
  · have := heap_alloc_new ((w.alloc (.cells #[.int .i64 S, .int .i64 R, .slice a n cap] 24)).alloc (.cells #[.int .i64 0, .int .i64 0, .slice none 0 0] 32)) (.cells #[.int .i64 S, .int .i64 R, .slice none 0 0] 57)
    rwa [World.size_alloc, World.size_alloc] at this
theorem OwnN.set {w : World} {B : Nat} {v : Value} {l : List NV} (h : OwnN w B v l) {a : Addr} (ha : a.block < B) (u : Value) : OwnN (w.setCell a u) B v l := ownsRow_setCell_below h ha u
theorem CopyAt.push {w W w3 : World} {S R : Int} {a : Option Addr} {n cap : Nat} {v v' : Value} {M M' : List NV} (h : CopyAt w S R a n cap v M W) (hg : W.grownBy w3 v.ownBlock) (ho : OwnN w3 (w.heap.size + 3) v' M') :
    CopyAt w S R a n cap v' M' (w3.setCell ⟨w.heap.size + 2, 2, none⟩ v') ∧ w3.cell? ⟨w.heap.size + 2, 2, none⟩ = some v ∧ w3.frozen? ⟨w.heap.size + 2, 2, none⟩ = false := by
  have hs : w.heap.size + 3 ≤ W.heap.size := lt_of_block h.box
  have hb : Below (w.heap.size + 3) W w3 := (Below.refl _ W).grown hg hs (fun k hk => (h.own.new hk).1)
  have h3 := kept_objB hb (by omega) h.box
  refine ⟨⟨(h.low.trans (hb.mono (by omega))).setCell (p := ⟨w.heap.size + 2, 2, none⟩) (by show _ ≤ _ + 2; omega) _, ?_, ?_, (blk_set h3 _).trans rfl, ho.set (by show _ + 2 < _; omega) _⟩, by rw [blk_cell h3]; rfl, blk_free h3 2⟩
  · rw [blk_far (a := ⟨w.heap.size + 2, 2, none⟩) (by show _ ≠ _ + 2; omega)]; exact kept_objB hb (by omega) h.src
  · rw [blk_far (a := ⟨w.heap.size + 2, 2, none⟩) (by show _ ≠ _ + 2; omega)]; exact kept_objB hb (by omega) h.res
theorem copy_done {w W W5 : World} {s r : Int} {a : Option Addr} {n c : Nat} {L : List TV} (hl : Below w.heap.size w W) (hb : Below W.heap.size W W5) (hres : W5.heap[w.heap.size + 1]? = some (.cells #[.int .i64 0, .int .i64 0, .slice none 0 0] 32 (0, 0))) (hrl : w.heap.size + 1 < W.heap.size)
    (ho : OwnT W5 W.heap.size (.slice a n c) L) (hok : AllOk W5 L) (hi : ∀ x ∈ L, IsI W5 x.a1 x.ch ∧ IsI W5 x.a2 x.us) (hm : Made s r L) (x0 x1 x2 : Value) :
    MadeBack w (.returned (.agg #[.int .i64 s, .int .i64 r, .slice a n c])) (((W5.setCell ⟨w.heap.size + 1, 0, none⟩ x0).setCell ⟨w.heap.size + 1, 1, none⟩ x1).setCell ⟨w.heap.size + 1, 2, none⟩ x2) := by
  have hb2 : Below w.heap.size w (((W5.setCell ⟨w.heap.size + 1, 0, none⟩ x0).setCell ⟨w.heap.size + 1, 1, none⟩ x1).setCell ⟨w.heap.size + 1, 2, none⟩ x2) :=
    (((below_up hl hb).setCell (p := ⟨w.heap.size + 1, 0, none⟩) (Nat.le_succ _) x0).setCell (p := ⟨w.heap.size + 1, 1, none⟩) (Nat.le_succ _) x1).setCell (p := ⟨w.heap.size + 1, 2, none⟩) (Nat.le_succ _) x2
  have ho2 := ((ho.set (a := ⟨w.heap.size + 1, 0, none⟩) hrl x0).set (a := ⟨w.heap.size + 1, 1, none⟩) hrl x1).set (a := ⟨w.heap.size + 1, 2, none⟩) hrl x2
  have hk : ∀ (b : Nat) (cs : Array Value) (T : TypeId) (fr : Nat × Nat), W5.heap[b]? = some (.cells cs T fr) → (T = 2 ∨ T = 3) → (((W5.setCell ⟨w.heap.size + 1, 0, none⟩ x0).setCell ⟨w.heap.size + 1, 1, none⟩ x1).setCell ⟨w.heap.size + 1, 2, none⟩ x2).heap[b]? = W5.heap[b]? := by
    intro b cs T fr hc hT
    have hne : b ≠ w.heap.size + 1 := by
      rintro rfl
      rw [hres] at hc
      simp at hc
      rcases hT with q | q <;> rw [q] at hc <;> exact absurd hc.2.1 (by decide)
    rw [blk_far (a := ⟨w.heap.size + 1, 2, none⟩) hne, blk_far (a := ⟨w.heap.size + 1, 1, none⟩) hne, blk_far (a := ⟨w.heap.size + 1, 0, none⟩) hne]
  exact ⟨s, r, a, n, c, L, rfl, ho2.low (by omega), fun x hx => (hok x hx).kept (hi x hx) hk, fun x hx => ⟨(hi x hx).1.kept hk, (hi x hx).2.kept hk⟩, hm, hb2⟩

set_option maxRecDepth 100000 in
set_option maxHeartbeats 4000000 in
theorem made5_any {w : World} {a : Option Addr} {n cap : Nat} {L : List NV} (S R : Int) (hn : Nums w a n cap L) :
    Calls Tryd.prog 11 #[.agg #[.int .i64 S, .int .i64 R, .slice a n cap]] w (MadeBack w) := by
  have HA := Lib.hid hn
  have hz := zeroSys
  have hn9 := hn.small
  clear hn
  go_enter Tryd.func11, Tryd.ntmps11
  go_wp2_with fail
  refine gen_world (CopyAt w S R a n cap (.slice none 0 0) []) copyAt_new ?_
  intro W1 hw1
  have H1 := Lib.hid hw1
  obtain ⟨m, hm⟩ : ∃ m, m = min n 6 := ⟨_, rfl⟩
  have hm1 : m ≤ n := by omega
  have hm6 : m ≤ 6 := by omega
  have hor : m = n ∨ (m = 6 ∧ 6 < n) := by omega
  have HOR := Lib.hid hor
  clear hm hor hw1
  go_loopw [4] (fun u wr => ∃ (k : Nat) (a' : Option Addr) (cp' : Nat), k ≤ m ∧ u = .int .i64 k ∧ Hid (CopyAt w S R a n cap (.slice a' k cp') (L.take k) wr)) (fun u _ => (m - intOf u).toNat)
  case atStart => exact ⟨0, _, _, by omega, rfl, H1⟩
  case round =>
    obtain ⟨k, a', cp', hk, rfl, HP⟩ := hrel
    clear H1
    have b2 : wr.cell? ⟨w.heap.size + 2, 2, none⟩ = some (.slice a' k cp') := by rw [blk_cell HP.out.box]; rfl
    have s2 : wr.cell? ⟨w.heap.size, 2, none⟩ = some (.slice a n cap) := by rw [blk_cell HP.out.src]; rfl
    have hl2 : w.heap.size + 2 < wr.heap.size := lt_of_block HP.out.box
    have hl0 : w.heap.size < wr.heap.size := lt_of_block HP.out.src
    by_cases hlt : k < m
    · obtain ⟨x, hx⟩ := nth_of HA.out.len (show k < n by omega)
      obtain ⟨g', o', rfl, ⟨c0, c1, c2, c3, c4, c5⟩⟩ := (HA.out.view.below HP.out.low).at_ hx
      have hk1 : (k : Int) < (n : Int) := by omega
      have hk6 : (k : Int) < 6 := by omega
      have hk0 : (0 : Int) ≤ (k : Int) := by omega
      have HTL : Hid ((L.take k).length = k) := by show _ = _; rw [List.length_take, HA.out.len]; omega
      have HSM : Hid ((L.take k).length + 1 ≤ 1000000) := by show _ ≤ _; rw [HTL.out]; omega
      have HNN : Hid ((L.take k).length + 1 = k + 1) := by show _ = _; rw [HTL.out]
      have HTK : Hid (L.take k ++ [x] = L.take (k + 1)) := by show _ = _; rw [List.take_add_one, hx]; rfl
      clear hx
      go_upto_region 5 with fail
      go_region_law (refine nstep_append (m := 1) (l := [x]) rfl (.tmp 22) (.tmp 28) rfl (by rfl) (by rfl) (HP.out.below (by repeat (first | exact Below.refl _ _ | (with_reducible assumption) | refine bw_alloc ?_ _ | refine bw_drew ?_))).own (Nat.le_trans (lt_of_block HP.out.box) ((by repeat (first | exact Below.refl _ _ | (with_reducible assumption) | refine bw_alloc ?_ _ | refine bw_drew ?_)) : Below wr.heap.size wr _).size) (by first | exact NView.of_at (nat_new _ _ _) | exact (NView.of_at (nat_new _ _ _)).below (by repeat (first | exact Below.refl _ _ | (with_reducible assumption) | refine bw_alloc ?_ _ | refine bw_drew ?_))) rfl HSM.out (fun z => by cases z) (k + 1) HNN.out ?_
                     intro a3 k3 w3 o3 g3 l3
                     obtain ⟨hq, z1, z2⟩ := (HP.out.below (by repeat (first | exact Below.refl _ _ | (with_reducible assumption) | refine bw_alloc ?_ _ | refine bw_drew ?_))).push g3 (HTK.out ▸ o3)
                     have HN := Lib.hid hq
                     clear hq o3 g3 l3)
      all_goals
        go_wp2
        go_roundw
        case rel => exact ⟨k + 1, _, _, by omega, by go_num, HN⟩
        case measure => simp [intOf]; omega
    · obtain rfl : m = k := by omega
      have b0 : wr.cell? ⟨w.heap.size + 2, 0, none⟩ = some (.int .i64 S) := by rw [blk_cell HP.out.box]; rfl
      have b1 : wr.cell? ⟨w.heap.size + 2, 1, none⟩ = some (.int .i64 R) := by rw [blk_cell HP.out.box]; rfl
      have HTL : Hid ((L.take m).length = m) := by show _ = _; rw [List.length_take, HA.out.len]; omega
      have HNU : Hid (Nums wr a' m cp' (L.take m)) := by
        obtain ⟨a9, c9, e9, v9, _⟩ := HP.out.own.slice
        simp only [Value.slice.injEq] at e9
        obtain ⟨rfl, _, rfl⟩ := e9
        exact ⟨HTL.out, v9, fun x hx => (HA.out.ok x (List.mem_of_mem_take hx)).below HP.out.low, by omega⟩
      have C := Lib.hid (made_any S R HNU.out)
      have q1 : ¬ ((m : Int) < (n : Int)) ∨ ((m : Int) < (n : Int) ∧ ¬ ((m : Int) < 6)) := by
        rcases HOR.out with h | ⟨h1, h2⟩
        · left; omega
        · right; omega
      rcases q1 with q1 | ⟨q1, q2⟩
      all_goals
        go_wp2_with (go_at_call 19; (with_reducible refine (C.out).mono ?_); rintro e w5 ⟨s5, r5, a5, n5, c5, L5, rfl, ho5, hok5, hi5, hm5, b5⟩; have HR := Lib.hid (kept_obj b5 HP.out.res); have r0 : w5.cell? ⟨w.heap.size + 1, 0, none⟩ = some (.int .i64 0) := (by rw [blk_cell HR.out]; rfl); have r1 : w5.cell? ⟨w.heap.size + 1, 1, none⟩ = some (.int .i64 0) := (by rw [blk_cell HR.out]; rfl); have r2 : w5.cell? ⟨w.heap.size + 1, 2, none⟩ = some (.slice none 0 0) := (by rw [blk_cell HR.out]; rfl); have f0 := blk_free HR.out 0; have f1 := blk_free HR.out 1; have f2 := blk_free HR.out 2; have HD := Lib.hid (copy_done HP.out.low b5 HR.out (lt_of_block HP.out.res) ho5 hok5 hi5 hm5); clear ho5 hok5 hi5 hm5 b5)
        exact bodyPost_ret (v := .agg #[.int .i64 s5, .int .i64 r5, .slice a5 n5 c5]) (by simp [results, Tryd.results11, go_sem, r0, r1, r2]) rfl (HD.out _ _ _)
end Go.Proofs.YtlpffgmfgkleiaaDoor
