/- Texts of this claim, put together: CRaw, CTick, CSwitch, CSame. -/
import Derived.Test.YtflemmmaakhahaaMC4
import Derived.Deep.RegionHeld3
import Derived.Deep.CutBlock
import Derived.Deep.CutRange
import Derived.Deep.DeepCutAuto
set_option linter.unusedVariables false
set_option linter.unusedSimpArgs false

/-
  The walk over the part of a tick that steps any work as it stands, beside the document's own.
-/
namespace Go.Proofs.Ytflemmmaakhahaa
open Go.RowKit Go.Maps
attribute [-go_sem] run_eql_struct run_neq_struct
attribute [local go_sem] work_eql workGuard bits_neq bitsGuard

/-- A place in a code: the first of two, the second; a branch; what stands within. -/
def navD : Nat → Code → Code
  | 0, .seq x _ => x
  | 1, .seq _ y => y
  | 2, .cond _ x _ => x
  | 3, .cond _ _ y => y
  | 4, .block _ c => c
  | 5, .loop c => c
  | 6, .scope c => c
  | _, c => c
def navC (p : List Nat) (c : Code) : Code := p.foldl (fun c d => navD d c) c
/-- The part of the step. -/
noncomputable def rawCode : Code := navC [1, 1, 1, 1, 1, 1, 1, 0, 1, 4, 5, 1, 0, 4, 1, 1, 1, 1, 1, 0, 1, 4, 1, 3, 1, 3, 1, 1, 1, 1, 1, 1, 1, 2] (Try.f3.body.getD .skip)

set_option maxRecDepth 100000 in
set_option maxHeartbeats 32000000 in
theorem raw_part {v0 v1 v2 v3 v4 v5 v9 v10 v12 v13 v16 v17 v18 v19 v20 v21 v22 v23 v24 v25 v26 v27 v28 v29 v30 v31 v32 v33 v34 v35 v36 v37 v38 v39 v40 v41 v42 v43 v44 v45 v46 v47 v48 v49 v50 v51 v52 v53 v54 v55 v56 v57 v58 v59 v60 v61 v62 v63 v64 v65 v66 v67 v68 v69 v70 v71 v72 v73 v74 v75 v76 v77 v78 v79 v80 v81 v82 v83 v84 v85 v86 v87 v88 v89 v90 v91 v92 v93 v94 v95 v96 v97 v98 v99 v100 v101 v102 v103 v104 v105 v106 v107 v108 v109 v110 v111 v112 v113 v114 v115 v116 v117 v118 v119 v120 v121 v122 v123 v124 v125 v126 v127 v128 v129 v130 v131 v132 v133 v134 v135 v136 v137 v138 v139 v140 v141 v142 v143 v144 v145 v146 v147 v148 v149 v150 v151 v152 v153 v154 v155 v156 v157 v158 v159 v160 v161 v162 v163 v164 v165 v166 v167 v168 v169 v170 v171 v172 v173 v174 v175 v176 v177 v178 v179 v180 v181 v182 v183 v184 v185 v186 v187 v188 v189 v190 v191 v192 v193 v194 v195 v196 v197 v198 v199 v200 v201 v202 v203 v204 v205 v206 v207 v208 v209 v210 v211 v212 v213 v214 v215 v216 v217 v218 v219 v220 v221 v222 v223 v224 v225 v226 v227 v228 v229 v230 : Value} {w5 : World} {ns : Nat} {r : Int} {g5 o5 N c5 b rr g2 b2 og r2 k : Nat} {O : OV} {Lc' : Nat → Int} {fn : Nat → WK} {T : TV} (HTO : Hid (T.ok w5)) (HVW : Hid (At w5 g5 (o5 + k * 7) T)) (HOK : Hid O.ok) (hk0 : (0 : Int) ≤ (k : Int)) (hkN' : (k : Int) < (N : Int)) {V9 : World}
    (H9 : Hid (PlayO w5 ns r (some ⟨g5, o5, none⟩) N c5 b rr g2 b2 og O Lc' Lc' fn r2 V9)) {Post : Exit → Act → World → Prop}
    (HPO : Hid (∀ (x14 x20 x21 x22 x23 x144 x145 x146 x147 x148 x149 x150 x151 x152 x153 x154 x155 x156 x157 x158 x159 x160 x161 x162 x163 x164 x165 x166 x167 x168 x169 x170 x171 x172 x173 x174 x175 x176 x177 x178 x179 x180 x181 x182 : Value) (L4 : Nat → Int) (w' : World), x14 = .bool true → Hid (PlayO w5 ns r (some ⟨g5, o5, none⟩) N c5 b rr g2 b2 og O L4 L4 fn r2 w') → Post .normal { tmps := List.toArray (v0 :: v1 :: v2 :: v3 :: v4 :: v5 :: (.pointer (some ⟨w5.heap.size, 0, none⟩) : Value) :: (.pointer (some ⟨b, 0, none⟩) : Value) :: (.pointer (some ⟨b2, 0, none⟩) : Value) :: v9 :: v10 :: (.pointer (some ⟨og, 0, none⟩) : Value) :: v12 :: v13 :: x14 :: (.int .i64 (k : Int) : Value) :: v16 :: v17 :: v18 :: v19 :: x20 :: x21 :: x22 :: x23 :: v24 :: v25 :: v26 :: v27 :: v28 :: v29 :: v30 :: v31 :: v32 :: v33 :: v34 :: v35 :: v36 :: v37 :: v38 :: v39 :: v40 :: v41 :: v42 :: v43 :: v44 :: v45 :: v46 :: v47 :: v48 :: v49 :: v50 :: v51 :: v52 :: v53 :: v54 :: v55 :: v56 :: v57 :: v58 :: v59 :: v60 :: v61 :: v62 :: v63 :: v64 :: v65 :: v66 :: v67 :: v68 :: v69 :: v70 :: v71 :: v72 :: v73 :: v74 :: v75 :: v76 :: v77 :: v78 :: v79 :: v80 :: v81 :: v82 :: v83 :: v84 :: v85 :: v86 :: v87 :: v88 :: v89 :: v90 :: v91 :: v92 :: v93 :: v94 :: v95 :: v96 :: v97 :: v98 :: v99 :: v100 :: v101 :: v102 :: v103 :: v104 :: v105 :: v106 :: v107 :: v108 :: v109 :: v110 :: v111 :: v112 :: v113 :: v114 :: v115 :: v116 :: v117 :: v118 :: v119 :: v120 :: v121 :: v122 :: v123 :: v124 :: v125 :: v126 :: v127 :: v128 :: v129 :: v130 :: v131 :: v132 :: v133 :: v134 :: v135 :: v136 :: v137 :: v138 :: v139 :: v140 :: v141 :: v142 :: v143 :: x144 :: x145 :: x146 :: x147 :: x148 :: x149 :: x150 :: x151 :: x152 :: x153 :: x154 :: x155 :: x156 :: x157 :: x158 :: x159 :: x160 :: x161 :: x162 :: x163 :: x164 :: x165 :: x166 :: x167 :: x168 :: x169 :: x170 :: x171 :: x172 :: x173 :: x174 :: x175 :: x176 :: x177 :: x178 :: x179 :: x180 :: x181 :: x182 :: v183 :: v184 :: v185 :: v186 :: v187 :: v188 :: v189 :: v190 :: v191 :: v192 :: v193 :: v194 :: v195 :: v196 :: v197 :: v198 :: v199 :: v200 :: v201 :: v202 :: v203 :: v204 :: v205 :: v206 :: v207 :: v208 :: v209 :: v210 :: v211 :: v212 :: v213 :: v214 :: v215 :: v216 :: v217 :: v218 :: v219 :: v220 :: v221 :: v222 :: v223 :: v224 :: v225 :: v226 :: v227 :: v228 :: v229 :: v230 :: []), defers := [] } w')) :
    Code.wp Try.prog rawCode Post { tmps := List.toArray (v0 :: v1 :: v2 :: v3 :: v4 :: v5 :: (.pointer (some ⟨w5.heap.size, 0, none⟩) : Value) :: (.pointer (some ⟨b, 0, none⟩) : Value) :: (.pointer (some ⟨b2, 0, none⟩) : Value) :: v9 :: v10 :: (.pointer (some ⟨og, 0, none⟩) : Value) :: v12 :: v13 :: (.bool true : Value) :: (.int .i64 (k : Int) : Value) :: v16 :: v17 :: v18 :: v19 :: v20 :: v21 :: v22 :: v23 :: v24 :: v25 :: v26 :: v27 :: v28 :: v29 :: v30 :: v31 :: v32 :: v33 :: v34 :: v35 :: v36 :: v37 :: v38 :: v39 :: v40 :: v41 :: v42 :: v43 :: v44 :: v45 :: v46 :: v47 :: v48 :: v49 :: v50 :: v51 :: v52 :: v53 :: v54 :: v55 :: v56 :: v57 :: v58 :: v59 :: v60 :: v61 :: v62 :: v63 :: v64 :: v65 :: v66 :: v67 :: v68 :: v69 :: v70 :: v71 :: v72 :: v73 :: v74 :: v75 :: v76 :: v77 :: v78 :: v79 :: v80 :: v81 :: v82 :: v83 :: v84 :: v85 :: v86 :: v87 :: v88 :: v89 :: v90 :: v91 :: v92 :: v93 :: v94 :: v95 :: v96 :: v97 :: v98 :: v99 :: v100 :: v101 :: v102 :: v103 :: v104 :: v105 :: v106 :: v107 :: v108 :: v109 :: v110 :: v111 :: v112 :: v113 :: v114 :: v115 :: v116 :: v117 :: v118 :: v119 :: v120 :: v121 :: v122 :: v123 :: v124 :: v125 :: v126 :: v127 :: v128 :: v129 :: v130 :: v131 :: v132 :: v133 :: v134 :: v135 :: v136 :: v137 :: v138 :: v139 :: v140 :: v141 :: v142 :: v143 :: v144 :: v145 :: v146 :: v147 :: v148 :: v149 :: v150 :: v151 :: v152 :: v153 :: v154 :: v155 :: v156 :: v157 :: v158 :: v159 :: v160 :: v161 :: v162 :: v163 :: v164 :: v165 :: v166 :: v167 :: v168 :: v169 :: v170 :: v171 :: v172 :: v173 :: v174 :: v175 :: v176 :: v177 :: v178 :: v179 :: v180 :: v181 :: v182 :: v183 :: v184 :: v185 :: v186 :: v187 :: v188 :: v189 :: v190 :: v191 :: v192 :: v193 :: v194 :: v195 :: v196 :: v197 :: v198 :: v199 :: v200 :: v201 :: v202 :: v203 :: v204 :: v205 :: v206 :: v207 :: v208 :: v209 :: v210 :: v211 :: v212 :: v213 :: v214 :: v215 :: v216 :: v217 :: v218 :: v219 :: v220 :: v221 :: v222 :: v223 :: v224 :: v225 :: v226 :: v227 :: v228 :: v229 :: v230 :: []), defers := [] } V9 := by
  conv => enter [2]; whnf
  obtain ⟨⟨⟨dn2, dm2, db2, rl2, p2⟩, q2⟩, hst2⟩ : ∃ z, stepW ns Lc' T.id (accOf T O.wk.dn).1 (accOf T O.wk.dn).2 O.rl ⟨O.wk.dn, O.wk.dm, O.wk.db, O.wk.rl, O.wk.sn⟩ = z := ⟨_, rfl⟩
  obtain ⟨L4, hL4⟩ : ∃ z, stepL ns Lc' T.id (accOf T O.wk.dn).1 (accOf T O.wk.dn).2 O.rl ⟨O.wk.dn, O.wk.dm, O.wk.db, O.wk.rl, O.wk.sn⟩ = z := ⟨_, rfl⟩
  have STC := Lib.hid (fun w (hw : Below V9.heap.size V9 w) => cstep_any T O.rl O.wk.dn O.wk.dm O.wk.db O.wk.rl O.wk.sn w (H9.out.below hw).p.t.ch (HTO.out.below (H9.out.p.t.low.trans (hw.mono H9.out.p.t.low.size))) HOK.out.2.2.2.2.2.2.1.2 HOK.out.2.2.2.2.2.2.2.1.2)
  rw [hst2, hL4] at STC
  unfold StepBack at STC
  dsimp only at STC
  have MK : Hid (∀ w', Turn (fun k => k = rr) V9 w' → (w'.cell? ⟨w5.heap.size, 2, none⟩ = some (.slice (some ⟨g5, o5, none⟩) N c5) ∧ w'.cell? ⟨g5, o5 + k * 7, none⟩ = some (.int .i64 T.id) ∧ w'.cell? ⟨g5, o5 + k * 7 + 1, none⟩ = some (.int .i64 T.c) ∧ w'.cell? ⟨g5, o5 + k * 7 + 2, none⟩ = some (.int .i64 T.d) ∧ w'.cell? ⟨g5, o5 + k * 7 + 3, none⟩ = some (.int .i64 T.t) ∧ w'.cell? ⟨g5, o5 + k * 7 + 4, none⟩ = some (.int .i64 T.p) ∧ w'.cell? ⟨g5, o5 + k * 7 + 5, none⟩ = some (.slice T.a1 T.ch.length T.c1) ∧ w'.cell? ⟨g5, o5 + k * 7 + 6, none⟩ = some (.slice T.a2 T.us.length T.c2) ∧ w'.cell? ⟨og, 6, none⟩ = some (.int .i64 O.rl) ∧ w'.cell? ⟨og, 7, none⟩ = some (.int .i64 O.wk.dn) ∧ w'.cell? ⟨og, 8, none⟩ = some (.int .i64 O.wk.dm) ∧ w'.cell? ⟨og, 9, none⟩ = some (.int .i64 O.wk.db) ∧ w'.cell? ⟨og, 10, none⟩ = some (.int .i64 O.wk.rl) ∧ w'.cell? ⟨og, 11, none⟩ = some (.int .u64 (wd O.wk.sn 0)) ∧ w'.cell? ⟨og, 12, none⟩ = some (.int .u64 (wd O.wk.sn 1)) ∧ w'.cell? ⟨og, 13, none⟩ = some (.int .u64 (wd O.wk.sn 2)) ∧ w'.cell? ⟨og, 14, none⟩ = some (.int .u64 (wd O.wk.sn 3)))) := fun w' ht => by
    have hsb := ht.obj H9.out.p.t.sb (Nat.ne_of_lt H9.out.p.t.lr)
    have hlow := H9.out.p.t.low.trans (ht.below (B := w5.heap.size) H9.out.p.t.low.size (fun i q => by subst q; exact Nat.le_of_lt H9.out.p.t.lr))
    obtain ⟨x0, x1, x2, x3, x4, x5, x6⟩ := HVW.out
    have hob := ht.obj H9.out.ob H9.out.o2
    exact ⟨by rw [blk_cell hsb]; rfl, kept_cellB hlow (block_of_cell x0) x0, kept_cellB hlow (block_of_cell x1) x1, kept_cellB hlow (block_of_cell x2) x2, kept_cellB hlow (block_of_cell x3) x3, kept_cellB hlow (block_of_cell x4) x4, kept_cellB hlow (block_of_cell x5) x5, kept_cellB hlow (block_of_cell x6) x6, by rw [blk_cell hob]; rfl, by rw [blk_cell hob]; rfl, by rw [blk_cell hob]; rfl, by rw [blk_cell hob]; rfl, by rw [blk_cell hob]; rfl, by rw [blk_cell hob]; rfl, by rw [blk_cell hob]; rfl, by rw [blk_cell hob]; rfl, by rw [blk_cell hob]; rfl⟩
  have tb := Turn.refl (fun k => k = rr) V9
  have bb := Below.refl V9.heap.size V9
  have HNE : Hid (V9.heap.size ≠ rr) := by have := H9.out.p.t.ch.lt.2; show _ ≠ _; omega
  go_upto_region 27 with fail
  go_cut [20, 21] from 144 to 157 (fun u v wx => ∃ gx : Nat, u = .pointer (some ⟨gx, 0, none⟩) ∧ v = .bool q2 ∧ Hid (PlayO w5 ns r (some ⟨g5, o5, none⟩) N c5 b rr g2 b2 og O L4 Lc' fn r2 wx) ∧ Hid (wx.heap[gx]? = some (.cells #[.int .i64 dn2, .int .i64 dm2, .int .i64 db2, .int .i64 rl2, .int .u64 (wd p2 0), .int .u64 (wd p2 1), .int .u64 (wd p2 2), .int .u64 (wd p2 3)] WT (0, 0))) ∧ Hid (gx ≠ r2))
  case first =>
    go_region_held3 (fun w' => w'.cell? ⟨w5.heap.size, 2, none⟩ = some (.slice (some ⟨g5, o5, none⟩) N c5) ∧ w'.cell? ⟨g5, o5 + k * 7, none⟩ = some (.int .i64 T.id) ∧ w'.cell? ⟨g5, o5 + k * 7 + 1, none⟩ = some (.int .i64 T.c) ∧ w'.cell? ⟨g5, o5 + k * 7 + 2, none⟩ = some (.int .i64 T.d) ∧ w'.cell? ⟨g5, o5 + k * 7 + 3, none⟩ = some (.int .i64 T.t) ∧ w'.cell? ⟨g5, o5 + k * 7 + 4, none⟩ = some (.int .i64 T.p) ∧ w'.cell? ⟨g5, o5 + k * 7 + 5, none⟩ = some (.slice T.a1 T.ch.length T.c1) ∧ w'.cell? ⟨g5, o5 + k * 7 + 6, none⟩ = some (.slice T.a2 T.us.length T.c2) ∧ w'.cell? ⟨og, 6, none⟩ = some (.int .i64 O.rl) ∧ w'.cell? ⟨og, 7, none⟩ = some (.int .i64 O.wk.dn) ∧ w'.cell? ⟨og, 8, none⟩ = some (.int .i64 O.wk.dm) ∧ w'.cell? ⟨og, 9, none⟩ = some (.int .i64 O.wk.db) ∧ w'.cell? ⟨og, 10, none⟩ = some (.int .i64 O.wk.rl) ∧ w'.cell? ⟨og, 11, none⟩ = some (.int .u64 (wd O.wk.sn 0)) ∧ w'.cell? ⟨og, 12, none⟩ = some (.int .u64 (wd O.wk.sn 1)) ∧ w'.cell? ⟨og, 13, none⟩ = some (.int .u64 (wd O.wk.sn 2)) ∧ w'.cell? ⟨og, 14, none⟩ = some (.int .u64 (wd O.wk.sn 3))) (exact MK.out _ (by repeat (first | (with_reducible assumption) | (with_reducible refine Turn.drew ?_) | (with_reducible refine Turn.alloc ?_ _) | with_reducible refine Turn.setCell ?_ (fun q => absurd q (Nat.lt_irrefl _)) _))) (first | (go_at_call 17; (with_reducible refine (STC.out _ (by repeat (first | (with_reducible assumption) | refine Below.drew ?_ | refine Below.alloc ?_ (by first | omega | (simp; omega)) _))).mono ?_); rintro e wx ⟨rfl, hcx, htx⟩; have tx := Turn.then ((by repeat (first | (with_reducible assumption) | (with_reducible refine Turn.drew ?_) | (with_reducible refine Turn.alloc ?_ _) | with_reducible refine Turn.setCell ?_ (fun q => absurd q (Nat.lt_irrefl _)) _)) : Turn (fun k => k = rr) V9 _) htx; have HCX := Lib.hid hcx; (try (have hq : wx.heap[V9.heap.size]? = _ := htx.obj (heap_alloc_new V9.drew _) HNE.out; have FB := Lib.hid (H9.out.put (H9.out.turnC tx hcx) hq (.int .i64 dn2) (.int .i64 dm2) (.int .i64 db2) (.int .i64 rl2) (.int .u64 (wd p2 0)) (.int .u64 (wd p2 1)) (.int .u64 (wd p2 2)) (.int .u64 (wd p2 3))); have p0 : wx.cell? ⟨V9.heap.size, 0, none⟩ = some (.int .i64 0) := (by rw [blk_cell hq]; rfl); have p1 : wx.cell? ⟨V9.heap.size, 1, none⟩ = some (.int .i64 0) := (by rw [blk_cell hq]; rfl); have p2 : wx.cell? ⟨V9.heap.size, 2, none⟩ = some (.int .i64 0) := (by rw [blk_cell hq]; rfl); have p3 : wx.cell? ⟨V9.heap.size, 3, none⟩ = some (.int .i64 0) := (by rw [blk_cell hq]; rfl); have p4 : wx.cell? ⟨V9.heap.size, 4, none⟩ = some (.int .u64 0) := (by rw [blk_cell hq]; rfl); have p5 : wx.cell? ⟨V9.heap.size, 5, none⟩ = some (.int .u64 0) := (by rw [blk_cell hq]; rfl); have p6 : wx.cell? ⟨V9.heap.size, 6, none⟩ = some (.int .u64 0) := (by rw [blk_cell hq]; rfl); have p7 : wx.cell? ⟨V9.heap.size, 7, none⟩ = some (.int .u64 0) := (by rw [blk_cell hq]; rfl); have fp0 : wx.frozen? ⟨V9.heap.size, 0, none⟩ = false := blk_free hq 0; have fp1 : wx.frozen? ⟨V9.heap.size, 1, none⟩ = false := blk_free hq 1; have fp2 : wx.frozen? ⟨V9.heap.size, 2, none⟩ = false := blk_free hq 2; have fp3 : wx.frozen? ⟨V9.heap.size, 3, none⟩ = false := blk_free hq 3; have fp4 : wx.frozen? ⟨V9.heap.size, 4, none⟩ = false := blk_free hq 4; have fp5 : wx.frozen? ⟨V9.heap.size, 5, none⟩ = false := blk_free hq 5; have fp6 : wx.frozen? ⟨V9.heap.size, 6, none⟩ = false := blk_free hq 6; have fp7 : wx.frozen? ⟨V9.heap.size, 7, none⟩ = false := blk_free hq 7; clear hq)); clear hcx htx))
    all_goals
      go_wp2_with fail
      go_meet
      first
        | (have FB2 := FB
           refine ⟨V9.heap.size, rfl, rfl, ?_, ?_, ?_⟩
           · with_reducible exact Lib.hid FB2.out.1
           · with_reducible exact Lib.hid FB2.out.2
           · exact Lib.hid (Nat.ne_of_lt H9.out.p.rc.lt.2).symm)
        | (refine ⟨wx.heap.size, rfl, rfl, ?_, ?_, ?_⟩
           · with_reducible exact Lib.hid (PlayO.below (H9.out.turnC tx HCX.out) (bw_alloc (Below.refl _ _) _))
           · with_reducible exact Lib.hid (heap_alloc_new wx _)
           · exact Lib.hid (Nat.ne_of_lt (H9.out.turnC tx HCX.out).p.rc.lt.2).symm)
  case rest =>
    clear STC MK tb bb HNE
    obtain ⟨gx, rfl, rfl, H10, HX, HGX⟩ := hcut
    have STC := Lib.hid (fun w (hw : Below wc.heap.size wc w) => rstep_any T O.rl O.wk.dn O.wk.dm O.wk.db O.wk.rl O.wk.sn w (H10.out.below hw).p.rc (HTO.out.below (H10.out.p.t.low.trans (hw.mono H10.out.p.t.low.size))) HOK.out.2.2.2.2.2.2.1.2 HOK.out.2.2.2.2.2.2.2.1.2)
    rw [hst2, hL4] at STC
    unfold StepBack at STC
    dsimp only at STC
    have MK : Hid (∀ w', Turn (fun k => k = r2) wc w' → (w'.cell? ⟨w5.heap.size, 2, none⟩ = some (.slice (some ⟨g5, o5, none⟩) N c5) ∧ w'.cell? ⟨g5, o5 + k * 7, none⟩ = some (.int .i64 T.id) ∧ w'.cell? ⟨g5, o5 + k * 7 + 1, none⟩ = some (.int .i64 T.c) ∧ w'.cell? ⟨g5, o5 + k * 7 + 2, none⟩ = some (.int .i64 T.d) ∧ w'.cell? ⟨g5, o5 + k * 7 + 3, none⟩ = some (.int .i64 T.t) ∧ w'.cell? ⟨g5, o5 + k * 7 + 4, none⟩ = some (.int .i64 T.p) ∧ w'.cell? ⟨g5, o5 + k * 7 + 5, none⟩ = some (.slice T.a1 T.ch.length T.c1) ∧ w'.cell? ⟨g5, o5 + k * 7 + 6, none⟩ = some (.slice T.a2 T.us.length T.c2) ∧ w'.cell? ⟨og, 6, none⟩ = some (.int .i64 O.rl) ∧ w'.cell? ⟨og, 7, none⟩ = some (.int .i64 O.wk.dn) ∧ w'.cell? ⟨og, 8, none⟩ = some (.int .i64 O.wk.dm) ∧ w'.cell? ⟨og, 9, none⟩ = some (.int .i64 O.wk.db) ∧ w'.cell? ⟨og, 10, none⟩ = some (.int .i64 O.wk.rl) ∧ w'.cell? ⟨og, 11, none⟩ = some (.int .u64 (wd O.wk.sn 0)) ∧ w'.cell? ⟨og, 12, none⟩ = some (.int .u64 (wd O.wk.sn 1)) ∧ w'.cell? ⟨og, 13, none⟩ = some (.int .u64 (wd O.wk.sn 2)) ∧ w'.cell? ⟨og, 14, none⟩ = some (.int .u64 (wd O.wk.sn 3)))) := fun w' ht => by
      have hsb := ht.obj H10.out.p.t.sb (Nat.ne_of_lt H10.out.p.l2)
      have hlow := H10.out.p.t.low.trans (ht.below (B := w5.heap.size) H10.out.p.t.low.size (fun i q => by subst q; exact Nat.le_of_lt H10.out.p.l2))
      obtain ⟨x0, x1, x2, x3, x4, x5, x6⟩ := HVW.out
      have hob := ht.obj H10.out.ob H10.out.o5
      exact ⟨by rw [blk_cell hsb]; rfl, kept_cellB hlow (block_of_cell x0) x0, kept_cellB hlow (block_of_cell x1) x1, kept_cellB hlow (block_of_cell x2) x2, kept_cellB hlow (block_of_cell x3) x3, kept_cellB hlow (block_of_cell x4) x4, kept_cellB hlow (block_of_cell x5) x5, kept_cellB hlow (block_of_cell x6) x6, by rw [blk_cell hob]; rfl, by rw [blk_cell hob]; rfl, by rw [blk_cell hob]; rfl, by rw [blk_cell hob]; rfl, by rw [blk_cell hob]; rfl, by rw [blk_cell hob]; rfl, by rw [blk_cell hob]; rfl, by rw [blk_cell hob]; rfl, by rw [blk_cell hob]; rfl⟩
    have tb := Turn.refl (fun k => k = r2) wc
    have bb := Below.refl wc.heap.size wc
    have HNE : Hid (wc.heap.size ≠ r2) := by have := H10.out.p.rc.lt.2; show _ ≠ _; omega
    go_upto_region 28 with fail
    go_cut [22, 23] from 158 to 171 (fun u v wx => ∃ gy : Nat, u = .pointer (some ⟨gy, 0, none⟩) ∧ v = .bool q2 ∧ Hid (PlayO w5 ns r (some ⟨g5, o5, none⟩) N c5 b rr g2 b2 og O L4 L4 fn r2 wx) ∧ Hid (wx.heap[gy]? = some (.cells #[.int .i64 dn2, .int .i64 dm2, .int .i64 db2, .int .i64 rl2, .int .u64 (wd p2 0), .int .u64 (wd p2 1), .int .u64 (wd p2 2), .int .u64 (wd p2 3)] WT (0, 0))) ∧ Hid (wx.heap[gx]? = some (.cells #[.int .i64 dn2, .int .i64 dm2, .int .i64 db2, .int .i64 rl2, .int .u64 (wd p2 0), .int .u64 (wd p2 1), .int .u64 (wd p2 2), .int .u64 (wd p2 3)] WT (0, 0))))
    case first =>
      go_region_held3 (fun w' => w'.cell? ⟨w5.heap.size, 2, none⟩ = some (.slice (some ⟨g5, o5, none⟩) N c5) ∧ w'.cell? ⟨g5, o5 + k * 7, none⟩ = some (.int .i64 T.id) ∧ w'.cell? ⟨g5, o5 + k * 7 + 1, none⟩ = some (.int .i64 T.c) ∧ w'.cell? ⟨g5, o5 + k * 7 + 2, none⟩ = some (.int .i64 T.d) ∧ w'.cell? ⟨g5, o5 + k * 7 + 3, none⟩ = some (.int .i64 T.t) ∧ w'.cell? ⟨g5, o5 + k * 7 + 4, none⟩ = some (.int .i64 T.p) ∧ w'.cell? ⟨g5, o5 + k * 7 + 5, none⟩ = some (.slice T.a1 T.ch.length T.c1) ∧ w'.cell? ⟨g5, o5 + k * 7 + 6, none⟩ = some (.slice T.a2 T.us.length T.c2) ∧ w'.cell? ⟨og, 6, none⟩ = some (.int .i64 O.rl) ∧ w'.cell? ⟨og, 7, none⟩ = some (.int .i64 O.wk.dn) ∧ w'.cell? ⟨og, 8, none⟩ = some (.int .i64 O.wk.dm) ∧ w'.cell? ⟨og, 9, none⟩ = some (.int .i64 O.wk.db) ∧ w'.cell? ⟨og, 10, none⟩ = some (.int .i64 O.wk.rl) ∧ w'.cell? ⟨og, 11, none⟩ = some (.int .u64 (wd O.wk.sn 0)) ∧ w'.cell? ⟨og, 12, none⟩ = some (.int .u64 (wd O.wk.sn 1)) ∧ w'.cell? ⟨og, 13, none⟩ = some (.int .u64 (wd O.wk.sn 2)) ∧ w'.cell? ⟨og, 14, none⟩ = some (.int .u64 (wd O.wk.sn 3))) (exact MK.out _ (by repeat (first | (with_reducible assumption) | (with_reducible refine Turn.drew ?_) | (with_reducible refine Turn.alloc ?_ _) | with_reducible refine Turn.setCell ?_ (fun q => absurd q (Nat.lt_irrefl _)) _))) (first | (go_at_call 18; (with_reducible refine (STC.out _ (by repeat (first | (with_reducible assumption) | refine Below.drew ?_ | refine Below.alloc ?_ (by first | omega | (simp; omega)) _))).mono ?_); rintro e wx ⟨rfl, hcx, htx⟩; have tx := Turn.then ((by repeat (first | (with_reducible assumption) | (with_reducible refine Turn.drew ?_) | (with_reducible refine Turn.alloc ?_ _) | with_reducible refine Turn.setCell ?_ (fun q => absurd q (Nat.lt_irrefl _)) _)) : Turn (fun k => k = r2) wc _) htx; have HCX := Lib.hid hcx; (try (have hq : wx.heap[wc.heap.size]? = _ := htx.obj (heap_alloc_new wc.drew _) HNE.out; have FB := Lib.hid (H10.out.put (H10.out.turnR tx hcx) hq (.int .i64 dn2) (.int .i64 dm2) (.int .i64 db2) (.int .i64 rl2) (.int .u64 (wd p2 0)) (.int .u64 (wd p2 1)) (.int .u64 (wd p2 2)) (.int .u64 (wd p2 3))); have p0 : wx.cell? ⟨wc.heap.size, 0, none⟩ = some (.int .i64 0) := (by rw [blk_cell hq]; rfl); have p1 : wx.cell? ⟨wc.heap.size, 1, none⟩ = some (.int .i64 0) := (by rw [blk_cell hq]; rfl); have p2 : wx.cell? ⟨wc.heap.size, 2, none⟩ = some (.int .i64 0) := (by rw [blk_cell hq]; rfl); have p3 : wx.cell? ⟨wc.heap.size, 3, none⟩ = some (.int .i64 0) := (by rw [blk_cell hq]; rfl); have p4 : wx.cell? ⟨wc.heap.size, 4, none⟩ = some (.int .u64 0) := (by rw [blk_cell hq]; rfl); have p5 : wx.cell? ⟨wc.heap.size, 5, none⟩ = some (.int .u64 0) := (by rw [blk_cell hq]; rfl); have p6 : wx.cell? ⟨wc.heap.size, 6, none⟩ = some (.int .u64 0) := (by rw [blk_cell hq]; rfl); have p7 : wx.cell? ⟨wc.heap.size, 7, none⟩ = some (.int .u64 0) := (by rw [blk_cell hq]; rfl); have fp0 : wx.frozen? ⟨wc.heap.size, 0, none⟩ = false := blk_free hq 0; have fp1 : wx.frozen? ⟨wc.heap.size, 1, none⟩ = false := blk_free hq 1; have fp2 : wx.frozen? ⟨wc.heap.size, 2, none⟩ = false := blk_free hq 2; have fp3 : wx.frozen? ⟨wc.heap.size, 3, none⟩ = false := blk_free hq 3; have fp4 : wx.frozen? ⟨wc.heap.size, 4, none⟩ = false := blk_free hq 4; have fp5 : wx.frozen? ⟨wc.heap.size, 5, none⟩ = false := blk_free hq 5; have fp6 : wx.frozen? ⟨wc.heap.size, 6, none⟩ = false := blk_free hq 6; have fp7 : wx.frozen? ⟨wc.heap.size, 7, none⟩ = false := blk_free hq 7; clear hq)); clear hcx htx))
      all_goals
        go_wp2_with fail
        go_meet
        first
          | (have FB2 := FB
             refine ⟨wc.heap.size, rfl, rfl, ?_, ?_, ?_⟩
             · with_reducible exact Lib.hid FB2.out.1
             · with_reducible exact Lib.hid FB2.out.2
             · with_reducible exact Lib.hid (box_far8 (tx.obj HX.out HGX.out) (Nat.ne_of_lt (lt_of_block HX.out)) _ _ _ _ _ _ _ _))
          | (refine ⟨wx.heap.size, rfl, rfl, ?_, ?_, ?_⟩
             · with_reducible exact Lib.hid (PlayO.below (H10.out.turnR tx HCX.out) (bw_alloc (Below.refl _ _) _))
             · with_reducible exact Lib.hid (heap_alloc_new wx _)
             · with_reducible exact Lib.hid (kept_obj (bw_alloc (Below.refl _ _) _) (tx.obj HX.out HGX.out)))
    case rest =>
      clear STC MK tb bb HNE
      obtain ⟨gy, rfl, rfl, H11, HY, HX'⟩ := hcut
      clear HX HGX
      go_upto_region 29 with fail
      have x0 : wc.cell? ⟨gx, 0, none⟩ = some (.int .i64 dn2) := by rw [blk_cell HX'.out]; rfl
      have x1 : wc.cell? ⟨gx, 1, none⟩ = some (.int .i64 dm2) := by rw [blk_cell HX'.out]; rfl
      have x2 : wc.cell? ⟨gx, 2, none⟩ = some (.int .i64 db2) := by rw [blk_cell HX'.out]; rfl
      have x3 : wc.cell? ⟨gx, 3, none⟩ = some (.int .i64 rl2) := by rw [blk_cell HX'.out]; rfl
      have x4 : wc.cell? ⟨gx, 4, none⟩ = some (.int .u64 (wd p2 0)) := by rw [blk_cell HX'.out]; rfl
      have x5 : wc.cell? ⟨gx, 5, none⟩ = some (.int .u64 (wd p2 1)) := by rw [blk_cell HX'.out]; rfl
      have x6 : wc.cell? ⟨gx, 6, none⟩ = some (.int .u64 (wd p2 2)) := by rw [blk_cell HX'.out]; rfl
      have x7 : wc.cell? ⟨gx, 7, none⟩ = some (.int .u64 (wd p2 3)) := by rw [blk_cell HX'.out]; rfl
      have y0 : wc.cell? ⟨gy, 0, none⟩ = some (.int .i64 dn2) := by rw [blk_cell HY.out]; rfl
      have y1 : wc.cell? ⟨gy, 1, none⟩ = some (.int .i64 dm2) := by rw [blk_cell HY.out]; rfl
      have y2 : wc.cell? ⟨gy, 2, none⟩ = some (.int .i64 db2) := by rw [blk_cell HY.out]; rfl
      have y3 : wc.cell? ⟨gy, 3, none⟩ = some (.int .i64 rl2) := by rw [blk_cell HY.out]; rfl
      have y4 : wc.cell? ⟨gy, 4, none⟩ = some (.int .u64 (wd p2 0)) := by rw [blk_cell HY.out]; rfl
      have y5 : wc.cell? ⟨gy, 5, none⟩ = some (.int .u64 (wd p2 1)) := by rw [blk_cell HY.out]; rfl
      have y6 : wc.cell? ⟨gy, 6, none⟩ = some (.int .u64 (wd p2 2)) := by rw [blk_cell HY.out]; rfl
      have y7 : wc.cell? ⟨gy, 7, none⟩ = some (.int .u64 (wd p2 3)) := by rw [blk_cell HY.out]; rfl
      first | go_quiet (fail) | skip
      go_wp2_with fail
      exact HPO.out _ _ _ _ _ _ _ _ _ _ _ _ _ _ _ _ _ _ _ _ _ _ _ _ _ _ _ _ _ _ _ _ _ _ _ _ _ _ _ _ _ _ _ _ _ _ (by simp) (Lib.hid (H11.out.below ⟨rfl, rfl, rfl, Nat.le_refl _, fun _ _ => rfl⟩))
end Go.Proofs.Ytflemmmaakhahaa

/-
  The walk over the step of a job in the statement that a cache goes on: the document's own step beside it, and the part that steps any work.
-/
namespace Go.Proofs.Ytflemmmaakhahaa
open Go.RowKit Go.Maps
attribute [-go_sem] run_eql_struct run_neq_struct
attribute [local go_sem] work_eql workGuard bits_neq bitsGuard

/-- The part of the step. -/
noncomputable def tickCode : Code := navC [1, 1, 1, 1, 1, 1, 1, 0, 1, 4, 5, 1, 0, 4, 1, 1, 1, 1, 1, 0, 1, 4, 1, 3, 1, 3, 1, 1] (Try.f3.body.getD .skip)

set_option maxRecDepth 100000 in
set_option maxHeartbeats 32000000 in
theorem tick_part {v0 v1 v2 v3 v4 v5 v10 v12 v13 v16 v17 v18 v19 v20 v21 v22 v23 v24 v25 v26 v27 v28 v29 v30 v31 v32 v33 v34 v35 v36 v37 v38 v39 v40 v41 v42 v43 v44 v45 v46 v47 v48 v49 v50 v51 v52 v53 v54 v55 v56 v57 v58 v59 v60 v61 v62 v63 v64 v65 v66 v67 v68 v69 v70 v71 v72 v73 v74 v75 v76 v77 v78 v79 v80 v81 v82 v83 v84 v85 v86 v87 v88 v89 v90 v91 v92 v93 v94 v95 v96 v97 v98 v99 v100 v101 v102 v103 v104 v105 v106 v107 v108 v109 v110 v111 v112 v113 v114 v115 v116 v117 v118 v119 v120 v121 v122 v123 v124 v125 v126 v127 v128 v129 v130 v131 v132 v133 v134 v135 v136 v137 v138 v139 v140 v141 v142 v143 v144 v145 v146 v147 v148 v149 v150 v151 v152 v153 v154 v155 v156 v157 v158 v159 v160 v161 v162 v163 v164 v165 v166 v167 v168 v169 v170 v171 v172 v173 v174 v175 v176 v177 v178 v179 v180 v181 v182 v183 v184 v185 v186 v187 v188 v189 v190 v191 v192 v193 v194 v195 v196 v197 v198 v199 v200 v201 v202 v203 v204 v205 v206 v207 v208 v209 v210 v211 v212 v213 v214 v215 v216 v217 v218 v219 v220 v221 v222 v223 v224 v225 v226 v227 v228 v229 v230 : Value} {w5 wc : World} {ns : Nat} {r dn dm db rl dn' db' rl' : Int} {p p' : Nat → Bool} {q' : Bool} {g5 o5 N c5 b rr g2 b2 og r2 k : Nat} {O : OV} {Lc Lc' : Nat → Int} {f' fn : Nat → WK} {T : TV} (HTO : Hid (T.ok w5)) (HVW : Hid (At w5 g5 (o5 + k * 7) T)) (HOK : Hid O.ok) (hk0 : (0 : Int) ≤ (k : Int)) (hkN' : (k : Int) < (N : Int)) (hk6 : k < 6) (hk6' : (k : Int) < 6) (hr0 : 0 ≤ r) (hr3 : r ≤ 3) (hv3 : 0 ≤ db) (hv5 : 0 ≤ rl) (hb1 : db ≤ 1000) (hb2 : dm ≤ 24) (hns : ns ≤ 8) (hN6 : N ≤ 6)
    (hw4 : f' k = ⟨dn, dm, db, rl, p⟩) (hst : stepW ns Lc T.id (accOf T dn).1 (accOf T dn).2 r ⟨dn, dm, db, rl, p⟩ = (⟨dn', dm, db', rl', p'⟩, q')) (hL : stepL ns Lc T.id (accOf T dn).1 (accOf T dn).2 r ⟨dn, dm, db, rl, p⟩ = Lc') (hfn : setW f' k ⟨dn', dm, db', rl', p'⟩ = fn)
    (H5 : Hid (PlayO w5 ns r (some ⟨g5, o5, none⟩) N c5 b rr g2 b2 og O Lc Lc f' r2 wc)) {Post : Exit → Act → World → Prop}
    (HPO : Hid (∀ (x14 x16 x17 x18 x19 x20 x21 x22 x23 x101 x102 x103 x104 x105 x106 x107 x108 x109 x110 x111 x112 x113 x114 x115 x116 x117 x118 x119 x120 x121 x122 x123 x124 x125 x126 x127 x128 x129 x130 x131 x132 x133 x134 x135 x136 x137 x138 x139 x140 x141 x142 x143 x144 x145 x146 x147 x148 x149 x150 x151 x152 x153 x154 x155 x156 x157 x158 x159 x160 x161 x162 x163 x164 x165 x166 x167 x168 x169 x170 x171 x172 x173 x174 x175 x176 x177 x178 x179 x180 x181 x182 : Value) (L4 : Nat → Int) (w' : World), x14 = .bool true → Hid (PlayO w5 ns r (some ⟨g5, o5, none⟩) N c5 b rr g2 b2 og O L4 L4 fn r2 w') → Post .normal { tmps := List.toArray (v0 :: v1 :: v2 :: v3 :: v4 :: v5 :: (.pointer (some ⟨w5.heap.size, 0, none⟩) : Value) :: (.pointer (some ⟨b, 0, none⟩) : Value) :: (.pointer (some ⟨b2, 0, none⟩) : Value) :: (.pointer (some ⟨g2, 0, none⟩) : Value) :: v10 :: (.pointer (some ⟨og, 0, none⟩) : Value) :: v12 :: v13 :: x14 :: (.int .i64 (k : Int) : Value) :: x16 :: x17 :: x18 :: x19 :: x20 :: x21 :: x22 :: x23 :: v24 :: v25 :: v26 :: v27 :: v28 :: v29 :: v30 :: v31 :: v32 :: v33 :: v34 :: v35 :: v36 :: v37 :: v38 :: v39 :: v40 :: v41 :: v42 :: v43 :: v44 :: v45 :: v46 :: v47 :: v48 :: v49 :: v50 :: v51 :: v52 :: v53 :: v54 :: v55 :: v56 :: v57 :: v58 :: v59 :: v60 :: v61 :: v62 :: v63 :: v64 :: v65 :: v66 :: v67 :: v68 :: v69 :: v70 :: v71 :: v72 :: v73 :: v74 :: v75 :: v76 :: v77 :: v78 :: v79 :: v80 :: v81 :: v82 :: v83 :: v84 :: v85 :: v86 :: v87 :: v88 :: v89 :: v90 :: v91 :: v92 :: v93 :: v94 :: v95 :: v96 :: v97 :: v98 :: v99 :: v100 :: x101 :: x102 :: x103 :: x104 :: x105 :: x106 :: x107 :: x108 :: x109 :: x110 :: x111 :: x112 :: x113 :: x114 :: x115 :: x116 :: x117 :: x118 :: x119 :: x120 :: x121 :: x122 :: x123 :: x124 :: x125 :: x126 :: x127 :: x128 :: x129 :: x130 :: x131 :: x132 :: x133 :: x134 :: x135 :: x136 :: x137 :: x138 :: x139 :: x140 :: x141 :: x142 :: x143 :: x144 :: x145 :: x146 :: x147 :: x148 :: x149 :: x150 :: x151 :: x152 :: x153 :: x154 :: x155 :: x156 :: x157 :: x158 :: x159 :: x160 :: x161 :: x162 :: x163 :: x164 :: x165 :: x166 :: x167 :: x168 :: x169 :: x170 :: x171 :: x172 :: x173 :: x174 :: x175 :: x176 :: x177 :: x178 :: x179 :: x180 :: x181 :: x182 :: v183 :: v184 :: v185 :: v186 :: v187 :: v188 :: v189 :: v190 :: v191 :: v192 :: v193 :: v194 :: v195 :: v196 :: v197 :: v198 :: v199 :: v200 :: v201 :: v202 :: v203 :: v204 :: v205 :: v206 :: v207 :: v208 :: v209 :: v210 :: v211 :: v212 :: v213 :: v214 :: v215 :: v216 :: v217 :: v218 :: v219 :: v220 :: v221 :: v222 :: v223 :: v224 :: v225 :: v226 :: v227 :: v228 :: v229 :: v230 :: []), defers := [] } w')) :
    Code.wp Try.prog tickCode Post { tmps := List.toArray (v0 :: v1 :: v2 :: v3 :: v4 :: v5 :: (.pointer (some ⟨w5.heap.size, 0, none⟩) : Value) :: (.pointer (some ⟨b, 0, none⟩) : Value) :: (.pointer (some ⟨b2, 0, none⟩) : Value) :: (.pointer (some ⟨g2, 0, none⟩) : Value) :: v10 :: (.pointer (some ⟨og, 0, none⟩) : Value) :: v12 :: v13 :: (.bool true : Value) :: (.int .i64 (k : Int) : Value) :: v16 :: v17 :: v18 :: v19 :: v20 :: v21 :: v22 :: v23 :: v24 :: v25 :: v26 :: v27 :: v28 :: v29 :: v30 :: v31 :: v32 :: v33 :: v34 :: v35 :: v36 :: v37 :: v38 :: v39 :: v40 :: v41 :: v42 :: v43 :: v44 :: v45 :: v46 :: v47 :: v48 :: v49 :: v50 :: v51 :: v52 :: v53 :: v54 :: v55 :: v56 :: v57 :: v58 :: v59 :: v60 :: v61 :: v62 :: v63 :: v64 :: v65 :: v66 :: v67 :: v68 :: v69 :: v70 :: v71 :: v72 :: v73 :: v74 :: v75 :: v76 :: v77 :: v78 :: v79 :: v80 :: v81 :: v82 :: v83 :: v84 :: v85 :: v86 :: v87 :: v88 :: v89 :: v90 :: v91 :: v92 :: v93 :: v94 :: v95 :: v96 :: v97 :: v98 :: v99 :: v100 :: v101 :: v102 :: v103 :: v104 :: v105 :: v106 :: v107 :: v108 :: v109 :: v110 :: v111 :: v112 :: v113 :: v114 :: v115 :: v116 :: v117 :: v118 :: v119 :: v120 :: v121 :: v122 :: v123 :: v124 :: v125 :: v126 :: v127 :: v128 :: v129 :: v130 :: v131 :: v132 :: v133 :: v134 :: v135 :: v136 :: v137 :: v138 :: v139 :: v140 :: v141 :: v142 :: v143 :: v144 :: v145 :: v146 :: v147 :: v148 :: v149 :: v150 :: v151 :: v152 :: v153 :: v154 :: v155 :: v156 :: v157 :: v158 :: v159 :: v160 :: v161 :: v162 :: v163 :: v164 :: v165 :: v166 :: v167 :: v168 :: v169 :: v170 :: v171 :: v172 :: v173 :: v174 :: v175 :: v176 :: v177 :: v178 :: v179 :: v180 :: v181 :: v182 :: v183 :: v184 :: v185 :: v186 :: v187 :: v188 :: v189 :: v190 :: v191 :: v192 :: v193 :: v194 :: v195 :: v196 :: v197 :: v198 :: v199 :: v200 :: v201 :: v202 :: v203 :: v204 :: v205 :: v206 :: v207 :: v208 :: v209 :: v210 :: v211 :: v212 :: v213 :: v214 :: v215 :: v216 :: v217 :: v218 :: v219 :: v220 :: v221 :: v222 :: v223 :: v224 :: v225 :: v226 :: v227 :: v228 :: v229 :: v230 :: []), defers := [] } wc := by
  conv => enter [2]; whnf
  have STC := Lib.hid (fun w (hw : Below wc.heap.size wc w) => cstep_any T r dn dm db rl p w (H5.out.below hw).p.t.ch (HTO.out.below (H5.out.p.t.low.trans (hw.mono H5.out.p.t.low.size))) (by omega) (by omega))
  rw [hst, hL] at STC
  unfold StepBack at STC
  dsimp only at STC
  have MK : Hid (∀ w', Turn (fun k => k = rr) wc w' → (w'.cell? ⟨w5.heap.size, 1, none⟩ = some (.int .i64 r) ∧ w'.cell? ⟨w5.heap.size, 2, none⟩ = some (.slice (some ⟨g5, o5, none⟩) N c5) ∧ w'.cell? ⟨g5, o5 + k * 7, none⟩ = some (.int .i64 T.id) ∧ w'.cell? ⟨g5, o5 + k * 7 + 1, none⟩ = some (.int .i64 T.c) ∧ w'.cell? ⟨g5, o5 + k * 7 + 2, none⟩ = some (.int .i64 T.d) ∧ w'.cell? ⟨g5, o5 + k * 7 + 3, none⟩ = some (.int .i64 T.t) ∧ w'.cell? ⟨g5, o5 + k * 7 + 4, none⟩ = some (.int .i64 T.p) ∧ w'.cell? ⟨g5, o5 + k * 7 + 5, none⟩ = some (.slice T.a1 T.ch.length T.c1) ∧ w'.cell? ⟨g5, o5 + k * 7 + 6, none⟩ = some (.slice T.a2 T.us.length T.c2) ∧ w'.cell? ⟨g2, k * 8, none⟩ = some (.int .i64 dn) ∧ w'.cell? ⟨g2, k * 8 + 1, none⟩ = some (.int .i64 dm) ∧ w'.cell? ⟨g2, k * 8 + 2, none⟩ = some (.int .i64 db) ∧ w'.cell? ⟨g2, k * 8 + 3, none⟩ = some (.int .i64 rl) ∧ w'.cell? ⟨g2, k * 8 + 4, none⟩ = some (.int .u64 (wd p 0)) ∧ w'.cell? ⟨g2, k * 8 + 5, none⟩ = some (.int .u64 (wd p 1)) ∧ w'.cell? ⟨g2, k * 8 + 6, none⟩ = some (.int .u64 (wd p 2)) ∧ w'.cell? ⟨g2, k * 8 + 7, none⟩ = some (.int .u64 (wd p 3)))) := fun w' ht => by
    have hsb := ht.obj H5.out.p.t.sb (Nat.ne_of_lt H5.out.p.t.lr)
    have hlow := H5.out.p.t.low.trans (ht.below (B := w5.heap.size) H5.out.p.t.low.size (fun i q => by subst q; exact Nat.le_of_lt H5.out.p.t.lr))
    obtain ⟨x0, x1, x2, x3, x4, x5, x6⟩ := HVW.out
    obtain ⟨y0, y1, y2, y3, y4, y5, y6, y7⟩ := (H5.out.p.t.ar.turn ht H5.out.p.t.gr).cells hk6
    rw [hw4] at y0 y1 y2 y3 y4 y5 y6 y7
    exact ⟨by rw [blk_cell hsb]; rfl, by rw [blk_cell hsb]; rfl, kept_cellB hlow (block_of_cell x0) x0, kept_cellB hlow (block_of_cell x1) x1, kept_cellB hlow (block_of_cell x2) x2, kept_cellB hlow (block_of_cell x3) x3, kept_cellB hlow (block_of_cell x4) x4, kept_cellB hlow (block_of_cell x5) x5, kept_cellB hlow (block_of_cell x6) x6, y0, y1, y2, y3, y4, y5, y6, y7⟩
  have tb := Turn.refl (fun k => k = rr) wc
  have bb := Below.refl wc.heap.size wc
  have HNE : Hid (wc.heap.size ≠ rr) := by have := H5.out.p.t.ch.lt.2; show _ ≠ _; omega
  go_upto_region 22 with fail
  go_cut [16, 17] from 101 to 115 (fun u v wx => ∃ gx : Nat, u = .pointer (some ⟨gx, 0, none⟩) ∧ v = .bool q' ∧ Hid (PlayO w5 ns r (some ⟨g5, o5, none⟩) N c5 b rr g2 b2 og O Lc' Lc f' r2 wx) ∧ Hid (wx.heap[gx]? = some (.cells #[.int .i64 dn', .int .i64 dm, .int .i64 db', .int .i64 rl', .int .u64 (wd p' 0), .int .u64 (wd p' 1), .int .u64 (wd p' 2), .int .u64 (wd p' 3)] WT (0, 0))) ∧ Hid (gx ≠ r2))
  case first =>
    go_region_held3 (fun w' => w'.cell? ⟨w5.heap.size, 1, none⟩ = some (.int .i64 r) ∧ w'.cell? ⟨w5.heap.size, 2, none⟩ = some (.slice (some ⟨g5, o5, none⟩) N c5) ∧ w'.cell? ⟨g5, o5 + k * 7, none⟩ = some (.int .i64 T.id) ∧ w'.cell? ⟨g5, o5 + k * 7 + 1, none⟩ = some (.int .i64 T.c) ∧ w'.cell? ⟨g5, o5 + k * 7 + 2, none⟩ = some (.int .i64 T.d) ∧ w'.cell? ⟨g5, o5 + k * 7 + 3, none⟩ = some (.int .i64 T.t) ∧ w'.cell? ⟨g5, o5 + k * 7 + 4, none⟩ = some (.int .i64 T.p) ∧ w'.cell? ⟨g5, o5 + k * 7 + 5, none⟩ = some (.slice T.a1 T.ch.length T.c1) ∧ w'.cell? ⟨g5, o5 + k * 7 + 6, none⟩ = some (.slice T.a2 T.us.length T.c2) ∧ w'.cell? ⟨g2, k * 8, none⟩ = some (.int .i64 dn) ∧ w'.cell? ⟨g2, k * 8 + 1, none⟩ = some (.int .i64 dm) ∧ w'.cell? ⟨g2, k * 8 + 2, none⟩ = some (.int .i64 db) ∧ w'.cell? ⟨g2, k * 8 + 3, none⟩ = some (.int .i64 rl) ∧ w'.cell? ⟨g2, k * 8 + 4, none⟩ = some (.int .u64 (wd p 0)) ∧ w'.cell? ⟨g2, k * 8 + 5, none⟩ = some (.int .u64 (wd p 1)) ∧ w'.cell? ⟨g2, k * 8 + 6, none⟩ = some (.int .u64 (wd p 2)) ∧ w'.cell? ⟨g2, k * 8 + 7, none⟩ = some (.int .u64 (wd p 3))) (exact MK.out _ (by repeat (first | (with_reducible assumption) | (with_reducible refine Turn.drew ?_) | (with_reducible refine Turn.alloc ?_ _) | with_reducible refine Turn.setCell ?_ (fun q => absurd q (Nat.lt_irrefl _)) _))) (first | (go_at_call 17; (with_reducible refine (STC.out _ (by repeat (first | (with_reducible assumption) | refine Below.drew ?_ | refine Below.alloc ?_ (by first | omega | (simp; omega)) _))).mono ?_); rintro e wx ⟨rfl, hcx, htx⟩; have tx := Turn.then ((by repeat (first | (with_reducible assumption) | (with_reducible refine Turn.drew ?_) | (with_reducible refine Turn.alloc ?_ _) | with_reducible refine Turn.setCell ?_ (fun q => absurd q (Nat.lt_irrefl _)) _)) : Turn (fun k => k = rr) wc _) htx; have HCX := Lib.hid hcx; (try (have hq : wx.heap[wc.heap.size]? = _ := htx.obj (heap_alloc_new wc.drew _) HNE.out; have FB := Lib.hid (H5.out.put (H5.out.turnC tx hcx) hq (.int .i64 dn') (.int .i64 dm) (.int .i64 db') (.int .i64 rl') (.int .u64 (wd p' 0)) (.int .u64 (wd p' 1)) (.int .u64 (wd p' 2)) (.int .u64 (wd p' 3))); have p0 : wx.cell? ⟨wc.heap.size, 0, none⟩ = some (.int .i64 0) := (by rw [blk_cell hq]; rfl); have p1 : wx.cell? ⟨wc.heap.size, 1, none⟩ = some (.int .i64 0) := (by rw [blk_cell hq]; rfl); have p2 : wx.cell? ⟨wc.heap.size, 2, none⟩ = some (.int .i64 0) := (by rw [blk_cell hq]; rfl); have p3 : wx.cell? ⟨wc.heap.size, 3, none⟩ = some (.int .i64 0) := (by rw [blk_cell hq]; rfl); have p4 : wx.cell? ⟨wc.heap.size, 4, none⟩ = some (.int .u64 0) := (by rw [blk_cell hq]; rfl); have p5 : wx.cell? ⟨wc.heap.size, 5, none⟩ = some (.int .u64 0) := (by rw [blk_cell hq]; rfl); have p6 : wx.cell? ⟨wc.heap.size, 6, none⟩ = some (.int .u64 0) := (by rw [blk_cell hq]; rfl); have p7 : wx.cell? ⟨wc.heap.size, 7, none⟩ = some (.int .u64 0) := (by rw [blk_cell hq]; rfl); have fp0 : wx.frozen? ⟨wc.heap.size, 0, none⟩ = false := blk_free hq 0; have fp1 : wx.frozen? ⟨wc.heap.size, 1, none⟩ = false := blk_free hq 1; have fp2 : wx.frozen? ⟨wc.heap.size, 2, none⟩ = false := blk_free hq 2; have fp3 : wx.frozen? ⟨wc.heap.size, 3, none⟩ = false := blk_free hq 3; have fp4 : wx.frozen? ⟨wc.heap.size, 4, none⟩ = false := blk_free hq 4; have fp5 : wx.frozen? ⟨wc.heap.size, 5, none⟩ = false := blk_free hq 5; have fp6 : wx.frozen? ⟨wc.heap.size, 6, none⟩ = false := blk_free hq 6; have fp7 : wx.frozen? ⟨wc.heap.size, 7, none⟩ = false := blk_free hq 7; clear hq)); clear hcx htx))
    all_goals
      go_wp2_with fail
      go_meet
      first
        | (have FB2 := FB
           refine ⟨wc.heap.size, rfl, rfl, ?_, ?_, ?_⟩
           · with_reducible exact Lib.hid FB2.out.1
           · with_reducible exact Lib.hid FB2.out.2
           · exact Lib.hid (Nat.ne_of_lt H5.out.p.rc.lt.2).symm)
        | (refine ⟨wx.heap.size, rfl, rfl, ?_, ?_, ?_⟩
           · with_reducible exact Lib.hid (PlayO.below (H5.out.turnC tx HCX.out) (bw_alloc (Below.refl _ _) _))
           · with_reducible exact Lib.hid (heap_alloc_new wx _)
           · exact Lib.hid (Nat.ne_of_lt (H5.out.turnC tx HCX.out).p.rc.lt.2).symm)
  case rest =>
    clear STC MK tb bb HNE
    obtain ⟨gx, rfl, rfl, H6, HX, HGX⟩ := hcut
    have STC := Lib.hid (fun w (hw : Below wc.heap.size wc w) => rstep_any T r dn dm db rl p w (H6.out.below hw).p.rc (HTO.out.below (H6.out.p.t.low.trans (hw.mono H6.out.p.t.low.size))) (by omega) (by omega))
    rw [hst, hL] at STC
    unfold StepBack at STC
    dsimp only at STC
    have MK : Hid (∀ w', Turn (fun k => k = r2) wc w' → (w'.cell? ⟨w5.heap.size, 1, none⟩ = some (.int .i64 r) ∧ w'.cell? ⟨w5.heap.size, 2, none⟩ = some (.slice (some ⟨g5, o5, none⟩) N c5) ∧ w'.cell? ⟨g5, o5 + k * 7, none⟩ = some (.int .i64 T.id) ∧ w'.cell? ⟨g5, o5 + k * 7 + 1, none⟩ = some (.int .i64 T.c) ∧ w'.cell? ⟨g5, o5 + k * 7 + 2, none⟩ = some (.int .i64 T.d) ∧ w'.cell? ⟨g5, o5 + k * 7 + 3, none⟩ = some (.int .i64 T.t) ∧ w'.cell? ⟨g5, o5 + k * 7 + 4, none⟩ = some (.int .i64 T.p) ∧ w'.cell? ⟨g5, o5 + k * 7 + 5, none⟩ = some (.slice T.a1 T.ch.length T.c1) ∧ w'.cell? ⟨g5, o5 + k * 7 + 6, none⟩ = some (.slice T.a2 T.us.length T.c2) ∧ w'.cell? ⟨g2, k * 8, none⟩ = some (.int .i64 dn) ∧ w'.cell? ⟨g2, k * 8 + 1, none⟩ = some (.int .i64 dm) ∧ w'.cell? ⟨g2, k * 8 + 2, none⟩ = some (.int .i64 db) ∧ w'.cell? ⟨g2, k * 8 + 3, none⟩ = some (.int .i64 rl) ∧ w'.cell? ⟨g2, k * 8 + 4, none⟩ = some (.int .u64 (wd p 0)) ∧ w'.cell? ⟨g2, k * 8 + 5, none⟩ = some (.int .u64 (wd p 1)) ∧ w'.cell? ⟨g2, k * 8 + 6, none⟩ = some (.int .u64 (wd p 2)) ∧ w'.cell? ⟨g2, k * 8 + 7, none⟩ = some (.int .u64 (wd p 3)))) := fun w' ht => by
      have hsb := ht.obj H6.out.p.t.sb (Nat.ne_of_lt H6.out.p.l2)
      have hlow := H6.out.p.t.low.trans (ht.below (B := w5.heap.size) H6.out.p.t.low.size (fun i q => by subst q; exact Nat.le_of_lt H6.out.p.l2))
      obtain ⟨x0, x1, x2, x3, x4, x5, x6⟩ := HVW.out
      obtain ⟨y0, y1, y2, y3, y4, y5, y6, y7⟩ := (H6.out.p.t.ar.turn ht H6.out.p.d3.symm).cells hk6
      rw [hw4] at y0 y1 y2 y3 y4 y5 y6 y7
      exact ⟨by rw [blk_cell hsb]; rfl, by rw [blk_cell hsb]; rfl, kept_cellB hlow (block_of_cell x0) x0, kept_cellB hlow (block_of_cell x1) x1, kept_cellB hlow (block_of_cell x2) x2, kept_cellB hlow (block_of_cell x3) x3, kept_cellB hlow (block_of_cell x4) x4, kept_cellB hlow (block_of_cell x5) x5, kept_cellB hlow (block_of_cell x6) x6, y0, y1, y2, y3, y4, y5, y6, y7⟩
    have tb := Turn.refl (fun k => k = r2) wc
    have bb := Below.refl wc.heap.size wc
    have HNE : Hid (wc.heap.size ≠ r2) := by have := H6.out.p.rc.lt.2; show _ ≠ _; omega
    go_upto_region 23 with fail
    go_cut [18, 19] from 116 to 130 (fun u v wx => ∃ gy : Nat, u = .pointer (some ⟨gy, 0, none⟩) ∧ v = .bool q' ∧ Hid (PlayO w5 ns r (some ⟨g5, o5, none⟩) N c5 b rr g2 b2 og O Lc' Lc' f' r2 wx) ∧ Hid (wx.heap[gy]? = some (.cells #[.int .i64 dn', .int .i64 dm, .int .i64 db', .int .i64 rl', .int .u64 (wd p' 0), .int .u64 (wd p' 1), .int .u64 (wd p' 2), .int .u64 (wd p' 3)] WT (0, 0))) ∧ Hid (wx.heap[gx]? = some (.cells #[.int .i64 dn', .int .i64 dm, .int .i64 db', .int .i64 rl', .int .u64 (wd p' 0), .int .u64 (wd p' 1), .int .u64 (wd p' 2), .int .u64 (wd p' 3)] WT (0, 0))))
    case first =>
      go_region_held3 (fun w' => w'.cell? ⟨w5.heap.size, 1, none⟩ = some (.int .i64 r) ∧ w'.cell? ⟨w5.heap.size, 2, none⟩ = some (.slice (some ⟨g5, o5, none⟩) N c5) ∧ w'.cell? ⟨g5, o5 + k * 7, none⟩ = some (.int .i64 T.id) ∧ w'.cell? ⟨g5, o5 + k * 7 + 1, none⟩ = some (.int .i64 T.c) ∧ w'.cell? ⟨g5, o5 + k * 7 + 2, none⟩ = some (.int .i64 T.d) ∧ w'.cell? ⟨g5, o5 + k * 7 + 3, none⟩ = some (.int .i64 T.t) ∧ w'.cell? ⟨g5, o5 + k * 7 + 4, none⟩ = some (.int .i64 T.p) ∧ w'.cell? ⟨g5, o5 + k * 7 + 5, none⟩ = some (.slice T.a1 T.ch.length T.c1) ∧ w'.cell? ⟨g5, o5 + k * 7 + 6, none⟩ = some (.slice T.a2 T.us.length T.c2) ∧ w'.cell? ⟨g2, k * 8, none⟩ = some (.int .i64 dn) ∧ w'.cell? ⟨g2, k * 8 + 1, none⟩ = some (.int .i64 dm) ∧ w'.cell? ⟨g2, k * 8 + 2, none⟩ = some (.int .i64 db) ∧ w'.cell? ⟨g2, k * 8 + 3, none⟩ = some (.int .i64 rl) ∧ w'.cell? ⟨g2, k * 8 + 4, none⟩ = some (.int .u64 (wd p 0)) ∧ w'.cell? ⟨g2, k * 8 + 5, none⟩ = some (.int .u64 (wd p 1)) ∧ w'.cell? ⟨g2, k * 8 + 6, none⟩ = some (.int .u64 (wd p 2)) ∧ w'.cell? ⟨g2, k * 8 + 7, none⟩ = some (.int .u64 (wd p 3))) (exact MK.out _ (by repeat (first | (with_reducible assumption) | (with_reducible refine Turn.drew ?_) | (with_reducible refine Turn.alloc ?_ _) | with_reducible refine Turn.setCell ?_ (fun q => absurd q (Nat.lt_irrefl _)) _))) (first | (go_at_call 18; (with_reducible refine (STC.out _ (by repeat (first | (with_reducible assumption) | refine Below.drew ?_ | refine Below.alloc ?_ (by first | omega | (simp; omega)) _))).mono ?_); rintro e wx ⟨rfl, hcx, htx⟩; have tx := Turn.then ((by repeat (first | (with_reducible assumption) | (with_reducible refine Turn.drew ?_) | (with_reducible refine Turn.alloc ?_ _) | with_reducible refine Turn.setCell ?_ (fun q => absurd q (Nat.lt_irrefl _)) _)) : Turn (fun k => k = r2) wc _) htx; have HCX := Lib.hid hcx; (try (have hq : wx.heap[wc.heap.size]? = _ := htx.obj (heap_alloc_new wc.drew _) HNE.out; have FB := Lib.hid (H6.out.put (H6.out.turnR tx hcx) hq (.int .i64 dn') (.int .i64 dm) (.int .i64 db') (.int .i64 rl') (.int .u64 (wd p' 0)) (.int .u64 (wd p' 1)) (.int .u64 (wd p' 2)) (.int .u64 (wd p' 3))); have p0 : wx.cell? ⟨wc.heap.size, 0, none⟩ = some (.int .i64 0) := (by rw [blk_cell hq]; rfl); have p1 : wx.cell? ⟨wc.heap.size, 1, none⟩ = some (.int .i64 0) := (by rw [blk_cell hq]; rfl); have p2 : wx.cell? ⟨wc.heap.size, 2, none⟩ = some (.int .i64 0) := (by rw [blk_cell hq]; rfl); have p3 : wx.cell? ⟨wc.heap.size, 3, none⟩ = some (.int .i64 0) := (by rw [blk_cell hq]; rfl); have p4 : wx.cell? ⟨wc.heap.size, 4, none⟩ = some (.int .u64 0) := (by rw [blk_cell hq]; rfl); have p5 : wx.cell? ⟨wc.heap.size, 5, none⟩ = some (.int .u64 0) := (by rw [blk_cell hq]; rfl); have p6 : wx.cell? ⟨wc.heap.size, 6, none⟩ = some (.int .u64 0) := (by rw [blk_cell hq]; rfl); have p7 : wx.cell? ⟨wc.heap.size, 7, none⟩ = some (.int .u64 0) := (by rw [blk_cell hq]; rfl); have fp0 : wx.frozen? ⟨wc.heap.size, 0, none⟩ = false := blk_free hq 0; have fp1 : wx.frozen? ⟨wc.heap.size, 1, none⟩ = false := blk_free hq 1; have fp2 : wx.frozen? ⟨wc.heap.size, 2, none⟩ = false := blk_free hq 2; have fp3 : wx.frozen? ⟨wc.heap.size, 3, none⟩ = false := blk_free hq 3; have fp4 : wx.frozen? ⟨wc.heap.size, 4, none⟩ = false := blk_free hq 4; have fp5 : wx.frozen? ⟨wc.heap.size, 5, none⟩ = false := blk_free hq 5; have fp6 : wx.frozen? ⟨wc.heap.size, 6, none⟩ = false := blk_free hq 6; have fp7 : wx.frozen? ⟨wc.heap.size, 7, none⟩ = false := blk_free hq 7; clear hq)); clear hcx htx))
      all_goals
        go_wp2_with fail
        go_meet
        first
          | (have FB2 := FB
             refine ⟨wc.heap.size, rfl, rfl, ?_, ?_, ?_⟩
             · with_reducible exact Lib.hid FB2.out.1
             · with_reducible exact Lib.hid FB2.out.2
             · with_reducible exact Lib.hid (box_far8 (tx.obj HX.out HGX.out) (Nat.ne_of_lt (lt_of_block HX.out)) _ _ _ _ _ _ _ _))
          | (refine ⟨wx.heap.size, rfl, rfl, ?_, ?_, ?_⟩
             · with_reducible exact Lib.hid (PlayO.below (H6.out.turnR tx HCX.out) (bw_alloc (Below.refl _ _) _))
             · with_reducible exact Lib.hid (heap_alloc_new wx _)
             · with_reducible exact Lib.hid (kept_obj (bw_alloc (Below.refl _ _) _) (tx.obj HX.out HGX.out)))
    case rest =>
      clear STC MK tb bb HNE
      obtain ⟨gy, rfl, rfl, H7, HY, HX'⟩ := hcut
      clear HX HGX
      go_upto_region 24 with fail
      have x0 : wc.cell? ⟨gx, 0, none⟩ = some (.int .i64 dn') := by rw [blk_cell HX'.out]; rfl
      have x1 : wc.cell? ⟨gx, 1, none⟩ = some (.int .i64 dm) := by rw [blk_cell HX'.out]; rfl
      have x2 : wc.cell? ⟨gx, 2, none⟩ = some (.int .i64 db') := by rw [blk_cell HX'.out]; rfl
      have x3 : wc.cell? ⟨gx, 3, none⟩ = some (.int .i64 rl') := by rw [blk_cell HX'.out]; rfl
      have x4 : wc.cell? ⟨gx, 4, none⟩ = some (.int .u64 (wd p' 0)) := by rw [blk_cell HX'.out]; rfl
      have x5 : wc.cell? ⟨gx, 5, none⟩ = some (.int .u64 (wd p' 1)) := by rw [blk_cell HX'.out]; rfl
      have x6 : wc.cell? ⟨gx, 6, none⟩ = some (.int .u64 (wd p' 2)) := by rw [blk_cell HX'.out]; rfl
      have x7 : wc.cell? ⟨gx, 7, none⟩ = some (.int .u64 (wd p' 3)) := by rw [blk_cell HX'.out]; rfl
      have y0 : wc.cell? ⟨gy, 0, none⟩ = some (.int .i64 dn') := by rw [blk_cell HY.out]; rfl
      have y1 : wc.cell? ⟨gy, 1, none⟩ = some (.int .i64 dm) := by rw [blk_cell HY.out]; rfl
      have y2 : wc.cell? ⟨gy, 2, none⟩ = some (.int .i64 db') := by rw [blk_cell HY.out]; rfl
      have y3 : wc.cell? ⟨gy, 3, none⟩ = some (.int .i64 rl') := by rw [blk_cell HY.out]; rfl
      have y4 : wc.cell? ⟨gy, 4, none⟩ = some (.int .u64 (wd p' 0)) := by rw [blk_cell HY.out]; rfl
      have y5 : wc.cell? ⟨gy, 5, none⟩ = some (.int .u64 (wd p' 1)) := by rw [blk_cell HY.out]; rfl
      have y6 : wc.cell? ⟨gy, 6, none⟩ = some (.int .u64 (wd p' 2)) := by rw [blk_cell HY.out]; rfl
      have y7 : wc.cell? ⟨gy, 7, none⟩ = some (.int .u64 (wd p' 3)) := by rw [blk_cell HY.out]; rfl
      go_upto_region 25 with fail
      refine gen_world (fun w => PlayO w5 ns r (some ⟨g5, o5, none⟩) N c5 b rr g2 b2 og O Lc' Lc' f' r2 w ∧ w.heap[gy]? = some (.cells #[.int .i64 dn', .int .i64 dm, .int .i64 db', .int .i64 rl', .int .u64 (wd p' 0), .int .u64 (wd p' 1), .int .u64 (wd p' 2), .int .u64 (wd p' 3)] WT (0, 0))) ⟨H7.out.below ⟨rfl, rfl, rfl, Nat.le_refl _, fun _ _ => rfl⟩, kept_obj (w := _) ⟨rfl, rfl, rfl, Nat.le_refl _, fun _ _ => rfl⟩ HY.out⟩ ?_
      intro V8 ⟨hv8, hy8⟩
      have H8 := Lib.hid hv8
      have HY8 := Lib.hid hy8
      clear hv8 hy8 HX' HY x0 x1 x2 x3 x4 x5 x6 x7 y0 y1 y2 y3 y4 y5 y6 y7 H7
      have y0 : V8.cell? ⟨gy, 0, none⟩ = some (.int .i64 dn') := by rw [blk_cell HY8.out]; rfl
      have y1 : V8.cell? ⟨gy, 1, none⟩ = some (.int .i64 dm) := by rw [blk_cell HY8.out]; rfl
      have y2 : V8.cell? ⟨gy, 2, none⟩ = some (.int .i64 db') := by rw [blk_cell HY8.out]; rfl
      have y3 : V8.cell? ⟨gy, 3, none⟩ = some (.int .i64 rl') := by rw [blk_cell HY8.out]; rfl
      have y4 : V8.cell? ⟨gy, 4, none⟩ = some (.int .u64 (wd p' 0)) := by rw [blk_cell HY8.out]; rfl
      have y5 : V8.cell? ⟨gy, 5, none⟩ = some (.int .u64 (wd p' 1)) := by rw [blk_cell HY8.out]; rfl
      have y6 : V8.cell? ⟨gy, 6, none⟩ = some (.int .u64 (wd p' 2)) := by rw [blk_cell HY8.out]; rfl
      have y7 : V8.cell? ⟨gy, 7, none⟩ = some (.int .u64 (wd p' 3)) := by rw [blk_cell HY8.out]; rfl
      obtain ⟨a0, a1, a2, a3, a4, a5', a6, a7⟩ := H8.out.p.t.ar.cells hk6
      rw [hw4] at a0 a1 a2 a3 a4 a5' a6 a7
      have g0 := H8.out.p.t.ar.free (k * 8)
      have g1 := H8.out.p.t.ar.free (k * 8 + 1)
      have gf2 := H8.out.p.t.ar.free (k * 8 + 2)
      have g3 := H8.out.p.t.ar.free (k * 8 + 3)
      have g4 := H8.out.p.t.ar.free (k * 8 + 4)
      have gf5 := H8.out.p.t.ar.free (k * 8 + 5)
      have g6 := H8.out.p.t.ar.free (k * 8 + 6)
      have g7 := H8.out.p.t.ar.free (k * 8 + 7)
      have HSET := Lib.hid (H8.out.set hk6 ⟨dn', dm, db', rl', p'⟩)
      go_upto_region 26 with fail
      refine gen_world (PlayO w5 ns r (some ⟨g5, o5, none⟩) N c5 b rr g2 b2 og O Lc' Lc' (setW f' k ⟨dn', dm, db', rl', p'⟩) r2) (by first | exact HSET.out | exact HSET.out.below ⟨rfl, rfl, rfl, Nat.le_refl _, fun _ _ => rfl⟩) ?_
      intro V9 hv9
      rw [hfn] at hv9
      have H9 := Lib.hid hv9
      clear hv9 HSET H8 HY8 y0 y1 y2 y3 y4 y5 y6 y7 a0 a1 a2 a3 a4 a5' a6 a7
      obtain ⟨-, -, -, -, o4, -, -, -, -, -, -, -, -, -, -⟩ := H9.out.ocells
      obtain ⟨qr, hqr⟩ : ∃ qr, O.raw = qr := ⟨_, rfl⟩
      rw [hqr] at o4
      clear hqr
      cases qr
      · go_wp2_with fail
        exact HPO.out _ _ _ _ _ _ _ _ _ _ _ _ _ _ _ _ _ _ _ _ _ _ _ _ _ _ _ _ _ _ _ _ _ _ _ _ _ _ _ _ _ _ _ _ _ _ _ _ _ _ _ _ _ _ _ _ _ _ _ _ _ _ _ _ _ _ _ _ _ _ _ _ _ _ _ _ _ _ _ _ _ _ _ _ _ _ _ _ _ _ _ _ _ (by simp) (by first | exact H9 | exact Lib.hid (H9.out.below ⟨rfl, rfl, rfl, Nat.le_refl _, fun _ _ => rfl⟩))
      · go_upto_if 143 with fail
        clear o4
        refine wp_cond_true rfl ?_
        refine raw_part HTO HVW HOK hk0 hkN' H9 (Lib.hid ?_)
        intro x14 x20 x21 x22 x23 x144 x145 x146 x147 x148 x149 x150 x151 x152 x153 x154 x155 x156 x157 x158 x159 x160 x161 x162 x163 x164 x165 x166 x167 x168 x169 x170 x171 x172 x173 x174 x175 x176 x177 x178 x179 x180 x181 x182 L4 w' hu H11
        subst hu
        exact HPO.out _ _ _ _ _ _ _ _ _ _ _ _ _ _ _ _ _ _ _ _ _ _ _ _ _ _ _ _ _ _ _ _ _ _ _ _ _ _ _ _ _ _ _ _ _ _ _ _ _ _ _ _ _ _ _ _ _ _ _ _ _ _ _ _ _ _ _ _ _ _ _ _ _ _ _ _ _ _ _ _ _ _ _ _ _ _ _ _ _ _ _ _ _ rfl H11
end Go.Proofs.Ytflemmmaakhahaa

/-
  The walk over a step, of whatever kind, of the statement that a cache goes on.
-/
namespace Go.Proofs.Ytflemmmaakhahaa
open Go.RowKit Go.Maps
attribute [-go_sem] run_eql_struct run_neq_struct
attribute [local go_sem] work_eql workGuard bits_neq bitsGuard

/-- The step. -/
noncomputable def switchCode : Code := navC [1, 1, 1, 1, 1, 1, 1, 0, 1, 4, 5, 1, 0, 4, 1, 1, 1, 1, 1, 0, 1] (Try.f3.body.getD .skip)

set_option maxRecDepth 100000 in
set_option maxHeartbeats 32000000 in
theorem switch_part {v0 v1 v2 v3 v4 v5 v10 v15 v16 v17 v18 v19 v20 v21 v22 v23 v24 v25 v26 v27 v28 v29 v30 v31 v32 v33 v34 v35 v36 v37 v38 v39 v40 v41 v42 v43 v44 v45 v46 v47 v48 v49 v50 v51 v52 v53 v54 v55 v56 v57 v58 v59 v60 v61 v62 v63 v64 v65 v66 v67 v69 v70 v71 v72 v73 v74 v75 v76 v77 v78 v79 v80 v81 v82 v83 v84 v85 v86 v87 v88 v89 v90 v91 v92 v93 v94 v95 v96 v97 v98 v99 v100 v101 v102 v103 v104 v105 v106 v107 v108 v109 v110 v111 v112 v113 v114 v115 v116 v117 v118 v119 v120 v121 v122 v123 v124 v125 v126 v127 v128 v129 v130 v131 v132 v133 v134 v135 v136 v137 v138 v139 v140 v141 v142 v143 v144 v145 v146 v147 v148 v149 v150 v151 v152 v153 v154 v155 v156 v157 v158 v159 v160 v161 v162 v163 v164 v165 v166 v167 v168 v169 v170 v171 v172 v173 v174 v175 v176 v177 v178 v179 v180 v181 v182 v183 v184 v185 v186 v187 v188 v189 v190 v191 v192 v193 v194 v195 v196 v197 v198 v199 v200 v201 v202 v203 v204 v205 v206 v207 v208 v209 v210 v211 v212 v213 v214 v215 v216 v217 v218 v219 v220 v221 v222 v223 v224 v225 v226 v227 v228 v229 v230 : Value} {w5 wc : World} {ns : Nat} {r s ow : Int} {g5 o5 N c5 b rr g2 b2 og r2 i kq : Nat} {O : OV} {Lc : Nat → Int} {ff : Nat → WK} {M : List TV} (hN1 : 0 < N) (hN6 : N ≤ 6) (hns : ns ≤ 8) (hr0 : 0 ≤ r) (hr3 : r ≤ 3) (hi2 : (i : Int) < 80) (HM : Hid (Made (ns : Int) r M)) (HT5 : Hid (Tasks w5 (some ⟨g5, o5, none⟩) N c5 M)) (HOK : Hid O.ok) (HI : Hid (∀ k, k < 6 → Inv r (100 + i) (ff k)))
    (H2 : Hid (PlayO w5 ns r (some ⟨g5, o5, none⟩) N c5 b rr g2 b2 og O Lc Lc ff r2 wc)) {Post : Exit → Act → World → Prop}
    (HPO : Hid (∀ (x14 x15 x16 x17 x18 x19 x20 x21 x22 x23 x69 x70 x71 x72 x73 x74 x75 x76 x77 x78 x79 x80 x81 x82 x83 x84 x85 x86 x87 x88 x89 x90 x91 x92 x93 x94 x95 x96 x97 x98 x99 x100 x101 x102 x103 x104 x105 x106 x107 x108 x109 x110 x111 x112 x113 x114 x115 x116 x117 x118 x119 x120 x121 x122 x123 x124 x125 x126 x127 x128 x129 x130 x131 x132 x133 x134 x135 x136 x137 x138 x139 x140 x141 x142 x143 x144 x145 x146 x147 x148 x149 x150 x151 x152 x153 x154 x155 x156 x157 x158 x159 x160 x161 x162 x163 x164 x165 x166 x167 x168 x169 x170 x171 x172 x173 x174 x175 x176 x177 x178 x179 x180 x181 x182 x183 x184 x185 x186 x187 x188 x189 x190 x191 x192 x193 x194 x195 x196 x197 x198 x199 x200 x201 x202 : Value) (L4 : Nat → Int) (f4 : Nat → WK) (r4 : Nat) (w' : World), x14 = .bool true → Hid (PlayO w5 ns r (some ⟨g5, o5, none⟩) N c5 b rr g2 b2 og O L4 L4 f4 r4 w') → Hid (∀ k, k < 6 → Inv r (100 + (i + 1)) (f4 k)) → Post .normal { tmps := List.toArray (v0 :: v1 :: v2 :: v3 :: v4 :: v5 :: (.pointer (some ⟨w5.heap.size, 0, none⟩) : Value) :: (.pointer (some ⟨b, 0, none⟩) : Value) :: (.pointer (some ⟨b2, 0, none⟩) : Value) :: (.pointer (some ⟨g2, 0, none⟩) : Value) :: v10 :: (.pointer (some ⟨og, 0, none⟩) : Value) :: (.int .i64 s : Value) :: (.int .i64 ow : Value) :: x14 :: x15 :: x16 :: x17 :: x18 :: x19 :: x20 :: x21 :: x22 :: x23 :: v24 :: v25 :: v26 :: v27 :: v28 :: v29 :: v30 :: v31 :: v32 :: v33 :: v34 :: v35 :: v36 :: v37 :: v38 :: v39 :: v40 :: v41 :: v42 :: v43 :: v44 :: v45 :: v46 :: v47 :: v48 :: v49 :: v50 :: v51 :: v52 :: v53 :: v54 :: v55 :: v56 :: v57 :: v58 :: v59 :: v60 :: v61 :: v62 :: v63 :: v64 :: v65 :: v66 :: v67 :: (.int .i64 (kq : Int) : Value) :: x69 :: x70 :: x71 :: x72 :: x73 :: x74 :: x75 :: x76 :: x77 :: x78 :: x79 :: x80 :: x81 :: x82 :: x83 :: x84 :: x85 :: x86 :: x87 :: x88 :: x89 :: x90 :: x91 :: x92 :: x93 :: x94 :: x95 :: x96 :: x97 :: x98 :: x99 :: x100 :: x101 :: x102 :: x103 :: x104 :: x105 :: x106 :: x107 :: x108 :: x109 :: x110 :: x111 :: x112 :: x113 :: x114 :: x115 :: x116 :: x117 :: x118 :: x119 :: x120 :: x121 :: x122 :: x123 :: x124 :: x125 :: x126 :: x127 :: x128 :: x129 :: x130 :: x131 :: x132 :: x133 :: x134 :: x135 :: x136 :: x137 :: x138 :: x139 :: x140 :: x141 :: x142 :: x143 :: x144 :: x145 :: x146 :: x147 :: x148 :: x149 :: x150 :: x151 :: x152 :: x153 :: x154 :: x155 :: x156 :: x157 :: x158 :: x159 :: x160 :: x161 :: x162 :: x163 :: x164 :: x165 :: x166 :: x167 :: x168 :: x169 :: x170 :: x171 :: x172 :: x173 :: x174 :: x175 :: x176 :: x177 :: x178 :: x179 :: x180 :: x181 :: x182 :: x183 :: x184 :: x185 :: x186 :: x187 :: x188 :: x189 :: x190 :: x191 :: x192 :: x193 :: x194 :: x195 :: x196 :: x197 :: x198 :: x199 :: x200 :: x201 :: x202 :: v203 :: v204 :: v205 :: v206 :: v207 :: v208 :: v209 :: v210 :: v211 :: v212 :: v213 :: v214 :: v215 :: v216 :: v217 :: v218 :: v219 :: v220 :: v221 :: v222 :: v223 :: v224 :: v225 :: v226 :: v227 :: v228 :: v229 :: v230 :: []), defers := [] } w')) :
    Code.wp Try.prog switchCode Post { tmps := List.toArray (v0 :: v1 :: v2 :: v3 :: v4 :: v5 :: (.pointer (some ⟨w5.heap.size, 0, none⟩) : Value) :: (.pointer (some ⟨b, 0, none⟩) : Value) :: (.pointer (some ⟨b2, 0, none⟩) : Value) :: (.pointer (some ⟨g2, 0, none⟩) : Value) :: v10 :: (.pointer (some ⟨og, 0, none⟩) : Value) :: (.int .i64 s : Value) :: (.int .i64 ow : Value) :: (.bool true : Value) :: v15 :: v16 :: v17 :: v18 :: v19 :: v20 :: v21 :: v22 :: v23 :: v24 :: v25 :: v26 :: v27 :: v28 :: v29 :: v30 :: v31 :: v32 :: v33 :: v34 :: v35 :: v36 :: v37 :: v38 :: v39 :: v40 :: v41 :: v42 :: v43 :: v44 :: v45 :: v46 :: v47 :: v48 :: v49 :: v50 :: v51 :: v52 :: v53 :: v54 :: v55 :: v56 :: v57 :: v58 :: v59 :: v60 :: v61 :: v62 :: v63 :: v64 :: v65 :: v66 :: v67 :: (.int .i64 (kq : Int) : Value) :: v69 :: v70 :: v71 :: v72 :: v73 :: v74 :: v75 :: v76 :: v77 :: v78 :: v79 :: v80 :: v81 :: v82 :: v83 :: v84 :: v85 :: v86 :: v87 :: v88 :: v89 :: v90 :: v91 :: v92 :: v93 :: v94 :: v95 :: v96 :: v97 :: v98 :: v99 :: v100 :: v101 :: v102 :: v103 :: v104 :: v105 :: v106 :: v107 :: v108 :: v109 :: v110 :: v111 :: v112 :: v113 :: v114 :: v115 :: v116 :: v117 :: v118 :: v119 :: v120 :: v121 :: v122 :: v123 :: v124 :: v125 :: v126 :: v127 :: v128 :: v129 :: v130 :: v131 :: v132 :: v133 :: v134 :: v135 :: v136 :: v137 :: v138 :: v139 :: v140 :: v141 :: v142 :: v143 :: v144 :: v145 :: v146 :: v147 :: v148 :: v149 :: v150 :: v151 :: v152 :: v153 :: v154 :: v155 :: v156 :: v157 :: v158 :: v159 :: v160 :: v161 :: v162 :: v163 :: v164 :: v165 :: v166 :: v167 :: v168 :: v169 :: v170 :: v171 :: v172 :: v173 :: v174 :: v175 :: v176 :: v177 :: v178 :: v179 :: v180 :: v181 :: v182 :: v183 :: v184 :: v185 :: v186 :: v187 :: v188 :: v189 :: v190 :: v191 :: v192 :: v193 :: v194 :: v195 :: v196 :: v197 :: v198 :: v199 :: v200 :: v201 :: v202 :: v203 :: v204 :: v205 :: v206 :: v207 :: v208 :: v209 :: v210 :: v211 :: v212 :: v213 :: v214 :: v215 :: v216 :: v217 :: v218 :: v219 :: v220 :: v221 :: v222 :: v223 :: v224 :: v225 :: v226 :: v227 :: v228 :: v229 :: v230 :: []), defers := [] } wc := by
  conv => enter [2]; whnf
  obtain ⟨y0, y1, y2, y3, y4, y5, y6, y7, y8, y9, y10, y11, y12, y13, y14⟩ := H2.out.ocells
  obtain ⟨qf, hqf⟩ : ∃ qf, O.fl = qf := ⟨_, rfl⟩
  rw [hqf] at y5
  clear hqf
  have HIU : Hid (∀ k, k < 6 → Inv r (100 + (i + 1)) (ff k)) := fun k hk => (HI.out k hk).up
  have CASES : kq = 0 ∨ kq = 1 ∨ kq = 2 ∨ 3 ≤ kq := by omega
  rcases CASES with rfl | rfl | rfl | hk4
  iterate 2
    · have UC := Lib.hid (cuse_any H2.out.p.t.ch s ow)
      unfold UseBack at UC
      have RU := Lib.hid (fun w h => @ruse_any w b2 r2 ns Lc h s ow)
      unfold UseBack at RU
      generalize useL ns Lc s ow = L2 at UC RU
      generalize useB ns Lc s ow = ub at UC RU
      clear y0 y1 y2 y3 y4 y5 y6 y7 y8 y9 y10 y11 y12 y13 y14
      go_wp2_with (first
        | (go_at_call 13; (refine UC.out.mono ?_); rintro e w3 ⟨rfl, hc3, ht3⟩; have H3 := Lib.hid (H2.out.turnC ht3 hc3); clear hc3 ht3)
        | (go_at_call 14; (refine (RU.out _ H3.out.p.rc).mono ?_); rintro e w4 ⟨rfl, hc4, ht4⟩; have H4 := Lib.hid (H3.out.turnR ht4 hc4); clear hc4 ht4))
      exact HPO.out _ _ _ _ _ _ _ _ _ _ _ _ _ _ _ _ _ _ _ _ _ _ _ _ _ _ _ _ _ _ _ _ _ _ _ _ _ _ _ _ _ _ _ _ _ _ _ _ _ _ _ _ _ _ _ _ _ _ _ _ _ _ _ _ _ _ _ _ _ _ _ _ _ _ _ _ _ _ _ _ _ _ _ _ _ _ _ _ _ _ _ _ _ _ _ _ _ _ _ _ _ _ _ _ _ _ _ _ _ _ _ _ _ _ _ _ _ _ _ _ _ _ _ _ _ _ _ _ _ _ _ _ _ _ _ _ _ _ _ _ _ _ _ _ _ _ _ _ (by simp) H4 HIU
  · have FC := Lib.hid (cflush_any H2.out.p.t.ch)
    have RF := Lib.hid (fun w h => @rflush_any w b2 r2 ns Lc h)
    clear y0 y1 y2 y3 y4 y6 y7 y8 y9 y10 y11 y12 y13 y14
    cases qf
    · go_wp2_with fail
      exact HPO.out _ _ _ _ _ _ _ _ _ _ _ _ _ _ _ _ _ _ _ _ _ _ _ _ _ _ _ _ _ _ _ _ _ _ _ _ _ _ _ _ _ _ _ _ _ _ _ _ _ _ _ _ _ _ _ _ _ _ _ _ _ _ _ _ _ _ _ _ _ _ _ _ _ _ _ _ _ _ _ _ _ _ _ _ _ _ _ _ _ _ _ _ _ _ _ _ _ _ _ _ _ _ _ _ _ _ _ _ _ _ _ _ _ _ _ _ _ _ _ _ _ _ _ _ _ _ _ _ _ _ _ _ _ _ _ _ _ _ _ _ _ _ _ _ _ _ _ _ rfl H2 HIU
    · go_wp2_with (first
        | (go_at_call 15; (refine FC.out.mono ?_); rintro e w3 ⟨rfl, hc3, ht3⟩; have H3 := Lib.hid (H2.out.turnC ht3 hc3); clear hc3 ht3)
        | (go_at_call 16; (refine (RF.out _ H3.out.p.rc).mono ?_); rintro e w4 ⟨rfl, hc4, ht4⟩; have H4 := Lib.hid (H3.out.flushR ht4 hc4); clear hc4 ht4))
      exact HPO.out _ _ _ _ _ _ _ _ _ _ _ _ _ _ _ _ _ _ _ _ _ _ _ _ _ _ _ _ _ _ _ _ _ _ _ _ _ _ _ _ _ _ _ _ _ _ _ _ _ _ _ _ _ _ _ _ _ _ _ _ _ _ _ _ _ _ _ _ _ _ _ _ _ _ _ _ _ _ _ _ _ _ _ _ _ _ _ _ _ _ _ _ _ _ _ _ _ _ _ _ _ _ _ _ _ _ _ _ _ _ _ _ _ _ _ _ _ _ _ _ _ _ _ _ _ _ _ _ _ _ _ _ _ _ _ _ _ _ _ _ _ _ _ _ _ _ _ _ rfl H4 HIU
  · obtain ⟨t, k, e1, v2, v3, v4, v5⟩ : ∃ (t : Int) (k : Nat), O.nn.tmod N = t ∧ -(N : Int) < t ∧ t < N ∧ (t + N) % N = (k : Int) ∧ k < N := by
      have a := Int.tmod_lt_of_pos O.nn (show (0 : Int) < N by omega)
      have b := Int.lt_tmod_of_pos O.nn (show (0 : Int) < N by omega)
      have c := Int.emod_nonneg (O.nn.tmod N + N) (show (N : Int) ≠ 0 by omega)
      have d := Int.emod_lt_of_pos (O.nn.tmod N + N) (show (0 : Int) < N by omega)
      exact ⟨O.nn.tmod N, ((O.nn.tmod N + N) % N).toNat, rfl, b, a, by omega, by omega⟩
    have x1 : IntKind.i64.wrap (t + (N : Int)) = t + N := IntWalk.i64_in _ (by omega)
    have x2 : (t + (N : Int)).tmod N = (k : Int) := by rw [Int.tmod_eq_emod_of_nonneg (by omega)]; exact v4
    have z1 : ((N : Int) == 0) = false := by rw [beq_eq_false_iff_ne]; omega
    have z2 : ¬ (N : Int) = 0 := by omega
    have z3 : ¬ N = 0 := by omega
    have z4 : 0 ≤ t + (N : Int) := by omega
    have kb0 : ((kq : Int) == 0) = false := by rw [beq_eq_false_iff_ne]; omega
    have kb1 : ((kq : Int) == 1) = false := by rw [beq_eq_false_iff_ne]; omega
    have kb2 : ((kq : Int) == 2) = false := by rw [beq_eq_false_iff_ne]; omega
    have s2 : wc.cell? ⟨w5.heap.size, 2, none⟩ = some (.slice (some ⟨g5, o5, none⟩) N c5) := by rw [blk_cell H2.out.p.t.sb]; rfl
    clear v4 y0 y1 y2 y4 y5 y6 y7 y8 y9 y10 y11 y12 y13 y14
    go_upto_region 19 with fail
    go_quiet (fail)
    go_upto_region 20 with fail
    refine gen_world (PlayO w5 ns r (some ⟨g5, o5, none⟩) N c5 b rr g2 b2 og O Lc Lc ff r2) (H2.out.below ⟨rfl, rfl, rfl, Nat.le_refl _, fun _ _ => rfl⟩) ?_
    intro V2 hv2
    have H3 := Lib.hid hv2
    clear hv2 H2 s2 e1 v2 v3 x1 x2 z1 z2 z3 z4 kb0 kb1 kb2 y3
    have hk6 : k < 6 := by omega
    have HIK := Lib.hid (HI.out k hk6)
    obtain ⟨T, hT⟩ := nth_of HT5.out.len v5
    have HG := Lib.hid (HM.out.good k T hT)
    have HTO := Lib.hid (HT5.out.ok.at_ hT)
    have HVW : Hid (At w5 g5 (o5 + k * 7) T) := by
      obtain ⟨g, o, e, h⟩ := HT5.out.view.at_ hT
      cases e
      exact h
    have hk0 : (0 : Int) ≤ (k : Int) := by omega
    have hk6' : (k : Int) < 6 := by omega
    have hkN' : (k : Int) < (N : Int) := by omega
    obtain ⟨wk, hwk⟩ : ∃ wk, ff k = wk := ⟨_, rfl⟩
    rw [hwk] at HIK
    obtain ⟨a0, a1, a2, a3, a4, a5x, a6, a7⟩ := H3.out.p.t.ar.cells hk6
    rw [hwk] at a0 a1
    clear a2 a3 a4 a5x a6 a7
    obtain ⟨q, hq⟩ : ∃ q, decide (wk.dm ≤ wk.dn) = q := ⟨_, rfl⟩
    have HQ2 := Lib.hid hq
    go_cut [91] from 83 to 91 (fun u wx => u = .bool q ∧ Hid (PlayO w5 ns r (some ⟨g5, o5, none⟩) N c5 b rr g2 b2 og O Lc Lc ff r2 wx))
    case first =>
      go_quiet (fail)
      go_wp2_with fail
      go_meet
      exact ⟨rfl, H3.out.below ⟨rfl, rfl, rfl, Nat.le_refl _, fun _ _ => rfl⟩⟩
    case rest =>
      obtain ⟨rfl, H4⟩ := hcut
      clear a0 a1 hq H3
      have s2 : wc.cell? ⟨w5.heap.size, 2, none⟩ = some (.slice (some ⟨g5, o5, none⟩) N c5) := by rw [blk_cell H4.out.p.t.sb]; rfl
      have t1 : wc.cell? ⟨g5, o5 + k * 7 + 1, none⟩ = some (.int .i64 T.c) := kept_cellB H4.out.p.t.low (block_of_cell HVW.out.c1) HVW.out.c1
      obtain ⟨a0, a1, a2, a3, a4, a5', a6, a7⟩ := H4.out.p.t.ar.cells hk6
      have f0 := H4.out.p.t.ar.free (k * 8)
      have f1 := H4.out.p.t.ar.free (k * 8 + 1)
      have f2 := H4.out.p.t.ar.free (k * 8 + 2)
      have f3 := H4.out.p.t.ar.free (k * 8 + 3)
      have f4 := H4.out.p.t.ar.free (k * 8 + 4)
      have f5 := H4.out.p.t.ar.free (k * 8 + 5)
      have f6 := H4.out.p.t.ar.free (k * 8 + 6)
      have f7 := H4.out.p.t.ar.free (k * 8 + 7)
      go_upto_if 91 with fail
      go_cut [] from 92 to 100 (fun wx => ∃ f' : Nat → WK, Hid (PlayO w5 ns r (some ⟨g5, o5, none⟩) N c5 b rr g2 b2 og O Lc Lc f' r2 wx) ∧ Hid (∀ j, j < 6 → Inv r (100 + i) (f' j)) ∧ Hid ((f' k).dn < (f' k).dm))
      case first =>
        cases q with
        | false =>
          go_wp2_with fail
          go_meet
          exact ⟨ff, H4, HI, by have := of_decide_eq_false HQ2.out; show (ff k).dn < (ff k).dm; rw [hwk]; omega⟩
        | true =>
          go_wp2_with fail
          go_meet
          refine ⟨setW ff k (freshW T.c), ?_, ?_, ?_⟩
          · have := H4.out.set hk6 (freshW T.c)
            unfold freshW at this
            dsimp only at this
            rw [wd_false, wd_false, wd_false, wd_false] at this
            exact this
          · intro j hj
            unfold setW
            split
            · exact inv_fresh r _ (by have := HG.out.c1; omega) (by have := HG.out.cd; have := HG.out.dt; have := HG.out.t24; omega)
            · exact HI.out j hj
          · show (setW ff k (freshW T.c) k).dn < (setW ff k (freshW T.c) k).dm
            rw [setW_at]
            show (0 : Int) < T.c
            have := HG.out.c1; omega
      case rest =>
        obtain ⟨f', H5, HI5, HL5x⟩ := hcut
        clear a0 a1 a2 a3 a4 a5' a6 a7 f0 f1 f2 f3 f4 f5 f6 f7 s2 t1 H4
        have HIK5 := Lib.hid (HI5.out k hk6)
        obtain ⟨⟨dn, dm, db, rl, p⟩, hw4⟩ : ∃ w4, f' k = w4 := ⟨_, rfl⟩
        have hfit : Fits T.id r ⟨dn, dm, db, rl, p⟩ := ⟨⟨by have := HG.out.id; omega, by have := HG.out.id; omega⟩, by omega, by omega, by have := HIK5.out.d0; rw [hw4] at this; exact this, by have := HL5x.out; rw [hw4] at this; exact this, by have := HIK5.out.b0; rw [hw4] at this; exact this⟩
        obtain ⟨hv0, hv1, hv2, hv3, hv4, hv5, hv6⟩ : Inv r (100 + i) ⟨dn, dm, db, rl, p⟩ := by have := HIK5.out; rw [hw4] at this; exact this
        dsimp only at hv0 hv1 hv2 hv3 hv4 hv5 hv6
        obtain ⟨dn', db', rl', p', q', hst, hfa⟩ := tick_facts (n := ns) (L := Lc) (s := (accOf T dn).1) (u := (accOf T dn).2) hfit hv5 (by show rl ≤ _; omega)
        obtain ⟨Lc', hL⟩ : ∃ z, stepL ns Lc T.id (accOf T dn).1 (accOf T dn).2 r ⟨dn, dm, db, rl, p⟩ = z := ⟨_, rfl⟩
        have HINV : Hid (Inv r (100 + (i + 1)) ⟨dn', dm, db', rl', p'⟩) := by
          have hdm := hfit.2.2.2.2.1
          dsimp only at hdm hfa
          rcases hfa with ⟨rfl, h1, h2, h3, h4⟩ | ⟨rfl, h1, h2, h3, h4⟩ | ⟨rfl, h1, h2, h3, h4, h5⟩
          · exact ⟨by show 0 ≤ dn'; omega, by show dn' ≤ dm; omega, hv2, by show 0 ≤ db'; omega, .inl h2, by show 0 ≤ rl'; omega, by show rl' ≤ ((100 + (i + 1) : Nat) : Int); omega⟩
          · exact ⟨by show 0 ≤ dn'; omega, by show dn' ≤ dm; omega, hv2, by show 0 ≤ db'; omega, .inr (by show db' < r; rcases hv4 with q | q <;> omega), by show 0 ≤ rl'; omega, by show rl' ≤ ((100 + (i + 1) : Nat) : Int); omega⟩
          · exact ⟨by show 0 ≤ dn'; omega, by show dn' ≤ dm; omega, hv2, by show 0 ≤ db'; omega, .inr (by show db' < r; omega), by show 0 ≤ rl'; omega, by show rl' ≤ ((100 + (i + 1) : Nat) : Int); omega⟩
        clear hfa hfit
        have HI9 : Hid (∀ j, j < 6 → Inv r (100 + (i + 1)) (setW f' k ⟨dn', dm, db', rl', p'⟩ j)) := fun j hj => by
          unfold setW
          split
          · exact HINV.out
          · exact (HI5.out j hj).up
        obtain ⟨fn, hfn⟩ : ∃ fn, setW f' k ⟨dn', dm, db', rl', p'⟩ = fn := ⟨_, rfl⟩
        rw [hfn] at HI9
        refine (‹∀ (a : Act) (w : World), Code.wp _ _ _ a w → _› _ _ ?_)
        refine tick_part HTO HVW HOK hk0 hkN' hk6 hk6' hr0 hr3 hv3 hv5 (by rcases hv4 with q | q <;> omega) hv2 hns hN6 hw4 hst hL hfn H5 (Lib.hid ?_)
        intro x14 x16 x17 x18 x19 x20 x21 x22 x23 x101 x102 x103 x104 x105 x106 x107 x108 x109 x110 x111 x112 x113 x114 x115 x116 x117 x118 x119 x120 x121 x122 x123 x124 x125 x126 x127 x128 x129 x130 x131 x132 x133 x134 x135 x136 x137 x138 x139 x140 x141 x142 x143 x144 x145 x146 x147 x148 x149 x150 x151 x152 x153 x154 x155 x156 x157 x158 x159 x160 x161 x162 x163 x164 x165 x166 x167 x168 x169 x170 x171 x172 x173 x174 x175 x176 x177 x178 x179 x180 x181 x182 L4 w' hu H11
        subst hu
        go_wp2_with fail
        exact HPO.out _ _ _ _ _ _ _ _ _ _ _ _ _ _ _ _ _ _ _ _ _ _ _ _ _ _ _ _ _ _ _ _ _ _ _ _ _ _ _ _ _ _ _ _ _ _ _ _ _ _ _ _ _ _ _ _ _ _ _ _ _ _ _ _ _ _ _ _ _ _ _ _ _ _ _ _ _ _ _ _ _ _ _ _ _ _ _ _ _ _ _ _ _ _ _ _ _ _ _ _ _ _ _ _ _ _ _ _ _ _ _ _ _ _ _ _ _ _ _ _ _ _ _ _ _ _ _ _ _ _ _ _ _ _ _ _ _ _ _ _ _ _ _ _ _ _ _ _ rfl H11 HI9
end Go.Proofs.Ytflemmmaakhahaa

/-
  The walk over what is compared behind each step of the statement that a cache goes on.
-/
namespace Go.Proofs.Ytflemmmaakhahaa
open Go.RowKit Go.Maps
attribute [-go_sem] run_eql_struct run_neq_struct
attribute [local go_sem] work_eql workGuard bits_neq bitsGuard

/-- The part behind the step. -/
noncomputable def sameCode : Code := navC [1, 1, 1, 1, 1, 1, 1, 0, 1, 4, 5, 1, 0, 4, 1, 1, 1, 1, 1, 1] (Try.f3.body.getD .skip)

set_option maxRecDepth 100000 in
set_option maxHeartbeats 32000000 in
theorem same_part {v0 v1 v2 v3 v4 v5 v9 v10 v11 v15 v16 v17 v18 v19 v20 v21 v22 v23 v24 v25 v26 v27 v28 v29 v30 v31 v32 v33 v34 v35 v36 v37 v38 v39 v40 v41 v42 v43 v44 v45 v46 v47 v48 v49 v50 v51 v52 v53 v54 v55 v56 v57 v58 v59 v60 v61 v62 v63 v64 v65 v66 v67 v68 v69 v70 v71 v72 v73 v74 v75 v76 v77 v78 v79 v80 v81 v82 v83 v84 v85 v86 v87 v88 v89 v90 v91 v92 v93 v94 v95 v96 v97 v98 v99 v100 v101 v102 v103 v104 v105 v106 v107 v108 v109 v110 v111 v112 v113 v114 v115 v116 v117 v118 v119 v120 v121 v122 v123 v124 v125 v126 v127 v128 v129 v130 v131 v132 v133 v134 v135 v136 v137 v138 v139 v140 v141 v142 v143 v144 v145 v146 v147 v148 v149 v150 v151 v152 v153 v154 v155 v156 v157 v158 v159 v160 v161 v162 v163 v164 v165 v166 v167 v168 v169 v170 v171 v172 v173 v174 v175 v176 v177 v178 v179 v180 v181 v182 v183 v184 v185 v186 v187 v188 v189 v190 v191 v192 v193 v194 v195 v196 v197 v198 v199 v200 v201 v202 v203 v204 v205 v206 v207 v208 v209 v210 v211 v212 v213 v214 v215 v216 v217 v218 v219 v220 v221 v222 v223 v224 v225 v226 v227 v228 v229 v230 : Value} {w5 wc : World} {ns : Nat} {r s ow : Int} {a5 : Option Addr} {N c5 b rr g2 b2 og r3 : Nat} {O : OV} {L3 : Nat → Int} {f3 : Nat → WK}
    (H3 : Hid (PlayO w5 ns r a5 N c5 b rr g2 b2 og O L3 L3 f3 r3 wc)) {Post : Exit → Act → World → Prop}
    (HPO : Hid (∀ (x203 x204 x205 x206 x207 x208 x209 x210 x211 x212 x213 x214 x215 x216 x217 x218 x219 x220 x221 x222 x223 x224 x225 x226 x227 x228 x229 : Value) (w' : World), x229 = .bool false → Hid (Below wc.heap.size wc w') → Post .normal { tmps := List.toArray (v0 :: v1 :: v2 :: v3 :: v4 :: v5 :: (.pointer (some ⟨w5.heap.size, 0, none⟩) : Value) :: (.pointer (some ⟨b, 0, none⟩) : Value) :: (.pointer (some ⟨b2, 0, none⟩) : Value) :: v9 :: v10 :: v11 :: (.int .i64 s : Value) :: (.int .i64 ow : Value) :: (.bool true : Value) :: v15 :: v16 :: v17 :: v18 :: v19 :: v20 :: v21 :: v22 :: v23 :: v24 :: v25 :: v26 :: v27 :: v28 :: v29 :: v30 :: v31 :: v32 :: v33 :: v34 :: v35 :: v36 :: v37 :: v38 :: v39 :: v40 :: v41 :: v42 :: v43 :: v44 :: v45 :: v46 :: v47 :: v48 :: v49 :: v50 :: v51 :: v52 :: v53 :: v54 :: v55 :: v56 :: v57 :: v58 :: v59 :: v60 :: v61 :: v62 :: v63 :: v64 :: v65 :: v66 :: v67 :: v68 :: v69 :: v70 :: v71 :: v72 :: v73 :: v74 :: v75 :: v76 :: v77 :: v78 :: v79 :: v80 :: v81 :: v82 :: v83 :: v84 :: v85 :: v86 :: v87 :: v88 :: v89 :: v90 :: v91 :: v92 :: v93 :: v94 :: v95 :: v96 :: v97 :: v98 :: v99 :: v100 :: v101 :: v102 :: v103 :: v104 :: v105 :: v106 :: v107 :: v108 :: v109 :: v110 :: v111 :: v112 :: v113 :: v114 :: v115 :: v116 :: v117 :: v118 :: v119 :: v120 :: v121 :: v122 :: v123 :: v124 :: v125 :: v126 :: v127 :: v128 :: v129 :: v130 :: v131 :: v132 :: v133 :: v134 :: v135 :: v136 :: v137 :: v138 :: v139 :: v140 :: v141 :: v142 :: v143 :: v144 :: v145 :: v146 :: v147 :: v148 :: v149 :: v150 :: v151 :: v152 :: v153 :: v154 :: v155 :: v156 :: v157 :: v158 :: v159 :: v160 :: v161 :: v162 :: v163 :: v164 :: v165 :: v166 :: v167 :: v168 :: v169 :: v170 :: v171 :: v172 :: v173 :: v174 :: v175 :: v176 :: v177 :: v178 :: v179 :: v180 :: v181 :: v182 :: v183 :: v184 :: v185 :: v186 :: v187 :: v188 :: v189 :: v190 :: v191 :: v192 :: v193 :: v194 :: v195 :: v196 :: v197 :: v198 :: v199 :: v200 :: v201 :: v202 :: x203 :: x204 :: x205 :: x206 :: x207 :: x208 :: x209 :: x210 :: x211 :: x212 :: x213 :: x214 :: x215 :: x216 :: x217 :: x218 :: x219 :: x220 :: x221 :: x222 :: x223 :: x224 :: x225 :: x226 :: x227 :: x228 :: x229 :: v230 :: []), defers := [] } w')) :
    Code.wp Try.prog sameCode Post { tmps := List.toArray (v0 :: v1 :: v2 :: v3 :: v4 :: v5 :: (.pointer (some ⟨w5.heap.size, 0, none⟩) : Value) :: (.pointer (some ⟨b, 0, none⟩) : Value) :: (.pointer (some ⟨b2, 0, none⟩) : Value) :: v9 :: v10 :: v11 :: (.int .i64 s : Value) :: (.int .i64 ow : Value) :: (.bool true : Value) :: v15 :: v16 :: v17 :: v18 :: v19 :: v20 :: v21 :: v22 :: v23 :: v24 :: v25 :: v26 :: v27 :: v28 :: v29 :: v30 :: v31 :: v32 :: v33 :: v34 :: v35 :: v36 :: v37 :: v38 :: v39 :: v40 :: v41 :: v42 :: v43 :: v44 :: v45 :: v46 :: v47 :: v48 :: v49 :: v50 :: v51 :: v52 :: v53 :: v54 :: v55 :: v56 :: v57 :: v58 :: v59 :: v60 :: v61 :: v62 :: v63 :: v64 :: v65 :: v66 :: v67 :: v68 :: v69 :: v70 :: v71 :: v72 :: v73 :: v74 :: v75 :: v76 :: v77 :: v78 :: v79 :: v80 :: v81 :: v82 :: v83 :: v84 :: v85 :: v86 :: v87 :: v88 :: v89 :: v90 :: v91 :: v92 :: v93 :: v94 :: v95 :: v96 :: v97 :: v98 :: v99 :: v100 :: v101 :: v102 :: v103 :: v104 :: v105 :: v106 :: v107 :: v108 :: v109 :: v110 :: v111 :: v112 :: v113 :: v114 :: v115 :: v116 :: v117 :: v118 :: v119 :: v120 :: v121 :: v122 :: v123 :: v124 :: v125 :: v126 :: v127 :: v128 :: v129 :: v130 :: v131 :: v132 :: v133 :: v134 :: v135 :: v136 :: v137 :: v138 :: v139 :: v140 :: v141 :: v142 :: v143 :: v144 :: v145 :: v146 :: v147 :: v148 :: v149 :: v150 :: v151 :: v152 :: v153 :: v154 :: v155 :: v156 :: v157 :: v158 :: v159 :: v160 :: v161 :: v162 :: v163 :: v164 :: v165 :: v166 :: v167 :: v168 :: v169 :: v170 :: v171 :: v172 :: v173 :: v174 :: v175 :: v176 :: v177 :: v178 :: v179 :: v180 :: v181 :: v182 :: v183 :: v184 :: v185 :: v186 :: v187 :: v188 :: v189 :: v190 :: v191 :: v192 :: v193 :: v194 :: v195 :: v196 :: v197 :: v198 :: v199 :: v200 :: v201 :: v202 :: v203 :: v204 :: v205 :: v206 :: v207 :: v208 :: v209 :: v210 :: v211 :: v212 :: v213 :: v214 :: v215 :: v216 :: v217 :: v218 :: v219 :: v220 :: v221 :: v222 :: v223 :: v224 :: v225 :: v226 :: v227 :: v228 :: v229 :: v230 :: []), defers := [] } wc := by
  conv => enter [2]; whnf
  go_upto_region 37 with fail
  have MK : Hid (∀ w', Below wc.heap.size wc w' → (Below wc.heap.size wc w' ∧ w'.cell? ⟨w5.heap.size, 0, none⟩ = some (.int .i64 (ns : Int)))) := fun w' hb => ⟨hb, by rw [blk_cell (H3.out.below hb).p.t.sb]; rfl⟩
  have C1 : Hid (∀ w, Below wc.heap.size wc w → Calls Try.prog 19 #[.pointer (some ⟨b, 0, none⟩), .int .i64 s] w fun e w' => e = .returned (.int .i64 (ownL ns L3 s)) ∧ Below wc.heap.size wc w') := fun w hw => (cowner_any (H3.out.below hw).p.t.ch s).mono fun _ _ ⟨h1, h2⟩ => ⟨h1, by rw [h2]; exact hw⟩
  have C2 : Hid (∀ w, Below wc.heap.size wc w → Calls Try.prog 20 #[.pointer (some ⟨b2, 0, none⟩), .int .i64 s] w fun e w' => e = .returned (.int .i64 (ownL ns L3 s)) ∧ Below wc.heap.size wc w') := fun w hw => (rowner_any (H3.out.below hw).p.rc s).mono fun _ _ ⟨h1, h2⟩ => ⟨h1, by rw [h2]; exact hw⟩
  have C3 : Hid (∀ w, Below wc.heap.size wc w → Calls Try.prog 21 #[.pointer (some ⟨b, 0, none⟩), .int .i64 ow] w fun e w' => e = .returned (.agg #[.int .u64 (wd (ofP ns L3 ow) 0), .int .u64 (wd (ofP ns L3 ow) 1), .int .u64 (wd (ofP ns L3 ow) 2), .int .u64 (wd (ofP ns L3 ow) 3)]) ∧ Below wc.heap.size wc w') := fun w hw => (cof_any (H3.out.below hw).p.t.ch ow).mono fun _ _ h => ⟨h.1, below_up hw h.2⟩
  have C4 : Hid (∀ w, Below wc.heap.size wc w → Calls Try.prog 22 #[.pointer (some ⟨b2, 0, none⟩), .int .i64 ow] w fun e w' => e = .returned (.agg #[.int .u64 (wd (ofP ns L3 ow) 0), .int .u64 (wd (ofP ns L3 ow) 1), .int .u64 (wd (ofP ns L3 ow) 2), .int .u64 (wd (ofP ns L3 ow) 3)]) ∧ Below wc.heap.size wc w') := fun w hw => (rof_any (H3.out.below hw).p.rc ow).mono fun _ _ h => ⟨h.1, below_up hw h.2⟩
  have C5 : Hid (∀ w, Below wc.heap.size wc w → Calls Try.prog 23 #[.pointer (some ⟨b, 0, none⟩)] w fun e w' => e = .returned (.int .i64 ns) ∧ Below wc.heap.size wc w') := fun w hw => (sets_any (H3.out.below hw).p.t.ch).mono fun _ _ ⟨h1, h2⟩ => ⟨h1, by rw [h2]; exact hw⟩
  generalize wd (ofP ns L3 ow) = yy at C3 C4
  generalize ownL ns L3 s = oo at C1 C2
  have e4 := eq4_self (yy 0) (yy 1) (yy 2) (yy 3)
  have e5 : (oo != oo) = false := by simp
  have z0 := (MK.out wc (Below.refl _ _)).2
  have bb := Below.refl wc.heap.size wc
  go_cut [229] from 203 to 229 (fun u wx => u = .bool false ∧ Hid (Below wc.heap.size wc wx))
  case first =>
    go_region_held3 (fun w' => Below wc.heap.size wc w' ∧ w'.cell? ⟨w5.heap.size, 0, none⟩ = some (.int .i64 (ns : Int))) (exact MK.out _ (by repeat (first | (with_reducible assumption) | (with_reducible refine Below.drew ?_) | with_reducible refine Below.alloc ?_ (by first | omega | (simp; omega)) _))) (first
      | (go_at_call 19; (with_reducible refine (C1.out _ (by repeat (first | (with_reducible assumption) | (with_reducible refine Below.drew ?_) | with_reducible refine Below.alloc ?_ (by first | omega | (simp; omega)) _))).mono ?_); rintro e wx ⟨rfl, bx⟩; have sx := bx.size)
      | (go_at_call 20; (with_reducible refine (C2.out _ (by repeat (first | (with_reducible assumption) | (with_reducible refine Below.drew ?_) | with_reducible refine Below.alloc ?_ (by first | omega | (simp; omega)) _))).mono ?_); rintro e wx ⟨rfl, bx⟩; have sx := bx.size)
      | (go_at_call 21; (with_reducible refine (C3.out _ (by repeat (first | (with_reducible assumption) | (with_reducible refine Below.drew ?_) | with_reducible refine Below.alloc ?_ (by first | omega | (simp; omega)) _))).mono ?_); rintro e wx ⟨rfl, bx⟩; have sx := bx.size)
      | (go_at_call 22; (with_reducible refine (C4.out _ (by repeat (first | (with_reducible assumption) | (with_reducible refine Below.drew ?_) | with_reducible refine Below.alloc ?_ (by first | omega | (simp; omega)) _))).mono ?_); rintro e wx ⟨rfl, bx⟩; have sx := bx.size)
      | (go_at_call 23; (with_reducible refine (C5.out _ (by repeat (first | (with_reducible assumption) | (with_reducible refine Below.drew ?_) | with_reducible refine Below.alloc ?_ (by first | omega | (simp; omega)) _))).mono ?_); rintro e wx ⟨rfl, bx⟩; have sx := bx.size))
    all_goals
      go_wp2_with fail
      go_meet
      exact ⟨rfl, Lib.hid (by repeat (first | (with_reducible assumption) | (with_reducible refine Below.drew ?_) | with_reducible refine Below.alloc ?_ (by first | omega | (simp; omega)) _))⟩
  case rest =>
    obtain ⟨rfl, HB9⟩ := hcut
    go_wp2_with fail
    exact HPO.out _ _ _ _ _ _ _ _ _ _ _ _ _ _ _ _ _ _ _ _ _ _ _ _ _ _ _ _ rfl HB9
end Go.Proofs.Ytflemmmaakhahaa
