/- Texts of this claim, put together: FR5, FR6, FR7, FLaw5, FW7, FLaw6, FOpen2. -/
import Derived.Test.YtlglncnhhgofoaaMT1
import Derived.Laws.StructEq
set_option linter.unusedVariables false
set_option linter.unusedSimpArgs false

/-
  The walks over the document's greatest charge, its row of charges, and two rows held against each other.
-/
namespace Go.Proofs.Ytlglncnhhgofoaa
open Go.RowKit Go.Maps

def cgI (id : Int) (o : Option Cg) : Int := match o with | some _ => id | none => 0
theorem ofVal_eq (id : Int) (o : Option Cg) : ofVal id o = .agg #[.int .i64 (cgI id o), .int .i64 (cgU o), .int .i64 (cgV o), .int .i64 (cgB o), .int .i64 (cgB o)] := by cases o <;> rfl
theorem rof5_any {w : World} {a : Option Addr} {n cap : Nat} {L : List TV} (s r id : Int) (ha : Tasks w a n cap L) :
    Calls Try.prog 20 #[.agg #[.int .i64 s, .int .i64 r, .slice a n cap], .int .i64 id] w fun e w' => e = .returned (.agg #[.int .i64 (cgI id (cgAt s r L id)), .int .i64 (cgU (cgAt s r L id)), .int .i64 (cgV (cgAt s r L id)), .int .i64 (cgB (cgAt s r L id)), .int .i64 (cgB (cgAt s r L id))]) ∧ Below w.heap.size w w' := by
  rw [← ofVal_eq]; exact rof10_any s r id ha
/-- The greatest of what is told of the first k numbers. -/
def grD (f : Int → Int) (ids : List Int) : Nat → Int
  | 0 => 0
  | k + 1 => match ids[k]? with
    | some id => if grD f ids k < f id then f id else grD f ids k
    | none => grD f ids k
theorem grD_next {f : Int → Int} {ids : List Int} {k : Nat} {id : Int} (h : ids[k]? = some id) : grD f ids (k + 1) = if grD f ids k < f id then f id else grD f ids k := by
  rw [grD, h]
theorem grD_le {f : Int → Int} {ids : List Int} (z : Int) : ∀ k, grD f ids k ≤ z ↔ 0 ≤ z ∧ ∀ (j : Nat) (x : Int), j < k → ids[j]? = some x → f x ≤ z
  | 0 => ⟨fun h => ⟨h, fun j x hj => absurd hj (Nat.not_lt_zero _)⟩, fun h => h.1⟩
  | k + 1 => by
    have ih := grD_le (f := f) (ids := ids) z k
    cases hx : ids[k]? with
    | none =>
      rw [grD, hx]
      dsimp only
      rw [ih]
      refine and_congr_right fun _ => ⟨fun h j x hj hjx => ?_, fun h j x hj => h j x (by omega)⟩
      rcases Nat.lt_or_ge j k with q | q
      · exact h j x q hjx
      · obtain rfl : j = k := by omega
        rw [hx] at hjx; cases hjx
    | some y =>
      rw [grD_next hx]
      have key : (∀ (j : Nat) (x : Int), j < k + 1 → ids[j]? = some x → f x ≤ z) ↔ (∀ (j : Nat) (x : Int), j < k → ids[j]? = some x → f x ≤ z) ∧ f y ≤ z := by
        refine ⟨fun h => ⟨fun j x hj => h j x (by omega), h k y (by omega) hx⟩, fun h j x hj hjx => ?_⟩
        rcases Nat.lt_or_ge j k with q | q
        · exact h.1 j x q hjx
        · obtain rfl : j = k := by omega
          rw [hx] at hjx; cases hjx; exact h.2
      rw [key, ← and_assoc, ← ih]
      split
      · exact ⟨fun h => ⟨by omega, h⟩, fun h => h.2⟩
      · exact ⟨fun h => ⟨h, by omega⟩, fun h => h.1⟩
/-- Both ways to tell the greatest are one. -/
theorem gr_both {s r : Int} {L : List TV} {ids : List Int} {m : Nat} (hl : ids.length = m) : grD (fun id => cgB (cgAt s r L id)) ids m = grOf s r L ids := by
  by_cases hc : checkOf s r L = 0
  · have key : ∀ z, grD (fun id => cgB (cgAt s r L id)) ids m ≤ z ↔ grOf s r L ids ≤ z := fun z => by
      rw [grD_le, grOf_le hc]
      refine and_congr_right fun h0 => ⟨fun q x hx hm => ?_, fun q j id hj hjx => ?_⟩
      · obtain ⟨j, hj⟩ := List.mem_iff_getElem?.1 hm
        have := q j x.id (by rw [← hl]; exact (List.getElem?_eq_some_iff.1 hj).1) hj
        rw [check_find hc hx] at this
        exact this
      · cases hf : findTk (L.map TV.tk) id with
        | none => show cgB (cgAt s r L id) ≤ z; rw [cgAt_none hf]; exact h0
        | some t =>
          have hid : t.id = id := by
            unfold findTk at hf
            have := List.find?_some hf
            exact of_decide_eq_true this
          have hm : ∃ x ∈ L, x.tk = t := by
            unfold findTk at hf
            obtain ⟨x, hx, e⟩ := List.mem_map.1 (List.mem_of_find?_eq_some hf)
            exact ⟨x, hx, e⟩
          obtain ⟨x, hx, e⟩ := hm
          show cgB (cgAt s r L id) ≤ z
          rw [cgAt_some hc hf, ← e]
          have hxid : x.id = id := by rw [← hid, ← e]; rfl
          exact q x hx (by rw [hxid]; exact List.mem_of_getElem? hjx)
    have h1 := (key (grOf s r L ids)).2 (Int.le_refl _)
    have h2 := (key (grD (fun id => cgB (cgAt s r L id)) ids m)).1 (Int.le_refl _)
    omega
  · have h0 : grOf s r L ids = 0 := if_neg hc
    rw [h0]
    have h1 := (grD_le (f := fun id => cgB (cgAt s r L id)) (ids := ids) 0 m).2 ⟨Int.le_refl _, fun j x _ _ => by show cgB (cgAt s r L x) ≤ 0; rw [cgAt_bad hc]; exact Int.le_refl _⟩
    have h2 : 0 ≤ grD (fun id => cgB (cgAt s r L id)) ids m := ((grD_le (f := fun id => cgB (cgAt s r L id)) (ids := ids) _ m).1 (Int.le_refl _)).1
    omega

/-- A system in its box. -/
structure RGAt (w : World) (s r : Int) (a : Option Addr) (n cap : Nat) (V : World) : Prop where
  low : Below w.heap.size w V
  sys : V.heap[w.heap.size]? = some (.cells #[.int .i64 s, .int .i64 r, .slice a n cap] 27 (0, 0))
theorem RGAt.below {w : World} {s r : Int} {a : Option Addr} {n cap : Nat} {V V' : World} (h : RGAt w s r a n cap V) (hb : Below V.heap.size V V') : RGAt w s r a n cap V' := ⟨below_up h.low hb, kept_obj hb h.sys⟩

set_option maxRecDepth 100000 in
set_option maxHeartbeats 8000000 in
theorem rgr_any {w : World} {a : Option Addr} {n cap : Nat} {L : List TV} (s r : Int) (ha : Tasks w a n cap L) (ids : List Int) (m : Nat) (hl : ids.length = m) (hm : (m : Int) ≤ 9223372036854775807) (ai : Option Addr) (ci : Nat) (hi : Ints w ai ids) :
    Calls Try.prog 24 #[.agg #[.int .i64 s, .int .i64 r, .slice a n cap], .slice ai m ci] w fun e w' => e = .returned (.int .i64 (grD (fun id => cgB (cgAt s r L id)) ids m)) ∧ Below w.heap.size w w' := by
  have RC := Lib.hid (fun v (hb : Below w.heap.size w v) id => rof5_any s r id (ha.below hb))
  have HI := Lib.hid hi
  have HL := Lib.hid hl
  obtain ⟨f, hf⟩ : ∃ f, (fun id => cgB (cgAt s r L id)) = f := ⟨_, rfl⟩
  have HF : Hid (∀ id, cgB (cgAt s r L id) = f id) := fun id => by rw [← hf]
  rw [hf]
  clear ha hi hl hf
  go_enter Try.func24, Try.ntmps24
  go_wp2_with fail
  refine gen_world (RGAt w s r a n cap) ⟨(by repeat (first | exact Below.refl _ _ | (with_reducible assumption) | refine bw_alloc ?_ _ | refine bw_drew ?_)), heap_alloc_new w _⟩ ?_
  intro V0 hv0
  have HV0 := Lib.hid hv0
  clear hv0
  go_loopw [5, 6] (fun g u wr => ∃ k : Nat, k ≤ m ∧ u = .int .i64 k ∧ g = .int .i64 (grD f ids k) ∧ Hid (RGAt w s r a n cap wr)) (fun _ u _ => (m - intOf u).toNat)
  case atStart => exact ⟨0, Nat.zero_le _, rfl, rfl, HV0⟩
  case round =>
    obtain ⟨k, hk, rfl, rfl, HP⟩ := hrel
    clear HV0
    by_cases hlt : k < m
    · obtain ⟨id, hx⟩ := nth_of HL.out hlt
      obtain ⟨b, o, rfl, c0⟩ := (HI.out.below HP.out.low).at_ hx
      have hk1 : (k : Int) < (m : Int) := by omega
      have hk0 : (0 : Int) ≤ (k : Int) := by omega
      have hN := grD_next (f := f) hx
      have OC := Lib.hid (fun v (hb : Below wr.heap.size wr v) => RC.out v (below_up HP.out.low hb) id)
      rw [HF.out id] at OC
      obtain ⟨i0, hi0⟩ : ∃ x, cgI id (cgAt s r L id) = x := ⟨_, rfl⟩
      obtain ⟨U, hU⟩ : ∃ x, cgU (cgAt s r L id) = x := ⟨_, rfl⟩
      obtain ⟨V, hV⟩ : ∃ x, cgV (cgAt s r L id) = x := ⟨_, rfl⟩
      obtain ⟨B, hB⟩ : ∃ x, f id = x := ⟨_, rfl⟩
      rw [hi0, hU, hV, hB] at OC
      rw [hB] at hN
      have HN := Lib.hid hN
      generalize grD f ids k = z at *
      have MK : Hid (∀ w', Below wr.heap.size wr w' → (w'.cell? ⟨w.heap.size, 0, none⟩ = some (.int .i64 s) ∧ w'.cell? ⟨w.heap.size, 1, none⟩ = some (.int .i64 r) ∧ w'.cell? ⟨w.heap.size, 2, none⟩ = some (.slice a n cap) ∧ w'.cell? ⟨b, o + k, none⟩ = some (.int .i64 id))) := fun w' hb => by
        have x0 := kept_obj hb HP.out.sys
        exact ⟨by rw [blk_cell x0]; rfl, by rw [blk_cell x0]; rfl, by rw [blk_cell x0]; rfl, kept_cell hb c0⟩
      clear hx hN hi0 hU hV hB c0
      go_upto_region 5 with fail
      go_cut [7] (fun u wx => ∃ gx : Nat, u = .pointer (some ⟨gx, 0, none⟩) ∧ Hid (Blk5 wx gx i0 U V B B) ∧ Hid (Below wr.heap.size wr wx))
      case first =>
        go_region_held3 (fun w' => w'.cell? ⟨w.heap.size, 0, none⟩ = some (.int .i64 s) ∧ w'.cell? ⟨w.heap.size, 1, none⟩ = some (.int .i64 r) ∧ w'.cell? ⟨w.heap.size, 2, none⟩ = some (.slice a n cap) ∧ w'.cell? ⟨b, o + k, none⟩ = some (.int .i64 id)) (exact MK.out _ (by repeat (first | exact Below.refl _ _ | (with_reducible assumption) | refine bw_drew ?_ | refine bw_alloc ?_ _ | refine Below.setCell ?_ (by show _ ≤ _; first | exact Nat.le_refl _ | exact bx1.size) _))) (first
          | (go_at_call 20; (with_reducible refine (Calls.upV (V := wr) (by repeat (first | exact Below.refl _ _ | (with_reducible assumption) | refine bw_alloc ?_ _ | refine bw_drew ?_)) (OC.out _ (by repeat (first | exact Below.refl _ _ | (with_reducible assumption) | refine bw_alloc ?_ _ | refine bw_drew ?_)))).mono ?_); rintro e wx ⟨rfl, bz, bx1⟩; (try (have hq : wx.heap[wr.heap.size]? = some (.cells #[.int .i64 0, .int .i64 0, .int .i64 0, .int .i64 0, .int .i64 0] 60 (0, 0)) := kept_obj bz (heap_alloc_new wr.drew _); have HQ := Lib.hid hq; have z0 : wx.cell? ⟨wr.heap.size, 0, none⟩ = some (.int .i64 0) := (by rw [blk_cell hq]; rfl); have f0 : wx.frozen? ⟨wr.heap.size, 0, none⟩ = false := blk_free hq 0; have z1 : wx.cell? ⟨wr.heap.size, 1, none⟩ = some (.int .i64 0) := (by rw [blk_cell hq]; rfl); have f1 : wx.frozen? ⟨wr.heap.size, 1, none⟩ = false := blk_free hq 1; have z2 : wx.cell? ⟨wr.heap.size, 2, none⟩ = some (.int .i64 0) := (by rw [blk_cell hq]; rfl); have f2 : wx.frozen? ⟨wr.heap.size, 2, none⟩ = false := blk_free hq 2; have z3 : wx.cell? ⟨wr.heap.size, 3, none⟩ = some (.int .i64 0) := (by rw [blk_cell hq]; rfl); have f3 : wx.frozen? ⟨wr.heap.size, 3, none⟩ = false := blk_free hq 3; have z4 : wx.cell? ⟨wr.heap.size, 4, none⟩ = some (.int .i64 0) := (by rw [blk_cell hq]; rfl); have f4 : wx.frozen? ⟨wr.heap.size, 4, none⟩ = false := blk_free hq 4; clear hq)); clear bz))
        all_goals
          go_wp2_with fail
          go_meet
          first
            | with_reducible exact ⟨wr.heap.size, rfl, Lib.hid (Blk5.set (blk5_of HQ.out) i0 U V B B), Lib.hid (by repeat (first | (with_reducible assumption) | refine bw_alloc ?_ _ | refine Below.setCell ?_ (by show _ ≤ _; first | exact Nat.le_refl _ | exact bx1.size) _))⟩
            | with_reducible exact ⟨wx.heap.size, rfl, Lib.hid (blk5_new wx _ _ _ _ _), Lib.hid (by repeat (first | (with_reducible assumption) | refine bw_alloc ?_ _ | refine Below.setCell ?_ (by show _ ≤ _; first | exact Nat.le_refl _ | exact bx1.size) _))⟩
      case rest =>
        obtain ⟨gx, rfl, HX, HB⟩ := hcut
        have HPW := Lib.hid (HP.out.below HB.out)
        clear MK OC HP HB
        have x4 : wc.cell? ⟨gx, 4, none⟩ = some (.int .i64 B) := by rw [blk_cell HX.out]; rfl
        by_cases q : z < B
        · rw [if_pos q] at HN
          go_wp2_with fail
          go_roundw
          case rel => exact ⟨k + 1, by omega, by go_num, by rw [HN.out], HPW⟩
          case measure => simp [intOf]; omega
        · rw [if_neg q] at HN
          go_wp2_with fail
          go_roundw
          case rel => exact ⟨k + 1, by omega, by go_num, by rw [HN.out], HPW⟩
          case measure => simp [intOf]; omega
    · obtain rfl : k = m := by omega
      go_wp2
      go_ret
      exact ⟨rfl, HP.out.low⟩
end Go.Proofs.Ytlglncnhhgofoaa

/-
  The walk over the document's row of charges.
-/
namespace Go.Proofs.Ytlglncnhhgofoaa
open Go.RowKit Go.Maps

theorem check_pos {s r : Int} {L : List TV} (h : checkOf s r L = 0) {x : TV} (hx : x ∈ L) : 0 < x.id := by
  unfold checkOf at h
  by_cases g : sysBad s r L
  · rw [if_pos g] at h; omega
  rw [if_neg g] at h
  by_cases g2 : 64 < L.length
  · rw [if_pos g2] at h; omega
  rw [if_neg g2] at h
  exact first_rise L _ _ h x hx

set_option maxRecDepth 100000 in
set_option maxHeartbeats 8000000 in
theorem rrow10_any {w : World} {a : Option Addr} {n cap : Nat} {L : List TV} (s r : Int) (ha : Tasks w a n cap L) :
    Calls Try.prog 23 #[.agg #[.int .i64 s, .int .i64 r, .slice a n cap]] w (CgBack (rowAll s r L) w) := by
  have RC := Lib.hid (fun v (hb : Below w.heap.size w v) id => rof5_any s r id (ha.below hb))
  have HA := Lib.hid ha
  have hn9 : (n : Int) ≤ 9223372036854775807 := by have := ha.le; have := ha.small; omega
  obtain ⟨R0, hR0⟩ : ∃ R0, rowAll s r L = R0 := ⟨_, rfl⟩
  have HR0 := Lib.hid hR0
  rw [hR0]
  clear ha hR0
  go_enter Try.func23, Try.ntmps23
  go_wp2_with fail
  refine gen_world (RowAt w s r a n cap (w.heap.size + 1) (.slice none 0 0) []) ⟨(by repeat (first | exact Below.refl _ _ | (with_reducible assumption) | refine bw_alloc ?_ _ | refine bw_drew ?_)), heap_alloc_new w _, World.ownsRow_nil _ _ _ _, Nat.lt_succ_self _, by rw [World.size_alloc]; omega⟩ ?_
  intro V0 hv0
  have HV0 := Lib.hid hv0
  clear hv0
  go_loopw [3, 4] (fun g u wr => ∃ k : Nat, k ≤ n ∧ u = .int .i64 k ∧ Hid (RowAt w s r a n cap (w.heap.size + 1) g (cgRow r L k) wr) ∧ Hid (k = 0 ∨ checkOf s r L = 0)) (fun _ u _ => (n - intOf u).toNat)
  case atStart => exact ⟨0, Nat.zero_le _, rfl, HV0, .inl rfl⟩
  case round =>
    obtain ⟨k, hk, rfl, HP, HK⟩ := hrel
    clear HV0
    have s2 : wr.cell? ⟨w.heap.size, 2, none⟩ = some (.slice a n cap) := by rw [blk_cell HP.out.sys]; rfl
    by_cases hlt : k < n
    · obtain ⟨x, hx⟩ := nth_of HA.out.len hlt
      obtain ⟨b, o, rfl, hat⟩ := (HA.out.view.below HP.out.low).at_ hx
      have c0 := hat.c0
      have hk1 : (k : Int) < (n : Int) := by omega
      have hk0 : (0 : Int) ≤ (k : Int) := by omega
      have HXL : Hid (L[k]? = some x) := hx
      have OC := Lib.hid (fun v (hb : Below wr.heap.size wr v) => RC.out v (below_up HP.out.low hb) x.id)
      obtain ⟨i0, hi0⟩ : ∃ y, cgI x.id (cgAt s r L x.id) = y := ⟨_, rfl⟩
      obtain ⟨U, hU⟩ : ∃ y, cgU (cgAt s r L x.id) = y := ⟨_, rfl⟩
      obtain ⟨V, hV⟩ : ∃ y, cgV (cgAt s r L x.id) = y := ⟨_, rfl⟩
      obtain ⟨B, hB⟩ : ∃ y, cgB (cgAt s r L x.id) = y := ⟨_, rfl⟩
      have HID := Lib.hid (And.intro hi0 (And.intro hU (And.intro hV hB)))
      rw [hi0, hU, hV, hB] at OC
      have MK : Hid (∀ w', Below wr.heap.size wr w' → (w'.cell? ⟨w.heap.size, 0, none⟩ = some (.int .i64 s) ∧ w'.cell? ⟨w.heap.size, 1, none⟩ = some (.int .i64 r) ∧ w'.cell? ⟨w.heap.size, 2, none⟩ = some (.slice (some ⟨b, o, none⟩) n cap) ∧ w'.cell? ⟨b, o + k * 7, none⟩ = some (.int .i64 x.id))) := fun w' hb => by
        have x0 := kept_obj hb HP.out.sys
        exact ⟨by rw [blk_cell x0]; rfl, by rw [blk_cell x0]; rfl, by rw [blk_cell x0]; rfl, kept_cell hb c0⟩
      clear hx hi0 hU hV hB hat
      go_upto_region 5 with fail
      clear s2 c0
      go_cut [5] (fun u wx => ∃ gx : Nat, u = .pointer (some ⟨gx, 0, none⟩) ∧ Hid (Blk5 wx gx i0 U V B B) ∧ Hid (Below wr.heap.size wr wx))
      case first =>
        go_region_held3 (fun w' => w'.cell? ⟨w.heap.size, 0, none⟩ = some (.int .i64 s) ∧ w'.cell? ⟨w.heap.size, 1, none⟩ = some (.int .i64 r) ∧ w'.cell? ⟨w.heap.size, 2, none⟩ = some (.slice (some ⟨b, o, none⟩) n cap) ∧ w'.cell? ⟨b, o + k * 7, none⟩ = some (.int .i64 x.id)) (exact MK.out _ (by repeat (first | exact Below.refl _ _ | (with_reducible assumption) | refine bw_drew ?_ | refine bw_alloc ?_ _ | refine Below.setCell ?_ (by show _ ≤ _; first | exact Nat.le_refl _ | exact bx1.size) _))) (first
          | (go_at_call 20; (with_reducible refine (Calls.upV (V := wr) (by repeat (first | exact Below.refl _ _ | (with_reducible assumption) | refine bw_alloc ?_ _ | refine bw_drew ?_)) (OC.out _ (by repeat (first | exact Below.refl _ _ | (with_reducible assumption) | refine bw_alloc ?_ _ | refine bw_drew ?_)))).mono ?_); rintro e wx ⟨rfl, bz, bx1⟩; (try (have hq : wx.heap[wr.heap.size]? = some (.cells #[.int .i64 0, .int .i64 0, .int .i64 0, .int .i64 0, .int .i64 0] 60 (0, 0)) := kept_obj bz (heap_alloc_new wr.drew _); have HQ := Lib.hid hq; have z0 : wx.cell? ⟨wr.heap.size, 0, none⟩ = some (.int .i64 0) := (by rw [blk_cell hq]; rfl); have f0 : wx.frozen? ⟨wr.heap.size, 0, none⟩ = false := blk_free hq 0; have z1 : wx.cell? ⟨wr.heap.size, 1, none⟩ = some (.int .i64 0) := (by rw [blk_cell hq]; rfl); have f1 : wx.frozen? ⟨wr.heap.size, 1, none⟩ = false := blk_free hq 1; have z2 : wx.cell? ⟨wr.heap.size, 2, none⟩ = some (.int .i64 0) := (by rw [blk_cell hq]; rfl); have f2 : wx.frozen? ⟨wr.heap.size, 2, none⟩ = false := blk_free hq 2; have z3 : wx.cell? ⟨wr.heap.size, 3, none⟩ = some (.int .i64 0) := (by rw [blk_cell hq]; rfl); have f3 : wx.frozen? ⟨wr.heap.size, 3, none⟩ = false := blk_free hq 3; have z4 : wx.cell? ⟨wr.heap.size, 4, none⟩ = some (.int .i64 0) := (by rw [blk_cell hq]; rfl); have f4 : wx.frozen? ⟨wr.heap.size, 4, none⟩ = false := blk_free hq 4; clear hq)); clear bz))
        all_goals
          go_wp2_with fail
          go_meet
          first
            | with_reducible exact ⟨wr.heap.size, rfl, Lib.hid (Blk5.set (blk5_of HQ.out) i0 U V B B), Lib.hid (by repeat (first | (with_reducible assumption) | refine bw_alloc ?_ _ | refine Below.setCell ?_ (by show _ ≤ _; first | exact Nat.le_refl _ | exact bx1.size) _))⟩
            | with_reducible exact ⟨wx.heap.size, rfl, Lib.hid (blk5_new wx _ _ _ _ _), Lib.hid (by repeat (first | (with_reducible assumption) | refine bw_alloc ?_ _ | refine Below.setCell ?_ (by show _ ≤ _; first | exact Nat.le_refl _ | exact bx1.size) _))⟩
      case rest =>
        obtain ⟨gx, rfl, HX, HB⟩ := hcut
        have HPW := Lib.hid (HP.out.below HB.out)
        clear MK OC HP HB
        have x0 : wc.cell? ⟨gx, 0, none⟩ = some (.int .i64 i0) := by rw [blk_cell HX.out]; rfl
        by_cases hc : checkOf s r L = 0
        · have hxm := List.mem_of_getElem? HXL.out
          have hcf := check_find hc hxm
          have hps := check_pos hc hxm
          have hxid : x.id = i0 := by rw [← HID.out.1, hcf]; rfl
          have hd : (i0 == 0) = false := by rw [beq_eq_false_iff_ne]; omega
          have HN : Hid (cgRow r L (k + 1) = cgRow r L k ++ [(i0, (⟨U, V, B⟩ : Cg))]) := by
            show _ = _
            rw [cgRow_next HXL.out, hxid]
            have e1 := HID.out.2.1; have e2 := HID.out.2.2.1; have e3 := HID.out.2.2.2
            rw [hcf] at e1 e2 e3
            rw [← e1, ← e2, ← e3]; rfl
          have HL : Hid ((cgRow r L k).length = k) := cgRow_len (by have := HA.out.len; omega)
          have hn64 : n ≤ 64 := by have := (check_ok hc).2.2.1; have := HA.out.len; omega
          have HSM : Hid ((cgRow r L k).length + 1 ≤ 1000000) := by have := HL.out; show _ ≤ _; omega
          have HNN : Hid ((cgRow r L k).length + 1 = k + 1) := by have := HL.out; show _ = _; omega
          generalize cgRow r L k = R at *
          have x1 : wc.cell? ⟨gx, 1, none⟩ = some (.int .i64 U) := by rw [blk_cell HX.out]; rfl
          have x2 : wc.cell? ⟨gx, 2, none⟩ = some (.int .i64 V) := by rw [blk_cell HX.out]; rfl
          have x3 : wc.cell? ⟨gx, 3, none⟩ = some (.int .i64 B) := by rw [blk_cell HX.out]; rfl
          have x4 : wc.cell? ⟨gx, 4, none⟩ = some (.int .i64 B) := by rw [blk_cell HX.out]; rfl
          clear hxm hcf hps hxid HXL HID hn64
          have HC := Lib.hid hc
          clear hc
          go_wp2_with (at_builtin; refine wp_gappend (m := 1) (l := [(i0, (⟨U, V, B⟩ : Cg))]) rfl _ _ rfl rfl rfl ((HPW.out.below (by repeat (first | exact Below.refl _ _ | (with_reducible assumption) | refine bw_alloc ?_ _ | refine bw_drew ?_))).own) (HPW.out.below (by repeat (first | exact Below.refl _ _ | (with_reducible assumption) | refine bw_alloc ?_ _ | refine bw_drew ?_))).sz (GView.of_at (gat_new wc (i0, (⟨U, V, B⟩ : Cg)) _)) rfl HSM.out (fun z => by cases z) (k + 1) HNN.out ?_; intro a6 c6 w6 o6 n6 l6; rw [← HN.out] at o6; obtain ⟨z1, _⟩ := (HPW.out.below (by repeat (first | exact Below.refl _ _ | (with_reducible assumption) | refine bw_alloc ?_ _ | refine bw_drew ?_))).push n6 o6; have HP6 := Lib.hid z1; clear o6 n6 l6 z1)
          go_roundw
          case rel => exact ⟨k + 1, by omega, by go_num, HP6, .inr HC.out⟩
          case measure => simp [intOf]; omega
        · have hi : i0 = 0 := by rw [← HID.out.1, cgAt_bad hc]; rfl
          have hd : (i0 == 0) = true := by rw [beq_iff_eq]; exact hi
          have HR : Hid (R0 = []) := by show _ = _; rw [← HR0.out]; exact if_neg hc
          clear hi hc HID
          go_wp2_with fail
          go_ret
          rw [HR.out]
          exact ⟨none, 0, rfl, .inl rfl, HPW.out.low⟩
    · obtain rfl : k = n := by omega
      have hr : R0 = cgRow r L k := by
        rw [← HR0.out]
        unfold rowAll
        by_cases hc : checkOf s r L = 0
        · rw [if_pos hc, HA.out.len]
        · rcases HK.out with q | q
          · rw [if_neg hc, q]; rfl
          · exact absurd q hc
      have HRR := Lib.hid hr
      obtain ⟨a', c', rfl, hvw, _, _⟩ := HP.out.own.slice
      have HVW := Lib.hid hvw
      have HL : Hid ((cgRow r L k).length = k) := cgRow_len (by have := HA.out.len; omega)
      rw [HL.out] at HP
      rw [HL.out]
      clear hvw hr
      go_wp2
      go_ret
      rw [HRR.out]
      exact ⟨a', c', by rw [HL.out]; rfl, HVW.out, HP.out.low⟩
end Go.Proofs.Ytlglncnhhgofoaa

/-
  The walk over two rows of charges that are the same.
-/
namespace Go.Proofs.Ytlglncnhhgofoaa
open Go.RowKit Go.Maps

theorem cgGuard : Try.prog.eqGuardType Try.prog.depth 60 = false := by kernel_rfl
theorem cgFields : Try.prog.underlying 60 = some (.struct (Try.prog.fieldsOf 60)) := by kernel_rfl
theorem cgStood : Try.prog.stoodInHeld 60 = false := by kernel_rfl
theorem cg_ne (a b c d : Int) (w : World) : (binOp .neq 60 (.agg #[.int .i64 a, .int .i64 b, .int .i64 c, .int .i64 d, .int .i64 d]) (.agg #[.int .i64 a, .int .i64 b, .int .i64 c, .int .i64 d, .int .i64 d])).run Try.prog w = .ok (.bool false) w := by
  have u1 := Try.underlying3
  have u2 := Try.underlying2
  rw [run_neq_struct, show (10000 : Nat) = 9999 + 1 from rfl, run_equalIn_agg w 9999 _ _ _ cgFields cgStood]
  simp only [Program.fieldsOf, Try.underlying60]
  go_simp
attribute [-go_sem] run_neq_struct
attribute [local go_sem] cg_ne cgGuard

set_option maxRecDepth 100000 in
set_option maxHeartbeats 4000000 in
theorem rsame10_any (n ca cb : Nat) (hn : (n : Int) ≤ 9223372036854775807) (a b : Option Addr) (l : List CgE) (hl : l.length = n) (w : World) (ha : GView w a l) (hb : GView w b l) :
    Calls Try.prog 21 #[.slice a n ca, .slice b n cb] w fun e w' => e = .returned (.bool true) ∧ Below w.heap.size w w' := by
  have HA := Lib.hid ha
  have HB := Lib.hid hb
  have HL := Lib.hid hl
  clear ha hb hl
  go_enter Try.func21, Try.ntmps21
  go_wp2
  go_loopw [5] (fun u wr => ∃ k : Nat, k ≤ n ∧ u = .int .i64 k ∧ Hid (Below w.heap.size w wr)) (fun u _ => (n - intOf u).toNat)
  case atStart => exact ⟨0, by omega, rfl, Below.refl _ _⟩
  case round =>
    obtain ⟨k, hk, rfl, HP⟩ := hrel
    by_cases hlt : k < n
    · obtain ⟨x, hx⟩ := nth_of HL.out hlt
      obtain ⟨g, o, rfl, hA⟩ := (HA.out.below HP.out).at_ hx
      obtain ⟨g2, o2, rfl, hB⟩ := (HB.out.below HP.out).at_ hx
      obtain ⟨c0, c1, c2, c3, c4⟩ := hA
      obtain ⟨d0, d1, d2, d3, d4⟩ := hB
      have hk1 : (k : Int) < (n : Int) := by omega
      have hk0 : (0 : Int) ≤ (k : Int) := by omega
      clear hx
      go_upto_region 6 with (fail)
      go_quiet (fail)
      go_wp2
      go_roundw
      case rel => exact ⟨k + 1, by omega, by go_num, below_same HP.out rfl rfl rfl rfl⟩
      case measure => simp [intOf]; omega
    · obtain rfl : k = n := by omega
      go_wp2
      go_ret
      exact ⟨rfl, HP.out⟩
end Go.Proofs.Ytlglncnhhgofoaa

/-
  The walk over what the statement asks of one system: every charge, the row of all, the greatest.
-/
namespace Go.Proofs.Ytlglncnhhgofoaa
open Go.RowKit Go.Maps

theorem cgI_zero {s r : Int} {L : List TV} {id : Int} : (cgI id (cgAt s r L id) == 0) = !(cgAt s r L id).isSome := by
  by_cases hc : checkOf s r L = 0
  · cases hf : findTk (L.map TV.tk) id with
    | none => rw [cgAt_none hf]; rfl
    | some t =>
      have hf' := hf
      unfold findTk at hf'
      obtain ⟨x, hx, e⟩ := List.mem_map.1 (List.mem_of_find?_eq_some hf')
      have hid : t.id = id := by
        have := List.find?_some hf'
        exact of_decide_eq_true this
      have hp := check_pos hc hx
      have hxid : x.id = id := by rw [← hid, ← e]; rfl
      rw [cgAt_some hc hf]
      show (id == 0) = false
      rw [beq_eq_false_iff_ne]; omega
  · rw [cgAt_bad hc]; rfl
/-- A system in its box, a charge in its own. -/
structure TlAt (w : World) (s r : Int) (a : Option Addr) (n cap gx : Nat) (i0 U V B : Int) (W : World) : Prop where
  rg : RGAt w s r a n cap W
  box : Blk5 W gx i0 U V B B
theorem TlAt.below {w : World} {s r : Int} {a : Option Addr} {n cap gx : Nat} {i0 U V B : Int} {W W' : World} (h : TlAt w s r a n cap gx i0 U V B W) (hb : Below W.heap.size W W') : TlAt w s r a n cap gx i0 U V B W' := ⟨h.rg.below hb, kept_obj hb h.box⟩

set_option maxRecDepth 100000 in
set_option maxHeartbeats 16000000 in
theorem tells10_any {w : World} {a : Option Addr} {n cap : Nat} {L : List TV} (s r : Int) (ha : Tasks w a n cap L) (hw : ∀ x ∈ L, I64 x.p ∧ I64 x.id) (ids : List Int) (m : Nat) (hl : ids.length = m) (hm : (m : Int) ≤ 9223372036854775807) (ai : Option Addr) (ci : Nat) (hi : Ints w ai ids) :
    Calls Try.prog 9 #[.agg #[.int .i64 s, .int .i64 r, .slice a n cap], .slice ai m ci] w fun e w' => e = .returned (.bool true) ∧ Below w.heap.size w w' := by
  have RC := Lib.hid (fun v (hb : Below w.heap.size w v) id => rof5_any s r id (ha.below hb))
  have C5 := Lib.hid (fun v (hb : Below w.heap.size w v) id => cUseful_any s r id (ha.below hb) hw)
  have C6 := Lib.hid (fun v (hb : Below w.heap.size w v) id => cUsed_any s r id (ha.below hb) hw)
  have C7 := Lib.hid (fun v (hb : Below w.heap.size w v) id => cBoth_any s r id (ha.below hb) hw)
  have C8 := Lib.hid (fun v (hb : Below w.heap.size w v) id => cOf_any s r id (ha.below hb) hw)
  unfold OneBack at C5 C6 C7 C8
  have P1 : Hid (∀ v, Below w.heap.size w v → Calls Try.prog 22 #[.agg #[.int .i64 s, .int .i64 r, .slice a n cap]] v fun e w' => (∃ a1 c1, e = .returned (.slice a1 (rowAll s r L).length c1) ∧ GView w' a1 (rowAll s r L)) ∧ Below v.heap.size v w') :=
    fun v hb => (row10_any s r (ha.below hb) hw).mono fun _ _ ⟨a1, c1, q1, q2, q3⟩ => ⟨⟨a1, c1, q1, q2⟩, q3⟩
  have P2 : Hid (∀ v, Below w.heap.size w v → Calls Try.prog 23 #[.agg #[.int .i64 s, .int .i64 r, .slice a n cap]] v fun e w' => (∃ a1 c1, e = .returned (.slice a1 (rowAll s r L).length c1) ∧ GView w' a1 (rowAll s r L)) ∧ Below v.heap.size v w') :=
    fun v hb => (rrow10_any s r (ha.below hb)).mono fun _ _ ⟨a1, c1, q1, q2, q3⟩ => ⟨⟨a1, c1, q1, q2⟩, q3⟩
  have hrl : ((rowAll s r L).length : Int) ≤ 9223372036854775807 := by
    unfold rowAll
    split
    · rw [cgRow_len (Nat.le_refl _), ha.len]; have := ha.le; have := ha.small; omega
    · show (0 : Int) ≤ _; omega
  obtain ⟨R, hR⟩ : ∃ R, rowAll s r L = R := ⟨_, rfl⟩
  rw [hR] at P1 P2 hrl
  have P3 := Lib.hid (fun c1 c2 a1 a2 v h1 h2 => rsame10_any R.length c1 c2 hrl a1 a2 R rfl v h1 h2)
  obtain ⟨G, hG⟩ : ∃ G, grOf s r L ids = G := ⟨_, rfl⟩
  have G1 := Lib.hid (fun v (hb : Below w.heap.size w v) => greatest_any s r (ha.below hb) hw ids m hl hm ai ci (hi.below hb))
  have G2 := Lib.hid (fun v (hb : Below w.heap.size w v) => rgr_any s r (ha.below hb) ids m hl hm ai ci (hi.below hb))
  rw [gr_both hl] at G2
  rw [hG] at G1 G2
  have HI := Lib.hid hi
  have HL := Lib.hid hl
  clear ha hw hi hl hR hG hrl
  go_enter Try.func9, Try.ntmps9
  go_wp2_with fail
  refine gen_world (RGAt w s r a n cap) ⟨(by repeat (first | exact Below.refl _ _ | (with_reducible assumption) | refine bw_alloc ?_ _ | refine bw_drew ?_)), heap_alloc_new w _⟩ ?_
  intro V0 hv0
  have HV0 := Lib.hid hv0
  clear hv0
  go_loopw [5] (fun u wr => ∃ k : Nat, k ≤ m ∧ u = .int .i64 k ∧ Hid (RGAt w s r a n cap wr)) (fun u _ => (m - intOf u).toNat)
  case atStart => exact ⟨0, Nat.zero_le _, rfl, HV0⟩
  case round =>
    obtain ⟨k, hk, rfl, HP⟩ := hrel
    clear HV0
    by_cases hlt : k < m
    · clear P1 P2 P3 G1 G2
      obtain ⟨id, hx⟩ := nth_of HL.out hlt
      obtain ⟨b, o, rfl, c0⟩ := (HI.out.below HP.out.low).at_ hx
      have MK : Hid (∀ w', RGAt w s r a n cap w' → (w'.cell? ⟨w.heap.size, 0, none⟩ = some (.int .i64 s) ∧ w'.cell? ⟨w.heap.size, 1, none⟩ = some (.int .i64 r) ∧ w'.cell? ⟨w.heap.size, 2, none⟩ = some (.slice a n cap) ∧ w'.cell? ⟨b, o + k, none⟩ = some (.int .i64 id))) := fun w' h => by
        obtain ⟨b', o', e, c9⟩ := (HI.out.below h.low).at_ hx
        cases e
        exact ⟨by rw [blk_cell h.sys]; rfl, by rw [blk_cell h.sys]; rfl, by rw [blk_cell h.sys]; rfl, c9⟩
      have hk1 : (k : Int) < (m : Int) := by omega
      have hk0 : (0 : Int) ≤ (k : Int) := by omega
      have OC := Lib.hid (fun v (hb : Below w.heap.size w v) => RC.out v hb id)
      have C5 := Lib.hid (fun v (hb : Below w.heap.size w v) => C5.out v hb id)
      have C6 := Lib.hid (fun v (hb : Below w.heap.size w v) => C6.out v hb id)
      have C7 := Lib.hid (fun v (hb : Below w.heap.size w v) => C7.out v hb id)
      have C8 := Lib.hid (fun v (hb : Below w.heap.size w v) => C8.out v hb id)
      have HZ := cgI_zero (s := s) (r := r) (L := L) (id := id)
      obtain ⟨i0, hi0⟩ : ∃ x, cgI id (cgAt s r L id) = x := ⟨_, rfl⟩
      obtain ⟨U, hU⟩ : ∃ x, cgU (cgAt s r L id) = x := ⟨_, rfl⟩
      obtain ⟨V, hV⟩ : ∃ x, cgV (cgAt s r L id) = x := ⟨_, rfl⟩
      obtain ⟨B, hB⟩ : ∃ x, cgB (cgAt s r L id) = x := ⟨_, rfl⟩
      obtain ⟨bb, hbb⟩ : ∃ x, (cgAt s r L id).isSome = x := ⟨_, rfl⟩
      rw [hi0, hU, hV, hB] at OC
      rw [hi0, hbb] at HZ
      rw [hU, hbb] at C5
      rw [hV, hbb] at C6
      rw [hB, hbb] at C7 C8
      have HZ := Lib.hid HZ
      clear hx hi0 hU hV hB hbb RC c0
      obtain ⟨s0, s1, s2, i1⟩ := MK.out _ HP.out
      go_upto_region 4 with fail
      clear s0 s1 s2 i1
      go_cut [6] (fun u wx => ∃ gx : Nat, u = .pointer (some ⟨gx, 0, none⟩) ∧ Hid (TlAt w s r a n cap gx i0 U V B wx))
      case first =>
        go_region_held3 (fun w' => w'.cell? ⟨w.heap.size, 0, none⟩ = some (.int .i64 s) ∧ w'.cell? ⟨w.heap.size, 1, none⟩ = some (.int .i64 r) ∧ w'.cell? ⟨w.heap.size, 2, none⟩ = some (.slice a n cap) ∧ w'.cell? ⟨b, o + k, none⟩ = some (.int .i64 id)) (exact MK.out _ (HP.out.below (by repeat (first | exact Below.refl _ _ | (with_reducible assumption) | refine bw_drew ?_ | refine bw_alloc ?_ _ | refine Below.setCell ?_ (by show _ ≤ _; first | exact Nat.le_refl _ | exact bx1.size) _)))) (first
          | (go_at_call 20; (with_reducible refine (Calls.upV (V := wr) (by repeat (first | exact Below.refl _ _ | (with_reducible assumption) | refine bw_alloc ?_ _ | refine bw_drew ?_)) (OC.out _ (below_up HP.out.low (by repeat (first | exact Below.refl _ _ | (with_reducible assumption) | refine bw_alloc ?_ _ | refine bw_drew ?_))))).mono ?_); rintro e wx ⟨rfl, bz, bx1⟩; (try (have hq : wx.heap[wr.heap.size]? = some (.cells #[.int .i64 0, .int .i64 0, .int .i64 0, .int .i64 0, .int .i64 0] 60 (0, 0)) := kept_obj bz (heap_alloc_new wr.drew _); have HQ := Lib.hid hq; have z0 : wx.cell? ⟨wr.heap.size, 0, none⟩ = some (.int .i64 0) := (by rw [blk_cell hq]; rfl); have f0 : wx.frozen? ⟨wr.heap.size, 0, none⟩ = false := blk_free hq 0; have z1 : wx.cell? ⟨wr.heap.size, 1, none⟩ = some (.int .i64 0) := (by rw [blk_cell hq]; rfl); have f1 : wx.frozen? ⟨wr.heap.size, 1, none⟩ = false := blk_free hq 1; have z2 : wx.cell? ⟨wr.heap.size, 2, none⟩ = some (.int .i64 0) := (by rw [blk_cell hq]; rfl); have f2 : wx.frozen? ⟨wr.heap.size, 2, none⟩ = false := blk_free hq 2; have z3 : wx.cell? ⟨wr.heap.size, 3, none⟩ = some (.int .i64 0) := (by rw [blk_cell hq]; rfl); have f3 : wx.frozen? ⟨wr.heap.size, 3, none⟩ = false := blk_free hq 3; have z4 : wx.cell? ⟨wr.heap.size, 4, none⟩ = some (.int .i64 0) := (by rw [blk_cell hq]; rfl); have f4 : wx.frozen? ⟨wr.heap.size, 4, none⟩ = false := blk_free hq 4; clear hq)); clear bz))
        all_goals
          go_wp2_with fail
          go_meet
          first
            | with_reducible exact ⟨wr.heap.size, rfl, Lib.hid (TlAt.mk (HP.out.below (by repeat (first | exact Below.refl _ _ | (with_reducible assumption) | refine bw_drew ?_ | refine bw_alloc ?_ _ | refine Below.setCell ?_ (by show _ ≤ _; first | exact Nat.le_refl _ | exact bx1.size) _))) (Blk5.set (blk5_of HQ.out) i0 U V B B))⟩
            | with_reducible exact ⟨wx.heap.size, rfl, Lib.hid (TlAt.mk (HP.out.below (by repeat (first | exact Below.refl _ _ | (with_reducible assumption) | refine bw_drew ?_ | refine bw_alloc ?_ _ | refine Below.setCell ?_ (by show _ ≤ _; first | exact Nat.le_refl _ | exact bx1.size) _))) (blk5_new wx _ _ _ _ _))⟩
      case rest =>
        obtain ⟨gx, rfl, H4⟩ := hcut
        clear OC HP
        obtain ⟨s0, s1, s2, i1⟩ := MK.out _ H4.out.rg
        go_upto_region 5 with fail
        clear s0 s1 s2 i1
        go_cut [7, 8] (fun u v wx => u = .int .i64 U ∧ v = .bool bb ∧ Hid (TlAt w s r a n cap gx i0 U V B wx))
        case first =>
          go_region_held3 (fun w' => w'.cell? ⟨w.heap.size, 0, none⟩ = some (.int .i64 s) ∧ w'.cell? ⟨w.heap.size, 1, none⟩ = some (.int .i64 r) ∧ w'.cell? ⟨w.heap.size, 2, none⟩ = some (.slice a n cap) ∧ w'.cell? ⟨b, o + k, none⟩ = some (.int .i64 id)) (exact MK.out _ (H4.out.rg.below (by repeat (first | exact Below.refl _ _ | (with_reducible assumption) | refine bw_alloc ?_ _ | refine bw_drew ?_)))) (first | (go_at_call 12; (with_reducible refine (Calls.upV (V := wc) (by repeat (first | exact Below.refl _ _ | (with_reducible assumption) | refine bw_alloc ?_ _ | refine bw_drew ?_)) (C5.out _ (below_up H4.out.rg.low (by repeat (first | exact Below.refl _ _ | (with_reducible assumption) | refine bw_alloc ?_ _ | refine bw_drew ?_))))).mono ?_); rintro e wx ⟨rfl, bz, bx1⟩; clear bz))
          all_goals
            go_wp2_with fail
            go_meet
            exact ⟨rfl, rfl, Lib.hid (H4.out.below (by repeat (first | exact Below.refl _ _ | (with_reducible assumption) | refine bw_alloc ?_ _ | refine bw_drew ?_)))⟩
        case rest =>
          obtain ⟨rfl, rfl, H5⟩ := hcut
          clear H4 C5
          obtain ⟨s0, s1, s2, i1⟩ := MK.out _ H5.out.rg
          go_upto_region 6 with fail
          clear s0 s1 s2 i1
          go_cut [9, 10] (fun u v wx => u = .int .i64 V ∧ v = .bool bb ∧ Hid (TlAt w s r a n cap gx i0 U V B wx))
          case first =>
            go_region_held3 (fun w' => w'.cell? ⟨w.heap.size, 0, none⟩ = some (.int .i64 s) ∧ w'.cell? ⟨w.heap.size, 1, none⟩ = some (.int .i64 r) ∧ w'.cell? ⟨w.heap.size, 2, none⟩ = some (.slice a n cap) ∧ w'.cell? ⟨b, o + k, none⟩ = some (.int .i64 id)) (exact MK.out _ (H5.out.rg.below (by repeat (first | exact Below.refl _ _ | (with_reducible assumption) | refine bw_alloc ?_ _ | refine bw_drew ?_)))) (first | (go_at_call 13; (with_reducible refine (Calls.upV (V := wc) (by repeat (first | exact Below.refl _ _ | (with_reducible assumption) | refine bw_alloc ?_ _ | refine bw_drew ?_)) (C6.out _ (below_up H5.out.rg.low (by repeat (first | exact Below.refl _ _ | (with_reducible assumption) | refine bw_alloc ?_ _ | refine bw_drew ?_))))).mono ?_); rintro e wx ⟨rfl, bz, bx1⟩; clear bz))
            all_goals
              go_wp2_with fail
              go_meet
              exact ⟨rfl, rfl, Lib.hid (H5.out.below (by repeat (first | exact Below.refl _ _ | (with_reducible assumption) | refine bw_alloc ?_ _ | refine bw_drew ?_)))⟩
          case rest =>
            obtain ⟨rfl, rfl, H6⟩ := hcut
            clear H5 C6
            obtain ⟨s0, s1, s2, i1⟩ := MK.out _ H6.out.rg
            go_upto_region 7 with fail
            clear s0 s1 s2 i1
            go_cut [11, 12] (fun u v wx => u = .int .i64 B ∧ v = .bool bb ∧ Hid (TlAt w s r a n cap gx i0 U V B wx))
            case first =>
              go_region_held3 (fun w' => w'.cell? ⟨w.heap.size, 0, none⟩ = some (.int .i64 s) ∧ w'.cell? ⟨w.heap.size, 1, none⟩ = some (.int .i64 r) ∧ w'.cell? ⟨w.heap.size, 2, none⟩ = some (.slice a n cap) ∧ w'.cell? ⟨b, o + k, none⟩ = some (.int .i64 id)) (exact MK.out _ (H6.out.rg.below (by repeat (first | exact Below.refl _ _ | (with_reducible assumption) | refine bw_alloc ?_ _ | refine bw_drew ?_)))) (first | (go_at_call 14; (with_reducible refine (Calls.upV (V := wc) (by repeat (first | exact Below.refl _ _ | (with_reducible assumption) | refine bw_alloc ?_ _ | refine bw_drew ?_)) (C7.out _ (below_up H6.out.rg.low (by repeat (first | exact Below.refl _ _ | (with_reducible assumption) | refine bw_alloc ?_ _ | refine bw_drew ?_))))).mono ?_); rintro e wx ⟨rfl, bz, bx1⟩; clear bz))
              all_goals
                go_wp2_with fail
                go_meet
                exact ⟨rfl, rfl, Lib.hid (H6.out.below (by repeat (first | exact Below.refl _ _ | (with_reducible assumption) | refine bw_alloc ?_ _ | refine bw_drew ?_)))⟩
            case rest =>
              obtain ⟨rfl, rfl, H7⟩ := hcut
              clear H6 C7
              obtain ⟨s0, s1, s2, i1⟩ := MK.out _ H7.out.rg
              go_upto_region 8 with fail
              clear s0 s1 s2 i1
              go_cut [13, 14] (fun u v wx => u = .int .i64 B ∧ v = .bool bb ∧ Hid (TlAt w s r a n cap gx i0 U V B wx))
              case first =>
                go_region_held3 (fun w' => w'.cell? ⟨w.heap.size, 0, none⟩ = some (.int .i64 s) ∧ w'.cell? ⟨w.heap.size, 1, none⟩ = some (.int .i64 r) ∧ w'.cell? ⟨w.heap.size, 2, none⟩ = some (.slice a n cap) ∧ w'.cell? ⟨b, o + k, none⟩ = some (.int .i64 id)) (exact MK.out _ (H7.out.rg.below (by repeat (first | exact Below.refl _ _ | (with_reducible assumption) | refine bw_alloc ?_ _ | refine bw_drew ?_)))) (first | (go_at_call 15; (with_reducible refine (Calls.upV (V := wc) (by repeat (first | exact Below.refl _ _ | (with_reducible assumption) | refine bw_alloc ?_ _ | refine bw_drew ?_)) (C8.out _ (below_up H7.out.rg.low (by repeat (first | exact Below.refl _ _ | (with_reducible assumption) | refine bw_alloc ?_ _ | refine bw_drew ?_))))).mono ?_); rintro e wx ⟨rfl, bz, bx1⟩; clear bz))
                all_goals
                  go_wp2_with fail
                  go_meet
                  exact ⟨rfl, rfl, Lib.hid (H7.out.below (by repeat (first | exact Below.refl _ _ | (with_reducible assumption) | refine bw_alloc ?_ _ | refine bw_drew ?_)))⟩
              case rest =>
                obtain ⟨rfl, rfl, H8⟩ := hcut
                clear H7 C8
                have hbx := H8.out.box
                have x0 : wc.cell? ⟨gx, 0, none⟩ = some (.int .i64 i0) := by rw [blk_cell hbx]; rfl
                have x1 : wc.cell? ⟨gx, 1, none⟩ = some (.int .i64 U) := by rw [blk_cell hbx]; rfl
                have x2 : wc.cell? ⟨gx, 2, none⟩ = some (.int .i64 V) := by rw [blk_cell hbx]; rfl
                have x3 : wc.cell? ⟨gx, 3, none⟩ = some (.int .i64 B) := by rw [blk_cell hbx]; rfl
                have x4 : wc.cell? ⟨gx, 4, none⟩ = some (.int .i64 B) := by rw [blk_cell hbx]; rfl
                clear hbx MK
                cases bb with
                | true =>
                  have d1 : (i0 == 0) = false := HZ.out
                  have d2 : (i0 != 0) = true := by rw [bne, d1]; rfl
                  go_wp2_with fail
                  go_roundw
                  case rel => exact ⟨k + 1, by omega, by go_num, Lib.hid H8.out.rg⟩
                  case measure => simp [intOf]; omega
                | false =>
                  have d1 : (i0 == 0) = true := HZ.out
                  have d2 : (i0 != 0) = false := by rw [bne, d1]; rfl
                  go_wp2_with fail
                  go_roundw
                  case rel => exact ⟨k + 1, by omega, by go_num, Lib.hid H8.out.rg⟩
                  case measure => simp [intOf]; omega
    · obtain rfl : k = m := by omega
      clear RC C5 C6 C7 C8
      have MK : Hid (∀ w', RGAt w s r a n cap w' → (w'.cell? ⟨w.heap.size, 0, none⟩ = some (.int .i64 s) ∧ w'.cell? ⟨w.heap.size, 1, none⟩ = some (.int .i64 r) ∧ w'.cell? ⟨w.heap.size, 2, none⟩ = some (.slice a n cap))) := fun w' h => ⟨by rw [blk_cell h.sys]; rfl, by rw [blk_cell h.sys]; rfl, by rw [blk_cell h.sys]; rfl⟩
      obtain ⟨s0, s1, s2⟩ := MK.out _ HP.out
      go_upto_region 12 with fail
      clear s0 s1 s2
      go_cut [16] (fun u wx => u = .bool true ∧ Hid (RGAt w s r a n cap wx))
      case first =>
        clear G1 G2
        go_region_held3 (fun w' => w'.cell? ⟨w.heap.size, 0, none⟩ = some (.int .i64 s) ∧ w'.cell? ⟨w.heap.size, 1, none⟩ = some (.int .i64 r) ∧ w'.cell? ⟨w.heap.size, 2, none⟩ = some (.slice a n cap)) (exact MK.out _ (HP.out.below (by repeat (first | exact Below.refl _ _ | (with_reducible assumption) | refine bw_alloc ?_ _ | refine bw_drew ?_)))) (first
          | (go_at_call 22; (with_reducible refine (Calls.upV (V := wr) (by repeat (first | exact Below.refl _ _ | (with_reducible assumption) | refine bw_alloc ?_ _ | refine bw_drew ?_)) (P1.out _ (below_up HP.out.low (by repeat (first | exact Below.refl _ _ | (with_reducible assumption) | refine bw_alloc ?_ _ | refine bw_drew ?_))))).mono ?_); rintro e wx ⟨⟨a1, c1, rfl, hv1⟩, bz, bx1⟩; (try (have HV2 := Lib.hid ((HV2.out.below (by repeat (first | exact Below.refl _ _ | (with_reducible assumption) | refine bw_alloc ?_ _ | refine bw_drew ?_))).below bz))); have HV1 := Lib.hid hv1; clear hv1 bz)
          | (go_at_call 23; (with_reducible refine (Calls.upV (V := wr) (by repeat (first | exact Below.refl _ _ | (with_reducible assumption) | refine bw_alloc ?_ _ | refine bw_drew ?_)) (P2.out _ (below_up HP.out.low (by repeat (first | exact Below.refl _ _ | (with_reducible assumption) | refine bw_alloc ?_ _ | refine bw_drew ?_))))).mono ?_); rintro e wy ⟨⟨a2, c2, rfl, hv2⟩, bz, bx2⟩; (try (have HV1 := Lib.hid ((HV1.out.below (by repeat (first | exact Below.refl _ _ | (with_reducible assumption) | refine bw_alloc ?_ _ | refine bw_drew ?_))).below bz))); have HV2 := Lib.hid hv2; clear hv2 bz)
          | (go_at_call 21; (with_reducible refine (Calls.upV (V := wr) (by repeat (first | exact Below.refl _ _ | (with_reducible assumption) | refine bw_alloc ?_ _ | refine bw_drew ?_)) (P3.out _ _ _ _ _ (HV1.out.below (by repeat (first | exact Below.refl _ _ | (with_reducible assumption) | refine bw_alloc ?_ _ | refine bw_drew ?_))) (HV2.out.below (by repeat (first | exact Below.refl _ _ | (with_reducible assumption) | refine bw_alloc ?_ _ | refine bw_drew ?_))))).mono ?_); rintro e wz ⟨rfl, bz, bx3⟩; clear bz))
        all_goals
          go_wp2_with fail
          go_meet
          exact ⟨rfl, Lib.hid (HP.out.below (by repeat (first | exact Below.refl _ _ | (with_reducible assumption) | refine bw_alloc ?_ _ | refine bw_drew ?_)))⟩
      case rest =>
        obtain ⟨rfl, H12⟩ := hcut
        clear P1 P2 P3 HP
        obtain ⟨s0, s1, s2⟩ := MK.out _ H12.out
        go_upto_region 13 with fail
        clear s0 s1 s2
        go_cut [4] (fun u wx => u = .bool true ∧ Hid (Below w.heap.size w wx))
        case first =>
          go_region_held3 (fun w' => w'.cell? ⟨w.heap.size, 0, none⟩ = some (.int .i64 s) ∧ w'.cell? ⟨w.heap.size, 1, none⟩ = some (.int .i64 r) ∧ w'.cell? ⟨w.heap.size, 2, none⟩ = some (.slice a n cap)) (exact MK.out _ (H12.out.below (by repeat (first | exact Below.refl _ _ | (with_reducible assumption) | refine bw_alloc ?_ _ | refine bw_drew ?_)))) (first
            | (go_at_call 18; (with_reducible refine (Calls.upV (V := wc) (by repeat (first | exact Below.refl _ _ | (with_reducible assumption) | refine bw_alloc ?_ _ | refine bw_drew ?_)) (G1.out _ (below_up H12.out.low (by repeat (first | exact Below.refl _ _ | (with_reducible assumption) | refine bw_alloc ?_ _ | refine bw_drew ?_))))).mono ?_); rintro e wx ⟨rfl, bz, bx1⟩; clear bz)
            | (go_at_call 24; (with_reducible refine (Calls.upV (V := wc) (by repeat (first | exact Below.refl _ _ | (with_reducible assumption) | refine bw_alloc ?_ _ | refine bw_drew ?_)) (G2.out _ (below_up H12.out.low (by repeat (first | exact Below.refl _ _ | (with_reducible assumption) | refine bw_alloc ?_ _ | refine bw_drew ?_))))).mono ?_); rintro e wy ⟨rfl, bz, bx2⟩; clear bz))
          all_goals
            go_wp2_with fail
            go_meet
            exact ⟨by first | rfl | (simp; done), Lib.hid (below_up H12.out.low (by repeat (first | exact Below.refl _ _ | (with_reducible assumption) | refine bw_alloc ?_ _ | refine bw_drew ?_)))⟩
        case rest =>
          obtain ⟨rfl, H13⟩ := hcut
          go_wp2_with fail
          go_ret
          exact ⟨rfl, H13.out⟩
end Go.Proofs.Ytlglncnhhgofoaa

/-
  The walk over a system that came in, cut to 5 tasks.
-/
namespace Go.Proofs.Ytlglncnhhgofoaa
open Go.RowKit Go.Maps

/-- A task that is cut where it lies. -/
structure CutAt (w : World) (s r : Int) (a : Option Addr) (n cap : Nat) (v : Value) (R : List TV) (gt : Nat) (y : TV) (W : World) : Prop where
  few : FewAt w s r a n cap v R W
  tb : W.heap[gt]? = some (.cells #[.int .i64 y.id, .int .i64 y.c, .int .i64 y.d, .int .i64 y.t, .int .i64 y.p, .slice y.a1 y.ch.length y.c1, .slice y.a2 y.us.length y.c2] TT (0, 0))
  l1 : w.heap.size + 2 ≤ gt
  l2 : ∀ k, v.ownBlock = some k → k < gt
theorem OwnT.far {w : World} {B gt o : Nat} {v : Value} {l : List TV} (h : OwnT w B v l) (hk : ∀ k, v.ownBlock = some k → k < gt) (u : Value) : OwnT (w.setCell ⟨gt, o, none⟩ u) B v l := by
  rcases h with ⟨h0, h | ⟨g, cap, cur, rfl, hB, h3, r⟩⟩
  · exact ⟨h0, .inl h⟩
  · exact ⟨h0, .inr ⟨g, cap, cur, rfl, hB, (blk_far (a := ⟨gt, o, none⟩) (Nat.ne_of_lt (hk g rfl)) _).trans h3, r⟩⟩
def cutC (x : TV) : TV := { x with ch := x.ch.take 66 }
def cutU (x : TV) : TV := { x with us := x.us.take 66 }
theorem cut_both (x : TV) : cut x = cutU (cutC x) := rfl
theorem cutC_ok {w : World} {x : TV} (h : x.ok w) : (cutC x).ok w :=
  ⟨h.one.take 66, h.two, by have := h.l1; simp only [cutC, List.length_take]; omega, h.m1, h.l2, h.m2⟩
theorem cutC_not {x : TV} (h : ¬ 66 < x.ch.length) : cutC x = x := by
  unfold cutC; rw [List.take_of_length_le (by omega)]
theorem cutU_not {x : TV} (h : ¬ 66 < x.us.length) : cutU x = x := by
  unfold cutU; rw [List.take_of_length_le (by omega)]
theorem FewAt.far {w W : World} {s r : Int} {a : Option Addr} {n cap gt o : Nat} {v : Value} {R : List TV} (h : FewAt w s r a n cap v R W) (h1 : w.heap.size + 2 ≤ gt) (h2 : ∀ k, v.ownBlock = some k → k < gt) (u : Value) : FewAt w s r a n cap v R (W.setCell ⟨gt, o, none⟩ u) :=
  ⟨h.low.setCell (p := ⟨gt, o, none⟩) (by show _ ≤ gt; omega) _, (blk_far (a := ⟨gt, o, none⟩) (by show _ ≠ gt; omega) _).trans h.box, (blk_far (a := ⟨gt, o, none⟩) (by show _ ≠ gt; omega) _).trans h.res, h.own.far h2 u⟩
theorem CutAt.five {w W : World} {s r : Int} {a : Option Addr} {n cap gt : Nat} {v : Value} {R : List TV} {x : TV} (h : CutAt w s r a n cap v R gt x W) (h6 : 66 < x.ch.length) : CutAt w s r a n cap v R gt (cutC x) (W.setCell ⟨gt, 5, none⟩ (.slice x.a1 66 x.c1)) := by
  refine ⟨h.few.far h.l1 h.l2 _, ?_, h.l1, h.l2⟩
  have e : (cutC x).ch.length = 66 := by show (x.ch.take 66).length = 66; rw [List.length_take]; omega
  rw [e]
  exact (blk_set (o := 5) h.tb (.slice x.a1 66 x.c1)).trans rfl
theorem CutAt.six {w W : World} {s r : Int} {a : Option Addr} {n cap gt : Nat} {v : Value} {R : List TV} {x : TV} (h : CutAt w s r a n cap v R gt x W) (h6 : 66 < x.us.length) : CutAt w s r a n cap v R gt (cutU x) (W.setCell ⟨gt, 6, none⟩ (.slice x.a2 66 x.c2)) := by
  refine ⟨h.few.far h.l1 h.l2 _, ?_, h.l1, h.l2⟩
  have e : (cutU x).us.length = 66 := by show (x.us.take 66).length = 66; rw [List.length_take]; omega
  rw [e]
  exact (blk_set (o := 6) h.tb (.slice x.a2 66 x.c2)).trans rfl
theorem CutAt.below {w W W' : World} {s r : Int} {a : Option Addr} {n cap gt : Nat} {v : Value} {R : List TV} {x : TV} (h : CutAt w s r a n cap v R gt x W) (hb : Below W.heap.size W W') : CutAt w s r a n cap v R gt x W' := ⟨h.few.below hb, kept_obj hb h.tb, h.l1, h.l2⟩
set_option maxRecDepth 100000 in
set_option maxHeartbeats 8000000 in
theorem few10_any {w : World} {a : Option Addr} {n cap : Nat} {L : List TV} (s r : Int) (ha : Tasks w a n cap L) (m : Nat) (hm : m = min n 5) :
    Calls Try.prog 11 #[.agg #[.int .i64 s, .int .i64 r, .slice a n cap]] w (SysBack s r m ((L.take 5).map cut) w) := by
  have HA := Lib.hid ha
  have hz := zeroSys
  have hn : (n : Int) ≤ 9223372036854775807 := by have := ha.le; have := ha.small; omega
  have hor : m = n ∨ (m = 5 ∧ 5 < n) := by omega
  have hm1 : m ≤ n := by omega
  have hm2 : m ≤ 5 := by omega
  clear ha hm
  go_enter Try.func11, Try.ntmps11
  go_wp2_with fail
  refine gen_world (FewAt w s r a n cap (.slice none 0 0) []) fewAt_new ?_
  intro W1 hw1
  have H1 := Lib.hid hw1
  clear hw1
  go_loopw [3, 4] (fun v u wr => ∃ (k : Nat) (a' : Option Addr) (cp' : Nat), k ≤ m ∧ u = .int .i64 k ∧ v = .slice a' k cp' ∧ Hid (FewAt w s r a n cap (.slice a' k cp') ((L.take k).map cut) wr)) (fun _ u _ => (m - intOf u).toNat)
  case atStart => exact ⟨0, _, _, by omega, rfl, rfl, by show FewAt _ _ _ _ _ _ _ _ _; simpa using H1.out⟩
  case round =>
    obtain ⟨k, a', cp', hk, rfl, rfl, HP⟩ := hrel
    have e2 : wr.cell? ⟨w.heap.size, 2, none⟩ = some (.slice a n cap) := by rw [blk_cell HP.out.box]; rfl
    by_cases hlt : k < m
    · obtain ⟨x, hx⟩ := nth_of HA.out.len (show k < n by omega)
      obtain ⟨y, hy⟩ : ∃ y, cut x = y := ⟨_, rfl⟩
      obtain ⟨g, o, rfl, ⟨c0, c1, c2, c3, c4, c5, c6⟩⟩ := (HA.out.view.below HP.out.low).at_ hx
      have hk1 : (k : Int) < (n : Int) := by omega
      have hk2 : (k : Int) < 5 := by omega
      have hk0 : (0 : Int) ≤ (k : Int) := by omega
      have HX : Hid ((L.take (k + 1)).map cut = (L.take k).map cut ++ [y]) := by
        show _ = _
        rw [List.take_add_one, hx, List.map_append, ← hy]; rfl
      have HL : Hid (((L.take k).map cut).length = k) := by show _ = _; rw [List.length_map, List.length_take, HA.out.len]; omega
      have HSM : Hid (((L.take k).map cut).length + 1 ≤ 1000000) := by show _ ≤ _; rw [HL.out]; omega
      have HNN : Hid (((L.take k).map cut).length + 1 = k + 1) := by show _ = _; rw [HL.out]
      have HOKX := Lib.hid (HA.out.ok.at_ hx)
      have HCUT : Hid (cut x = y) := hy
      clear hx hy
      go_upto_region 6 with fail
      refine gen_world (CutAt w s r (some ⟨g, o, none⟩) n cap (.slice a' k cp') ((L.take k).map cut) wr.heap.size x) ⟨HP.out.below (by repeat (first | exact Below.refl _ _ | (with_reducible assumption) | refine bw_alloc ?_ _ | refine bw_drew ?_)), heap_alloc_new wr _, HP.out.size, fun q hq => (HP.out.own.new hq).2⟩ ?_
      intro W2 hw2
      have H2 := Lib.hid hw2
      generalize wr.heap.size = gt at *
      have t5 : W2.cell? ⟨gt, 5, none⟩ = some (.slice x.a1 x.ch.length x.c1) := by rw [blk_cell hw2.tb]; rfl
      have f5 := blk_free hw2.tb 5
      have hl1 := HOKX.out.l1
      clear hw2 c0 c1 c2 c3 c4 c5 c6 e2 HP
      go_upto_if 25 with fail
      go_cut [] (fun wx => Hid (CutAt w s r (some ⟨g, o, none⟩) n cap (.slice a' k cp') ((L.take k).map cut) gt (cutC x) wx))
      case first =>
        by_cases h6 : 66 < x.ch.length
        · have q1 : (66 : Int) < (x.ch.length : Int) := by omega
          have q2 : 66 ≤ x.c1 := by omega
          have HZ := Lib.hid (H2.out.five h6)
          clear h6 hl1
          go_wp2_with fail
          go_meet
          exact HZ
        · have q1 : ¬ (66 : Int) < (x.ch.length : Int) := by omega
          have HZ : Hid (CutAt w s r (some ⟨g, o, none⟩) n cap (.slice a' k cp') ((L.take k).map cut) gt (cutC x) W2) := by rw [cutC_not h6]; exact H2
          clear h6 hl1
          go_wp2_with fail
          go_meet
          exact HZ
      case rest =>
        have H3 := hcut
        clear hcut H2 t5 f5 hl1
        have HOK1 := Lib.hid (cutC_ok HOKX.out)
        have HCU : Hid (cutU (cutC x) = y) := by show _ = _; rw [← cut_both]; exact HCUT.out
        generalize cutC x = x1 at *
        have t6 : wc.cell? ⟨gt, 6, none⟩ = some (.slice x1.a2 x1.us.length x1.c2) := by rw [blk_cell H3.out.tb]; rfl
        have f6 := blk_free H3.out.tb 6
        have hl2 := HOK1.out.l2
        clear HCUT HOKX
        go_upto_if 33 with fail
        go_cut [] (fun wx => Hid (CutAt w s r (some ⟨g, o, none⟩) n cap (.slice a' k cp') ((L.take k).map cut) gt y wx))
        case first =>
          by_cases h6 : 66 < x1.us.length
          · have q1 : (66 : Int) < (x1.us.length : Int) := by omega
            have q2 : 66 ≤ x1.c2 := by omega
            have HZ := Lib.hid (HCU.out ▸ H3.out.six h6)
            clear h6 hl2
            go_wp2_with fail
            go_meet
            exact HZ
          · have q1 : ¬ (66 : Int) < (x1.us.length : Int) := by omega
            have HZ : Hid (CutAt w s r (some ⟨g, o, none⟩) n cap (.slice a' k cp') ((L.take k).map cut) gt y wc) := by rw [← HCU.out, cutU_not h6]; exact H3
            clear h6 hl2
            go_wp2_with fail
            go_meet
            exact HZ
        case rest =>
          have H4 := hcut
          clear hcut H3 t6 f6 hl2 HCU
          have htb := H4.out.tb
          have t0 : wc.cell? ⟨gt, 0, none⟩ = some (.int .i64 y.id) := by rw [blk_cell htb]; rfl
          have t1 : wc.cell? ⟨gt, 1, none⟩ = some (.int .i64 y.c) := by rw [blk_cell htb]; rfl
          have t2 : wc.cell? ⟨gt, 2, none⟩ = some (.int .i64 y.d) := by rw [blk_cell htb]; rfl
          have t3 : wc.cell? ⟨gt, 3, none⟩ = some (.int .i64 y.t) := by rw [blk_cell htb]; rfl
          have t4 : wc.cell? ⟨gt, 4, none⟩ = some (.int .i64 y.p) := by rw [blk_cell htb]; rfl
          have t5 : wc.cell? ⟨gt, 5, none⟩ = some (.slice y.a1 y.ch.length y.c1) := by rw [blk_cell htb]; rfl
          have t6 : wc.cell? ⟨gt, 6, none⟩ = some (.slice y.a2 y.us.length y.c2) := by rw [blk_cell htb]; rfl
          have H5 := Lib.hid H4.out.few
          clear htb H4
          go_wp2_with (at_builtin; refine wp_append (m := 1) (l := [y]) rfl _ _ rfl rfl rfl (H5.out.below (by repeat (first | exact Below.refl _ _ | (with_reducible assumption) | refine bw_alloc ?_ _ | refine bw_drew ?_))).own (H5.out.below (by repeat (first | exact Below.refl _ _ | (with_reducible assumption) | refine bw_alloc ?_ _ | refine bw_drew ?_))).size (View.of_at (at_new _ _ _)) rfl HSM.out (fun z => by cases z) (k + 1) HNN.out ?_; intro a3 k3 w3 o3 g3 l3; have HO := Lib.hid ((H5.out.below (by repeat (first | exact Below.refl _ _ | (with_reducible assumption) | refine bw_alloc ?_ _ | refine bw_drew ?_))).grown g3 (HX.out ▸ o3)); clear o3 g3 l3)
          go_roundw
          case rel => exact ⟨k + 1, a3, k3, by omega, by go_num, rfl, HO⟩
          case measure => simp [intOf]; omega
    · obtain rfl : m = k := by omega
      have HE : Hid ((L.take m).map cut = (L.take 5).map cut) := by
        show _ = _
        rcases hor with h | ⟨h, _⟩
        · rw [List.take_of_length_le (by rw [HA.out.len]; omega), List.take_of_length_le (by rw [HA.out.len]; omega)]
        · rw [h]
      have hl1 : w.heap.size < wr.heap.size := lt_of_block HP.out.box
      have hl2 : w.heap.size + 1 < wr.heap.size := lt_of_block HP.out.res
      have q0 : wr.cell? ⟨w.heap.size, 0, none⟩ = some (.int .i64 s) := by rw [blk_cell HP.out.box]; rfl
      have q1 : wr.cell? ⟨w.heap.size, 1, none⟩ = some (.int .i64 r) := by rw [blk_cell HP.out.box]; rfl
      have p0 : wr.cell? ⟨w.heap.size + 1, 0, none⟩ = some (.int .i64 0) := by rw [blk_cell HP.out.res]; rfl
      have p1 : wr.cell? ⟨w.heap.size + 1, 1, none⟩ = some (.int .i64 0) := by rw [blk_cell HP.out.res]; rfl
      have p2 : wr.cell? ⟨w.heap.size + 1, 2, none⟩ = some (.slice none 0 0) := by rw [blk_cell HP.out.res]; rfl
      have f2 := blk_free HP.out.box 2
      have g0 := blk_free HP.out.res 0
      have g1 := blk_free HP.out.res 1
      have g2 := blk_free HP.out.res 2
      have HO : Hid (∀ x0 x1 x2 x3, SysBack s r m ((L.take 5).map cut) w (.returned (.agg #[.int .i64 s, .int .i64 r, .slice a' m cp'])) ((((wr.setCell ⟨w.heap.size, 2, none⟩ x0).setCell ⟨w.heap.size + 1, 0, none⟩ x1).setCell ⟨w.heap.size + 1, 1, none⟩ x2).setCell ⟨w.heap.size + 1, 2, none⟩ x3)) := by
        intro x0 x1 x2 x3
        have hlow := HP.out.low
        have hb : Below w.heap.size w ((((wr.setCell ⟨w.heap.size, 2, none⟩ x0).setCell ⟨w.heap.size + 1, 0, none⟩ x1).setCell ⟨w.heap.size + 1, 1, none⟩ x2).setCell ⟨w.heap.size + 1, 2, none⟩ x3) := (by repeat (first | exact Below.refl _ _ | (with_reducible assumption) | refine bw_alloc ?_ _ | refine bw_drew ?_ | refine Below.setCell ?_ (by simp) _ | refine Below.setCell ?_ (by simp; omega) _))
        have ho : OwnT ((((wr.setCell ⟨w.heap.size, 2, none⟩ x0).setCell ⟨w.heap.size + 1, 0, none⟩ x1).setCell ⟨w.heap.size + 1, 1, none⟩ x2).setCell ⟨w.heap.size + 1, 2, none⟩ x3) (w.heap.size + 2) (.slice a' m cp') ((L.take m).map cut) :=
          ownsRow_setCell_below (ownsRow_setCell_below (ownsRow_setCell_below (ownsRow_setCell_below HP.out.own (by simp) _) (by simp) _) (by simp) _) (by simp) _
        rw [HE.out] at ho
        refine ⟨a', cp', rfl, ho.tasks (fun y hy => ?_), hb⟩
        obtain ⟨x, hx, rfl⟩ := List.mem_map.1 hy
        exact (cut_ok (HA.out.ok x (List.mem_of_mem_take hx))).below hb
      clear HE H1
      rcases hor with rfl | ⟨rfl, hh⟩
      · go_wp2_with fail
        exact bodyPost_ret (v := .agg #[.int .i64 s, .int .i64 r, .slice a' m cp']) (by simp [results, Try.results11, go_sem, p0, p1, p2, hl1, hl2]) rfl (HO.out _ _ _ _)
      · have h66 : (5 : Int) < (n : Int) := by omega
        go_wp2_with fail
        exact bodyPost_ret (v := .agg #[.int .i64 s, .int .i64 r, .slice a' 5 cp']) (by simp [results, Try.results11, go_sem, p0, p1, p2, hl1, hl2]) rfl (HO.out _ _ _ _)
end Go.Proofs.Ytlglncnhhgofoaa

/-
  The walk over the statement that charges are told as the document's, of any system.
-/
namespace Go.Proofs.Ytlglncnhhgofoaa
open Go.RowKit Go.Maps

/-- Two systems in their boxes. -/
structure TwoSys (W : World) (S R : Int) (a : Option Addr) (n cap : Nat) (S2 R2 : Int) (a2 : Option Addr) (n2 cap2 : Nat) (V : World) : Prop where
  low : Below W.heap.size W V
  b1 : V.heap[W.heap.size]? = some (.cells #[.int .i64 S, .int .i64 R, .slice a n cap] 24 (0, 0))
  b2 : V.heap[W.heap.size + 1]? = some (.cells #[.int .i64 S2, .int .i64 R2, .slice a2 n2 cap2] 27 (0, 0))
theorem TwoSys.below {W : World} {S R : Int} {a : Option Addr} {n cap : Nat} {S2 R2 : Int} {a2 : Option Addr} {n2 cap2 : Nat} {V V' : World} (h : TwoSys W S R a n cap S2 R2 a2 n2 cap2 V) (hb : Below V.heap.size V V') : TwoSys W S R a n cap S2 R2 a2 n2 cap2 V' := ⟨below_up h.low hb, kept_obj hb h.b1, kept_obj hb h.b2⟩

set_option maxRecDepth 100000 in
set_option maxHeartbeats 16000000 in
theorem law_tells (W : World) (S R : Int) (a : Option Addr) (n cap : Nat) (L : List NV) (hn : Nums W a n cap L) (S2 R2 : Int) (a2 : Option Addr) (n2 cap2 : Nat) (M : List TV) (hT : Tasks W a2 n2 cap2 M) (hw2 : ∀ x ∈ M, I64 x.p ∧ I64 x.id) (a3 : Option Addr) (n3 c3 : Nat) (ids : List Int) (hi : Ints W a3 ids) (hl : ids.length = n3) (hc : n3 ≤ c3) (hm : (c3 : Int) ≤ 9223372036854775807) :
    Calls Try.prog 3 #[.agg #[.int .i64 S, .int .i64 R, .slice a n cap], .agg #[.int .i64 S2, .int .i64 R2, .slice a2 n2 cap2], .slice a3 n3 c3] W fun e w' => e = .returned (.bool true) ∧ Below W.heap.size W w' := by
  have CM : Hid (∀ v, Below W.heap.size W v → Calls Try.prog 10 #[.agg #[.int .i64 S, .int .i64 R, .slice a n cap]] v fun e w' => (∃ (s r : Int) (a5 : Option Addr) (N c5 : Nat) (M5 : List TV), e = .returned (.agg #[.int .i64 s, .int .i64 r, .slice a5 N c5]) ∧ Tasks w' a5 N c5 M5 ∧ ∀ x ∈ M5, I64 x.p ∧ I64 x.id) ∧ Below v.heap.size v w') :=
    fun v hb => (made5_any S R (hn.below hb)).mono fun _ _ ⟨s, r, a5, N, c5, M5, he, ho5, hok5, hi5, hm5, b5⟩ => ⟨⟨s, r, a5, N, c5, M5, he, ho5.tasks hok5, made_wf hm5⟩, b5⟩
  obtain ⟨m2, hm2⟩ : ∃ m2, min n2 5 = m2 := ⟨_, rfl⟩
  obtain ⟨M2, hM2⟩ : ∃ M2, (M.take 5).map cut = M2 := ⟨_, rfl⟩
  have HW2 : Hid (∀ x ∈ M2, I64 x.p ∧ I64 x.id) := by
    intro x hx
    rw [← hM2] at hx
    obtain ⟨y, hy, rfl⟩ := List.mem_map.1 hx
    exact hw2 y (List.mem_of_mem_take hy)
  have CF : Hid (∀ v, Below W.heap.size W v → Calls Try.prog 11 #[.agg #[.int .i64 S2, .int .i64 R2, .slice a2 n2 cap2]] v fun e w' => (∃ (a5 : Option Addr) (c5 : Nat), e = .returned (.agg #[.int .i64 S2, .int .i64 R2, .slice a5 m2 c5]) ∧ Tasks w' a5 m2 c5 M2) ∧ Below v.heap.size v w') :=
    fun v hb => (few10_any S2 R2 (hT.below hb) m2 hm2.symm).mono fun _ _ ⟨a5, c5, he, ht, b5⟩ => ⟨⟨a5, c5, he, hM2 ▸ ht⟩, b5⟩
  have HI := Lib.hid hi
  have HL := Lib.hid hl
  clear hn hT hw2 hm2 hM2 hi
  go_enter Try.func3, Try.ntmps3
  go_upto_region 1 with fail
  refine gen_world (TwoSys W S R a n cap S2 R2 a2 n2 cap2) ⟨(by repeat (first | exact Below.refl _ _ | (with_reducible assumption) | refine bw_alloc ?_ _ | refine bw_drew ?_)), (two_boxes W rfl _ _).1, (two_boxes W rfl _ _).2⟩ ?_
  intro V0 hv0
  have HV0 := Lib.hid hv0
  clear hv0
  go_upto_region 2 with (go_at_call 8; (with_reducible refine (awake_any _).mono ?_); rintro e w1 ⟨rfl, b1⟩; have HV1 := Lib.hid (HV0.out.below b1); clear b1)
  clear HV0
  go_upto_if 11 with fail
  go_cut [2] (fun u wx => ∃ (m : Nat) (l : List Int), u = .slice a3 m c3 ∧ Hid (Ints W a3 l ∧ l.length = m ∧ (m : Int) ≤ 9223372036854775807) ∧ Hid (TwoSys W S R a n cap S2 R2 a2 n2 cap2 wx))
  case first =>
    by_cases h9 : 9 < n3
    · have q1 : (9 : Int) < (n3 : Int) := by omega
      have q2 : 9 ≤ c3 := by omega
      have HX : Hid (Ints W a3 (ids.take 9) ∧ (ids.take 9).length = 9 ∧ ((9 : Nat) : Int) ≤ 9223372036854775807) := ⟨HI.out.take 9, by rw [List.length_take, HL.out]; omega, by omega⟩
      clear h9 hl
      go_wp2_with fail
      go_meet
      exact ⟨9, _, rfl, HX, HV1⟩
    · have q1 : ¬ (9 : Int) < (n3 : Int) := by omega
      have HX : Hid (Ints W a3 ids ∧ ids.length = n3 ∧ (n3 : Int) ≤ 9223372036854775807) := ⟨HI.out, HL.out, by omega⟩
      clear h9 hl
      go_wp2_with fail
      go_meet
      exact ⟨n3, _, rfl, HX, HV1⟩
  case rest =>
    obtain ⟨m, l, rfl, HX, H2⟩ := hcut
    clear HV1 HI HL hl hc hm
    have MK : Hid (∀ w', TwoSys W S R a n cap S2 R2 a2 n2 cap2 w' → (w'.cell? ⟨W.heap.size, 0, none⟩ = some (.int .i64 S) ∧ w'.cell? ⟨W.heap.size, 1, none⟩ = some (.int .i64 R) ∧ w'.cell? ⟨W.heap.size, 2, none⟩ = some (.slice a n cap) ∧ w'.cell? ⟨W.heap.size + 1, 0, none⟩ = some (.int .i64 S2) ∧ w'.cell? ⟨W.heap.size + 1, 1, none⟩ = some (.int .i64 R2) ∧ w'.cell? ⟨W.heap.size + 1, 2, none⟩ = some (.slice a2 n2 cap2))) := fun w' h =>
      ⟨by rw [blk_cell h.b1]; rfl, by rw [blk_cell h.b1]; rfl, by rw [blk_cell h.b1]; rfl, by rw [blk_cell h.b2]; rfl, by rw [blk_cell h.b2]; rfl, by rw [blk_cell h.b2]; rfl⟩
    obtain ⟨s0, s1, s2, z0, z1, z2⟩ := MK.out _ H2.out
    go_upto_region 4 with fail
    clear s0 s1 s2 z0 z1 z2
    have TC : Hid (∀ (s r : Int) (a5 : Option Addr) (N c5 : Nat) (M5 : List TV) (v : World), Below W.heap.size W v → Tasks v a5 N c5 M5 → (∀ x ∈ M5, I64 x.p ∧ I64 x.id) → Calls Try.prog 9 #[.agg #[.int .i64 s, .int .i64 r, .slice a5 N c5], .slice a3 m c3] v fun e w' => e = .returned (.bool true) ∧ Below v.heap.size v w') :=
      fun s r a5 N c5 M5 v hb ht hw => tells10_any s r ht hw l m HX.out.2.1 HX.out.2.2 a3 c3 (HX.out.1.below hb)
    go_cut [6] (fun u wx => u = .bool true ∧ Hid (Below W.heap.size W wx))
    case first =>
      obtain ⟨s0, s1, s2, _, _, _⟩ := MK.out _ H2.out
      go_wp2_with (first
        | (go_at_call 10; (with_reducible refine (Calls.upV (V := wc) (by repeat (first | exact Below.refl _ _ | (with_reducible assumption) | refine bw_alloc ?_ _ | refine bw_drew ?_)) (CM.out _ (below_up H2.out.low (by repeat (first | exact Below.refl _ _ | (with_reducible assumption) | refine bw_alloc ?_ _ | refine bw_drew ?_))))).mono ?_); rintro e wm ⟨⟨s, r, a5, N, c5, M5, rfl, ht5, hw5⟩, bz, bx1⟩; have HT5 := Lib.hid ht5; have HW5 := Lib.hid hw5; clear ht5 hw5 bz)
        | (go_at_call 11; (with_reducible refine (Calls.upV (V := wc) (by repeat (first | exact Below.refl _ _ | (with_reducible assumption) | refine bw_alloc ?_ _ | refine bw_drew ?_)) (CF.out _ (below_up H2.out.low (by repeat (first | exact Below.refl _ _ | (with_reducible assumption) | refine bw_alloc ?_ _ | refine bw_drew ?_))))).mono ?_); rintro e wf ⟨⟨a6, c6, rfl, ht6⟩, bz, bx2⟩; have HT6 := Lib.hid ht6; clear ht6 bz)
        | (go_at_call 9; (with_reducible refine (Calls.upV (V := wc) (by repeat (first | exact Below.refl _ _ | (with_reducible assumption) | refine bw_alloc ?_ _ | refine bw_drew ?_)) (TC.out S2 R2 a6 m2 c6 M2 _ (below_up H2.out.low (by repeat (first | exact Below.refl _ _ | (with_reducible assumption) | refine bw_alloc ?_ _ | refine bw_drew ?_))) (HT6.out.below (by repeat (first | exact Below.refl _ _ | (with_reducible assumption) | refine bw_alloc ?_ _ | refine bw_drew ?_))) HW2.out)).mono ?_); rintro e wt ⟨rfl, bz, bx3⟩; clear bz)
        | (go_at_call 9; (with_reducible refine (Calls.upV (V := wc) (by repeat (first | exact Below.refl _ _ | (with_reducible assumption) | refine bw_alloc ?_ _ | refine bw_drew ?_)) (TC.out s r a5 N c5 M5 _ (below_up H2.out.low (by repeat (first | exact Below.refl _ _ | (with_reducible assumption) | refine bw_alloc ?_ _ | refine bw_drew ?_))) (HT5.out.below (by repeat (first | exact Below.refl _ _ | (with_reducible assumption) | refine bw_alloc ?_ _ | refine bw_drew ?_))) HW5.out)).mono ?_); rintro e wu ⟨rfl, bz, bx4⟩; clear bz; obtain ⟨_, _, _, z0, z1, z2⟩ := MK.out _ (H2.out.below bx4)))
      go_meet
      exact ⟨by first | rfl | (simp; done), Lib.hid (below_up H2.out.low (by repeat (first | exact Below.refl _ _ | (with_reducible assumption) | refine bw_alloc ?_ _ | refine bw_drew ?_)))⟩
    case rest =>
      obtain ⟨rfl, H9⟩ := hcut
      go_wp2_with fail
      go_ret
      exact ⟨rfl, H9.out⟩
end Go.Proofs.Ytlglncnhhgofoaa

/-
  A row of numbers opened; the row of the statement that charges are told as the document's.
-/
namespace Go.Proofs.Ytlglncnhhgofoaa
open Go.ChangeShapes Go.WideShapes Go.ChangeAt Go.RowKit
section
variable {H : Type} {enc : TypeId × Value → H} {W : World} {base : Nat} {spare : Nat → Bool} {held : Bool}
set_option maxRecDepth 100000 in
theorem open_ids {r : Reach} {b0 : Nat} {v : Value} {d : DataW H} {p : List MemPlace} (hv : Value.okWide Try.prog W r b0 28 v) (h : DataW.Trod enc Try.prog W base spare held 28 v d p) :
    ∃ (a : Option Addr) (n c : Nat) (l : List Int), v = .slice a n c ∧ Ints W a l ∧ l.length = n ∧ n ≤ c ∧ (c : Int) ≤ 9223372036854775807 := by
  obtain ⟨a, n, c, rfl⟩ := okWide_slice Try.underlying28 hv
  obtain ⟨fuel, hf⟩ := h
  obtain ⟨a', l, c', e, h1, h2, h3, _⟩ := open_nums Try.underlying28 Try.underlying3 (by kernel_rfl) (by simpa [Value.cells] using hf)
  cases e
  exact ⟨_, _, _, l, rfl, h1, rfl, h2, h3⟩
end
theorem row_tells (W : World) (S R : Int) (a : Option Addr) (n cap : Nat) (L : List NV) (hn : Nums W a n cap L) (S2 R2 : Int) (a2 : Option Addr) (n2 cap2 : Nat) (M : List TV) (hT : Tasks W a2 n2 cap2 M) (hw2 : ∀ x ∈ M, I64 x.p ∧ I64 x.id) (a3 : Option Addr) (n3 c3 : Nat) (ids : List Int) (hx : Ints W a3 ids ∧ ids.length = n3 ∧ n3 ≤ c3 ∧ (c3 : Int) ≤ 9223372036854775807) :
    Calls Try.prog 3 #[.agg #[.int .i64 S, .int .i64 R, .slice a n cap], .agg #[.int .i64 S2, .int .i64 R2, .slice a2 n2 cap2], .slice a3 n3 c3] W fun e w' => e = .returned (.bool true) ∧ Below W.heap.size W w' :=
  law_tells W S R a n cap L hn S2 R2 a2 n2 cap2 M hT hw2 a3 n3 c3 ids hx.1 hx.2.1 hx.2.2.1 hx.2.2.2
end Go.Proofs.Ytlglncnhhgofoaa
