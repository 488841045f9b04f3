/-
  Appending to a row of the call's own, at a step of a region whose order is drawn.
-/
import Derived.Test.YtlpkilfpjdggeaaRowsIn
import Derived.Test.YtlpkilfpjdggeaaLaws3
import Derived.Test.YtlpkilfpjdggeaaState
import Derived.Test.YtlpkilfpjdggeaaLaws4
import Derived.Test.YtlpkilfpjdggeaaTurnNum
import Derived.Deep.CutBlock
import Derived.Deep.CutRange
import Derived.Deep.DeepCutAuto
import Derived.Deep.RegionLaw
import Derived.Deep.RegionHeld3
import Derived.Deep.AppendLies
namespace Go.Proofs.Ytlpkilfpjdggeaa
open Go.RowKit

theorem step_append_any {P : Program} {w : World} {ops : Array Oper} {o : Oper} {a : Act} {K : Act → World → Prop} {Q : Exit → Act → World → Prop} {E : Prop} (hgd : o.guard = none) (s x : Operand) (t : TypeId)
    (ho : o.op = .call { callee := .builtin .append, args := #[s, x], argTypes := #[t, t] })
    (base : Nat) (e : TypeId) (i : TypeInfo) (z : Value) (size bytes : Nat) (ht : P.underlying t = some (.slice e)) (hi : P.info? e = some i) (hz : i.zero = some z)
    (hsize : i.size = size) (hby : i.bytes = bytes) (hzs : z.cells.size = size) (hsz : 0 < size)
    (v : Value) (n : Nat) (xs : List Value) (hs : a.eval s = v) (hown : w.ownsRow base e size v n xs)
    (ad : Addr) (m c : Nat) (news : List Value) (hx : a.eval x = .slice (some ad) m c) (hl : news.length = m * size) (hnews : ∀ j u, news[j]? = some u → w.cell? (ad.add j) = some u) (h1 : ∀ u ∈ news, u.oneCell' = true)
    (h63 : n + m ≤ maxLen) (hbytes : (n + m) * bytes ≤ 140737488355328) (hbase : base ≤ w.heap.size)
    (h : ∀ v' w', w'.ownsRow base e size v' (n + m) (xs ++ news) → w.grownBy w' v.ownBlock → K (a.put o.dst v') w') :
    if Region.wanted o (yielded ops a.tmps) = true then Oper.wp P o a w K Q else E := by
  have hw : Region.wanted o (yielded ops a.tmps) = true := by simp [Region.wanted, hgd]
  rw [if_pos hw]
  obtain ⟨v', w', hr, h2, h3, _, _⟩ := run_append_own_at (P := P) w base t o.type e i z size bytes ht hi hz hsize hby hzs hsz v n xs hown ad m c news hl hnews h1 h63 hbytes hbase
  unfold Oper.wp execOp
  simp only [ho, resolve, invoke, builtin, Sem.run_bind, Sem.run_pure, Result.andThen_ok, List.map_toArray, List.map_cons, List.map_nil, hs, hx, hr]
  exact h v' w' h2 h3

theorem info_u64 : (Try.prog.info? 22).map (fun i => (i.zero, i.size, i.bytes)) = some (some (.int .u64 0), 1, 8) := by kernel_rfl

/-- Where a row is turned. -/
theorem turn_at (turn : Int) (n : Nat) (hn : 0 < n) (h8 : n ≤ 8) : ∃ k : Nat, k < n ∧ (wrap64 (turn.tmod (n : Int) + (n : Int))).tmod (n : Int) = (k : Int) := by
  have h1 := Int.tmod_lt_of_pos turn (show (0 : Int) < n by omega)
  have h2 := Int.lt_tmod_of_pos turn (show (0 : Int) < n by omega)
  generalize turn.tmod (n : Int) = t at h1 h2
  have e : wrap64 (t + n) = t + n := IntWalk.wrap64_in _ (by omega)
  rw [e]
  have h3 := Int.tmod_nonneg (n : Int) (show 0 ≤ t + n by omega)
  have h4 := Int.tmod_lt_of_pos (t + n) (show (0 : Int) < n by omega)
  exact ⟨((t + n).tmod n).toNat, by omega, by omega⟩

/-- The cells of a row of numbers. -/
def rowV (L : List Int) : List Value := L.map (Value.int .u64)
theorem rowV_length (L : List Int) : (rowV L).length = L.length := by simp [rowV]
theorem rowV_one (L : List Int) : ∀ u ∈ rowV L, u.oneCell' = true := by
  intro u hu; obtain ⟨x, _, rfl⟩ := List.mem_map.1 hu; rfl
theorem rowV_append (A B : List Int) : rowV A ++ rowV B = rowV (A ++ B) := by simp [rowV]

theorem row_news {w : World} {b off : Nat} {L : List Int} (h : ∀ k, k < L.length → w.cell? ⟨b, off + k, none⟩ = some (.int .u64 (L.getD k 0))) (k m : Nat) (hm : k + m ≤ L.length) :
    ∀ j u, (rowV ((L.drop k).take m))[j]? = some u → w.cell? ((⟨b, off + k, none⟩ : Addr).add j) = some u := by
  intro j u hu
  have e : (⟨b, off + k, none⟩ : Addr).add j = ⟨b, off + (k + j), none⟩ := by
    unfold Addr.add; split <;> simp_all; omega
  unfold rowV at hu
  rw [List.getElem?_map, List.getElem?_take] at hu
  split at hu
  · rename_i hj
    rw [List.getElem?_drop] at hu
    rw [e, h (k + j) (by omega), List.getD_eq_getElem?_getD]
    rw [List.getElem?_eq_getElem (by omega)] at hu ⊢
    simpa using hu
  · simp at hu

theorem row_news0 {w : World} {b off : Nat} {L : List Int} (h : ∀ k, k < L.length → w.cell? ⟨b, off + k, none⟩ = some (.int .u64 (L.getD k 0))) (m : Nat) (hm : m ≤ L.length) :
    ∀ j u, (rowV (L.take m))[j]? = some u → w.cell? ((⟨b, off, none⟩ : Addr).add j) = some u := by
  have := row_news h 0 m (by omega)
  simpa using this

theorem cells_grown {w w' : World} {row : Option Nat} {b off : Nat} {L : List Int} (hg : w.grownBy w' row) (hne : some b ≠ row) (h : ∀ k, k < L.length → w.cell? ⟨b, off + k, none⟩ = some (.int .u64 (L.getD k 0))) :
    ∀ k, k < L.length → w'.cell? ⟨b, off + k, none⟩ = some (.int .u64 (L.getD k 0)) := fun k hk => hg.cell (a := ⟨b, off + k, none⟩) (h k hk) hne

theorem cells_alloc {w : World} {b off : Nat} {L : List Int} (h : ∀ k, k < L.length → w.cell? ⟨b, off + k, none⟩ = some (.int .u64 (L.getD k 0))) (o : Obj) :
    ∀ k, k < L.length → (w.alloc o).drew.cell? ⟨b, off + k, none⟩ = some (.int .u64 (L.getD k 0)) := fun k hk => kept_cell ((Below.refl _ _).alloc (Nat.le_refl _) o) (h k hk)

theorem pair_kept {w wy : World} {x y : Value} {T : TypeId} (h : Below (w.alloc (.cells #[x, y] T)).heap.size (w.alloc (.cells #[x, y] T)) wy) :
    wy.cell? ⟨w.heap.size, 0, none⟩ = some x ∧ wy.cell? ⟨w.heap.size, 1, none⟩ = some y := ⟨kept_cell h (by simp), kept_cell h (by simp)⟩

/-- The greatest divisor of a row in any later world; what is known of that world stays known. -/
theorem gcds_both {W : World} {L : List Int} {cap : Nat} {ao : Option Addr} (hz : ∀ z ∈ L, U64 z) (hn : (L.length : Int) ≤ 9223372036854775807) (hr : Reads W W.heap.size ao L) (w : World) (hb : Below W.heap.size W w) :
    Calls Try.prog 25 #[.slice ao L.length cap] w fun e w' => e = .returned (.int .u64 (foldR gcdN (fun _ _ => true) 0 L).1) ∧ Below w.heap.size w w' ∧ Below W.heap.size W w' :=
  (gcds_any L hz hn cap ao w (hr.later (Nat.le_refl _) hb)).mono fun _ _ ⟨h1, h2⟩ => ⟨h1, h2, hb.trans (h2.mono hb.size)⟩

theorem own_reads {w : World} {base n : Nat} {e : TypeId} {v : Value} {L : List Int} (h : w.ownsRow base e 1 v n (rowV L)) (hn : 0 < n) :
    ∃ g cap, v = .slice (some ⟨g, 0, none⟩) L.length cap ∧ n = L.length ∧ Reads w w.heap.size (some ⟨g, 0, none⟩) L ∧ base ≤ g := by
  have hl : L.length = n := by have := h.1; rw [rowV_length] at this; omega
  obtain ⟨g, cap, hv, hb, hg⟩ := h.form hn
  refine ⟨g, cap, by rw [hv, hl], hl.symm, .inr ⟨g, 0, rfl, hg, ?_⟩, hb⟩
  intro k hk
  have := h.cells (g := g) (by rw [hv]; rfl) k (.int .u64 (L.getD k 0)) (by
    unfold rowV
    rw [List.getElem?_map, List.getElem?_eq_getElem hk, List.getD_eq_getElem?_getD, List.getElem?_eq_getElem hk]; rfl)
  have e2 : (⟨g, 0, none⟩ : Addr).add k = ⟨g, 0 + k, none⟩ := by
    unfold Addr.add; split <;> simp_all
  rw [← e2]; exact this

set_option maxRecDepth 100000 in
set_option maxHeartbeats 4000000 in
theorem law_turns (a0 : Option Addr) (len cap : Nat) (z : List Int) (turn : Int) (W : World) (hrow : IsRow .u64 W a0 len cap z) :
    Calls Try.prog 8 #[.slice a0 len cap, .int .i64 turn] W fun e w' => e = .returned (.bool true) ∧ Below W.heap.size W w' := by
  obtain ⟨L, hl8, hlu, hlr, cap', hlc, hlm, F⟩ := few_any hrow
  have A := Lib.hid (fun w (h : Below W.heap.size W w) => Calls.under (R := fun e => e = .returned (.bool true)) h (Nat.le_refl _) (awake_any w))
  have F := Lib.hid F
  have HW := Lib.hid (Below.refl W.heap.size W)
  by_cases hn0 : L.length = 0
  · have G := Lib.hid (fun w (h : Below W.heap.size W w) => Calls.under (R := fun e => e = .returned (.int .u64 (foldR gcdN (fun _ _ => true) 0 []).1)) h (Nat.le_refl _) (gcds_any [] (by simp) (by simp) 0 none w (.inl rfl)))
    rw [foldR_nil] at G
    have F := F.out
    rw [hn0] at F
    have F := Lib.hid F
    clear hrow hl8 hlu hlr hlc hlm hn0
    go_enter Try.func8, Try.ntmps8
    go_wp2_with (first | (go_at_call 9; (refine (A.out _ HW.out).mono ?_); rintro e w1 ⟨rfl, hw1⟩) | (go_at_call 10; (refine (F.out _).mono ?_); rintro e w' ⟨rfl, rfl⟩) | (go_at_call 25; (refine (G.out _ hw1).mono ?_); rintro e w2 ⟨rfl, hw2⟩))
    go_ret
    exact ⟨rfl, hw2⟩
  · have hzl : ((L.length : Int) == 0) = false := by rw [beq_eq_false_iff_ne]; omega
    have hpos : 0 < L.length := by omega
    obtain ⟨k, hk, hkt⟩ := turn_at turn L.length hpos hl8
    obtain ⟨i0, hi0, hz0, hz1, hz2⟩ := info_parts info_u64
    obtain ⟨b, off, rfl, hb, hcells⟩ : ∃ b off, a0 = some ⟨b, off, none⟩ ∧ b < W.heap.size ∧ ∀ k, k < L.length → W.cell? ⟨b, off + k, none⟩ = some (.int .u64 (L.getD k 0)) := by
      rcases hlr with h | h
      · rw [h] at hpos; exact absurd hpos (Nat.lt_irrefl 0)
      · exact h
    have HCells := Lib.hid hcells
    have HL := Lib.hid hlr
    have HU := Lib.hid hlu
    clear hrow hcells hlu hlr
    go_enter Try.func8, Try.ntmps8
    go_upto_region 6 with (first | (go_at_call 9; (refine (A.out _ HW.out).mono ?_); rintro e w1 ⟨rfl, hw1⟩) | (go_at_call 10; (refine (F.out _).mono ?_); rintro e w' ⟨rfl, rfl⟩))
    have hsz := hw1.size
    have C1 : ∀ k, k < L.length → w1.cell? ⟨b, off + k, none⟩ = some (.int .u64 (L.getD k 0)) := fun j hj => by rw [hw1.cell (p := ⟨b, off + j, none⟩) hb]; exact HCells.out j hj
    have C1 := Lib.hid C1
    clear hkt
    have hkn : (0 : Int) ≤ (k : Int) := by omega
    have hkl : (k : Int) < (L.length : Int) := by omega
    have hk1 : k ≤ L.length := by omega
    have hk2 : k ≤ cap' := by omega
    have hk3 : ¬ cap' = k := by omega
    go_region_law (first
      | (refine step_append_any rfl (.tmp 38) (.tmp 41) 24 rfl W.heap.size 22 i0 _ 1 8 Try.underlying24 hi0 hz0 hz1 hz2 rfl (by omega) _ 0 [] (by rfl) ((World.ownsRow_made (w := w1) #[] 0 hsz (by decide) rfl).drew)
          ⟨b, off + k, none⟩ (L.length - k) (cap' - k) (rowV ((L.drop k).take (L.length - k))) (by rfl) (by rw [rowV_length, List.length_take, List.length_drop]; omega) (row_news (cells_alloc C1.out _) k (L.length - k) (by omega)) (rowV_one _) (by unfold maxLen; omega) (by omega) (by simp; omega) ?_
         intro v1 w2 hown hgrow)
      | (refine step_append_any rfl (.tmp 42) (.tmp 45) 24 rfl W.heap.size 22 i0 _ 1 8 Try.underlying24 hi0 hz0 hz1 hz2 rfl (by omega) v1 _ _ (by rfl) hown
          ⟨b, off, none⟩ k cap' (rowV (L.take k)) (by rfl) (by rw [rowV_length, List.length_take]; omega) (row_news0 (cells_grown hgrow (by simp [Value.ownBlock]; omega) (cells_alloc C1.out _)) k hk1) (rowV_one _) (by unfold maxLen; omega) (by omega) (by have := hgrow.size; simp at this; omega) ?_
         intro v2 w3 hown2 hgrow2))
    have hb2 : Below W.heap.size W w2 := ((hw1.alloc hsz _).drew).grown hgrow (by simp; omega) (by intro k hk; simp [Value.ownBlock] at hk; omega)
    have hb3 : Below W.heap.size W w3 := hb2.grown hgrow2 hb2.size (fun k hk => (hown.lt k hk).1)
    have hown3 : w3.ownsRow W.heap.size 22 1 v2 L.length (rowV (L.drop k ++ L.take k)) := by
      have e1 : 0 + (L.length - k) + k = L.length := by omega
      have e2 : [] ++ rowV ((L.drop k).take (L.length - k)) ++ rowV (L.take k) = rowV (L.drop k ++ L.take k) := by
        rw [List.nil_append, List.take_of_length_le (by rw [List.length_drop]; omega), rowV_append]
      rw [← e1, ← e2]; exact hown2
    obtain ⟨g, capM, rfl, hMl, hMr, hg0⟩ := own_reads hown3 hpos
    rw [← hMl]
    have hsame : ∀ z, z ∈ L ↔ z ∈ L.drop k ++ L.take k := by
      intro z
      rw [List.mem_append, or_comm, ← List.mem_append, List.take_append_drop]
    have huM : ∀ z ∈ L.drop k ++ L.take k, U64 z := fun z hz => HU.out z ((hsame z).2 hz)
    have hLr := HL.out.later (Nat.le_refl _) hb3
    have hlen : (L.length : Int) ≤ 9223372036854775807 := by omega
    have hnn : ∀ z ∈ L, 0 ≤ z := fun z h => (HU.out z h).1
    have hnil : L ≠ [] := fun e => by rw [e] at hpos; exact absurd hpos (Nat.lt_irrefl 0)
    have s1 := sums_later (cap := cap') HU.out hlen hLr
    have s2 := sums_later (cap := capM) huM (by rw [← hMl]; exact hlen) hMr
    have l1 := lcms_later (cap := cap') HU.out hlen hLr
    have l2 := lcms_later (cap := capM) huM (by rw [← hMl]; exact hlen) hMr
    have g1 := gcds_both (cap := cap') HU.out hlen hLr
    have g2 := gcds_both (cap := capM) huM (by rw [← hMl]; exact hlen) hMr
    have e3 : foldR addN addB 0 (L.drop k ++ L.take k) = foldR addN addB 0 L := by
      have := adds_turn (A := L.take k) (B := L.drop k) (by rw [List.take_append_drop]; exact HU.out)
      rwa [List.take_append_drop] at this
    rw [e3] at s2
    rw [lcms_same hnn hsame hnil] at l2
    rw [gcds_same hnn hsame] at g2
    rw [← hMl] at s2 l2 g2
    have hA : Reads w3 w3.heap.size (some ⟨b, off, none⟩) (L.take k) := hLr.take k
    have hB : Reads w3 w3.heap.size (some ⟨b, off + k, none⟩) (L.drop k) := by
      right
      refine ⟨b, off + k, rfl, Nat.lt_of_lt_of_le hb hb3.size, fun j hj => ?_⟩
      rw [List.length_drop] at hj
      have := HCells.out (k + j) (by omega)
      rw [hb3.cell (p := ⟨b, off + k + j, none⟩) hb, Nat.add_assoc, this]
      simp [List.getD_eq_getElem?_getD, List.getElem?_drop]
    have gA := gcds_both (cap := cap') (fun z hz => HU.out z (List.mem_of_mem_take hz)) (by rw [List.length_take]; omega) hA
    have gB := gcds_both (cap := cap' - k) (fun z hz => HU.out z (List.mem_of_mem_drop hz)) (by rw [List.length_drop]; omega) hB
    rw [List.length_take, Nat.min_eq_left hk1] at gA
    rw [List.length_drop] at gB
    have e4 := gcds_parts (A := L.take k) (B := L.drop k) (by rw [List.take_append_drop]; exact hnn)
    rw [List.take_append_drop] at e4
    have uA := fold_u64 (L.take k) (fun z hz => HU.out z (List.mem_of_mem_take hz)) 0 ⟨by omega, by omega⟩
    have uB := fold_u64 (L.drop k) (fun z hz => HU.out z (List.mem_of_mem_drop hz)) 0 ⟨by omega, by omega⟩
    generalize foldR addN addB 0 L = sv at s1 s2
    generalize foldR lcmN lcmB 1 L = lv at l1 l2
    generalize (foldR gcdN (fun _ _ => true) 0 L).1 = gv at g1 g2 e4
    generalize (foldR gcdN (fun _ _ => true) 0 (L.take k)).1 = va at gA e4 uA
    generalize (foldR gcdN (fun _ _ => true) 0 (L.drop k)).1 = vb at gB e4 uB
    obtain ⟨sv, sb⟩ := sv
    obtain ⟨lv, lb⟩ := lv
    have gP : ∀ (w : World) (p : Nat), Below w3.heap.size w3 w → w.cell? ⟨p, 0, none⟩ = some (.int .u64 va) → w.cell? ⟨p, 1, none⟩ = some (.int .u64 vb) →
        Calls Try.prog 25 #[.slice (some ⟨p, 0, none⟩) 2 2] w fun e w' => e = .returned (.int .u64 gv) ∧ Below w.heap.size w w' ∧ Below w3.heap.size w3 w' := by
      intro w p hb0 h0 h1
      have := gcds_any [va, vb] (by intro z hz; simp at hz; rcases hz with rfl | rfl <;> assumption) (by simp) 2 (some ⟨p, 0, none⟩) w (.inr ⟨p, 0, rfl, block_of_cell h0, by
        intro j hj
        have hj : j < 2 := hj
        have : j = 0 ∨ j = 1 := by omega
        rcases this with rfl | rfl
        · simpa using h0
        · simpa using h1⟩)
      rw [e4] at this
      exact this.mono fun _ _ ⟨k1, k2⟩ => ⟨k1, k2, hb0.trans (k2.mono hb0.size)⟩
    have S1 := Lib.hid s1
    have S2 := Lib.hid s2
    have L1 := Lib.hid l1
    have L2 := Lib.hid l2
    have G1 := Lib.hid g1
    have G2 := Lib.hid g2
    have GA := Lib.hid gA
    have GB := Lib.hid gB
    have GP := Lib.hid gP
    have H3 := Lib.hid hb3
    have R3 := Lib.hid (Below.refl w3.heap.size w3)
    clear hown hgrow hown2 hgrow2 hb2 hown3 hMr hsame huM hLr hnn hnil e3 hA hB e4 uA uB hw1 C1 HL HU HCells hb3 hsz hMl hi0 hz0 hz1 hz2 hzl A F HW hn0 s1 s2 l1 l2 g1 g2 gA gB gP
    go_upto_region 11 with (first | (go_at_call 19; ((with_reducible refine (S1.out _ R3.out).mono ?_)); rintro e w4 ⟨rfl, hw4⟩) | (go_at_call 19; ((with_reducible refine (S2.out _ hw4).mono ?_)); rintro e w5 ⟨rfl, hw5⟩) | (go_at_call 21; ((with_reducible refine (L1.out _ hw5).mono ?_)); rintro e w6 ⟨rfl, hw6⟩) | (go_at_call 21; ((with_reducible refine (L2.out _ hw6).mono ?_)); rintro e w7 ⟨rfl, hw7⟩))
    clear hw4 hw5 hw6
    have sz7 := hw7.size
    go_region_held3 (fun w' => Below w3.heap.size w3 w') (repeat (first | (with_reducible assumption) | refine Below.drew ?_ | refine Below.alloc ?_ (by first | omega | (simp; omega)) _)) (first | (go_at_call 25; (with_reducible refine (G1.out _ (by repeat (first | (with_reducible assumption) | refine Below.drew ?_ | refine Below.alloc ?_ (by first | omega | (simp; omega)) _))).mono ?_); rintro e wx ⟨rfl, px, bx⟩; have sx := bx.size; try (have pk := pair_kept px)) | (go_at_call 25; (with_reducible refine (G2.out _ (by repeat (first | (with_reducible assumption) | refine Below.drew ?_ | refine Below.alloc ?_ (by first | omega | (simp; omega)) _))).mono ?_); rintro e wx ⟨rfl, px, bx⟩; have sx := bx.size; try (have pk := pair_kept px)) | (go_at_call 25; (with_reducible refine (GA.out _ (by repeat (first | (with_reducible assumption) | refine Below.drew ?_ | refine Below.alloc ?_ (by first | omega | (simp; omega)) _))).mono ?_); rintro e wx ⟨rfl, px, bx⟩; have sx := bx.size; try (have pk := pair_kept px)) | (go_at_call 25; (with_reducible refine (GB.out _ (by repeat (first | (with_reducible assumption) | refine Below.drew ?_ | refine Below.alloc ?_ (by first | omega | (simp; omega)) _))).mono ?_); rintro e wx ⟨rfl, px, bx⟩; have sx := bx.size; try (have pk := pair_kept px)) | (go_at_call 25; (with_reducible refine (GP.out _ _ (by repeat (first | (with_reducible assumption) | refine Below.drew ?_ | refine Below.alloc ?_ (by first | omega | (simp; omega)) _)) (by first | (simp; done) | exact pk.1) (by first | (simp; done) | exact pk.2)).mono ?_); rintro e wx ⟨rfl, px, bx⟩; have sx := bx.size; try (have pk := pair_kept px)))
    go_wp2
    go_ret
    exact ⟨rfl, H3.out.trans (Below.mono (by with_reducible assumption) H3.out.size)⟩

theorem row_turns (W : World) (a0 : Option Addr) (len cap : Nat) (z : List Int) (hrow : IsRow .u64 W a0 len cap z) (turn : Int) (_h : (Lit.int .i64 turn).wf = true) :
    Calls Try.prog 8 #[.slice a0 len cap, .int .i64 turn] W fun e w' => e = .returned (.bool true) ∧ Below W.heap.size W w' :=
  law_turns a0 len cap z turn W hrow

end Go.Proofs.Ytlpkilfpjdggeaa
