/-
  The walk over numbers put together, as the program does.
-/
import Derived.Test.YtbipjilpogbicaaDoorLDig
import Derived.Lib.OthersKept
namespace Go.Proofs.YtbipjilpogbicaaDoor
open Go.RowKit Go.Maps

abbrev Bld (B : Nat) (t : ByteArray) (w : World) : Prop := Lib.IsBuilderF 65 5 B B (Lib.byteCells t.data.toList) w
theorem grown_of {w w' : World} (h : Below w.heap.size w w') : w.grownBy w' none := ⟨h.os, h.tape, h.output, h.size, fun k hk _ => h.block k hk⟩
theorem atF_below {T e : TypeId} {B b : Nat} {p : Value} {bs : List Value} {w w' : World} (h : Lib.BuilderAtF T e B b p bs w) (hb : Below w.heap.size w w') : Lib.BuilderAtF T e B b p bs w' := by
  obtain ⟨h1, v, h2, h3, h4⟩ := h
  refine ⟨h1, v, kept_obj hb h2, h3.kept (grown_of hb) ?_, h4⟩
  cases v.ownBlock with
  | none => exact .inl rfl
  | some k => exact .inr (by simp)
theorem bld_below {B : Nat} {t : ByteArray} {w w' : World} (h : Bld B t w) (hb : Below w.heap.size w w') : Bld B t w' := h.elim (fun x => .inl (atF_below x hb)) (fun x => .inr (atF_below x hb))
theorem list_size (t : ByteArray) : t.data.toList.length = t.size := by simp
theorem bld_comma {B : Nat} {t : ByteArray} {w : World} (h : Bld B t w) (ht : t.size ≤ 1000000000) (hB : B ≤ w.heap.size) : Calls Tryd.prog 33 #[.pointer (some ⟨B, 0, none⟩), .int .u8 44] w fun e w' =>
    e = .returned .nilIface ∧ Bld B (t ++ ⟨#[44]⟩) w' ∧ Below B w w' :=
  (Any.Builder_WriteByte_k Tryd.buildLays167 Tryd.buildExtra B B (Lib.byteCells t.data.toList) 44 w h (by rw [Lib.byteCells_length, list_size]; omega) hB).mono fun e w' ⟨h1, h2, h3, _⟩ => ⟨h1, .inr (by rw [ByteArray.data_append, Array.toList_append, Lib.byteCells_append]; exact h2), h3⟩
theorem bld_text {B : Nat} {t : ByteArray} {w : World} (h : Bld B t w) (u : ByteArray) (ht : t.size + u.size ≤ 1000000000) (hB : B ≤ w.heap.size) : Calls Tryd.prog 34 #[.pointer (some ⟨B, 0, none⟩), .string u] w fun e w' =>
    ∃ v, e = .returned v ∧ Bld B (t ++ u) w' ∧ Below B w w' :=
  (Any.Builder_WriteString_k Tryd.buildLays166 Tryd.buildExtra B B (Lib.byteCells t.data.toList) u w h (by rw [Lib.byteCells_length, list_size]; omega) hB).mono fun e w' ⟨h1, h2, h3, _⟩ => ⟨_, h1, .inr (by rw [ByteArray.data_append, Array.toList_append, Lib.byteCells_append]; exact h2), h3⟩
theorem bld_string {B : Nat} {t : ByteArray} {w : World} (h : Bld B t w) (hB : B ≤ w.heap.size) : Calls Tryd.prog 35 #[.pointer (some ⟨B, 0, none⟩)] w fun e w' =>
    e = .returned (.string t) ∧ Below B w w' :=
  (Tryd.Builder_String_any_k B B t.data.toList w h hB).mono fun e w' ⟨h1, _, h3, _⟩ => ⟨by rw [h1], h3⟩

set_option maxRecDepth 100000 in
set_option maxHeartbeats 4000000 in
theorem join_any (a : Option Addr) (n cap : Nat) (l : List Int) (hl : l.length = n) (hn : n ≤ 1000000) (hw : ∀ x ∈ l, I64 x) (w : World) (h : Ints w a l) (hT : PT w) : Calls Tryd.prog 25 #[.slice a n cap] w fun e w' => e = .returned (.string (joinOf l)) ∧ Below w.heap.size w w' := by
  have H := Lib.hid h
  have HL := Lib.hid hl
  have HW := Lib.hid hw
  have HT : Hid (PT w) := hT
  clear h hl hw hT
  go_enter Tryd.func25, Tryd.ntmps25
  go_wp2
  go_loopw [8] (fun u wr => ∃ (i : Nat) (t : ByteArray), i ≤ n ∧ u = .int .i64 i ∧ Hid (jrun l i = t) ∧ Hid (Below w.heap.size w wr) ∧ Hid (Bld w.heap.size t wr)) (fun u _ => (n - intOf u).toNat)
  case atStart => exact ⟨0, ⟨#[]⟩, by omega, rfl, rfl, (Below.refl _ w).alloc (Nat.le_refl _) _, Lib.IsBuilderF.of (Lib.fresh_isBuilder _ _ w)⟩
  case round =>
    obtain ⟨i, t, hi, rfl, HJ, HB, HP⟩ := hrel
    by_cases hlt : i < n
    · obtain ⟨x, hx⟩ := nth_of HL.out hlt
      obtain ⟨g, o, rfl, hc⟩ := (H.out.below HB.out).at_ hx
      have hxI := HW.out x (List.mem_of_getElem? hx)
      have HTB : Hid (PT wr) := HT.out.below HB.out
      have hsz := jrun_size l HW.out i
      rw [HJ.out] at hsz
      have hds := digOf_size x hxI
      obtain ⟨d, hd⟩ : ∃ d, digOf x = d := ⟨_, rfl⟩
      have HD := Lib.hid (fun w hT => digits_any x hxI w hT)
      rw [hd] at HD hds
      have hpl : (i : Int) < (n : Int) := by omega
      have hwi : IntKind.i64.wrap ((i : Int) + 1) = (i : Int) + 1 := IntWalk.i64_in _ (by omega)
      have hwB := HB.out.size
      by_cases h0 : i = 0
      · have hp0 : ¬ (0 : Int) < (i : Int) := by omega
        have HJ2 : Hid (jrun l (i + 1) = t ++ d) := by show _ = _; rw [jrun, if_pos h0, hx, HJ.out]; simp only [Option.getD_some]; rw [hd]
        have HSZ : Hid (t.size + d.size ≤ 1000000000) := by show _ ≤ _; omega
        clear h0 hd hsz hds hx
        go_wp2_with (first
          | (go_at_call 23; (with_reducible refine (HD.out _ HTB.out).mono ?_); rintro e w1 ⟨rfl, b1⟩; have B1 := Lib.hid b1; have P1 := Lib.hid (bld_below HP.out b1); have S1 := b1.size; clear b1)
          | (go_at_call 34; (with_reducible refine (bld_text P1.out d HSZ.out (Nat.le_trans hwB S1)).mono ?_); rintro e w2 ⟨v, rfl, p2, b2⟩; have B2 := Lib.hid b2; have P2 := Lib.hid p2; clear b2 p2))
        go_roundw
        case rel => exact ⟨i + 1, t ++ d, by omega, by go_num, HJ2, (below_up HB.out B1.out).trans B2.out, P2⟩
        case measure => simp [intOf]; omega
      · have hp0 : (0 : Int) < (i : Int) := by omega
        have hns : (⟨#[44]⟩ : ByteArray).size = 1 := rfl
        have HJ2 : Hid (jrun l (i + 1) = t ++ ⟨#[44]⟩ ++ d) := by show _ = _; rw [jrun, if_neg h0, hx, HJ.out]; simp only [Option.getD_some]; rw [hd]
        have HSZ : Hid ((t ++ ⟨#[44]⟩).size + d.size ≤ 1000000000) := by show _ ≤ _; rw [ByteArray.size_append, hns]; omega
        have HS0 : Hid (t.size ≤ 1000000000) := by show _ ≤ _; omega
        clear h0 hd hsz hds hx
        go_wp2_with (first
          | (go_at_call 33; (with_reducible refine (bld_comma HP.out HS0.out hwB).mono ?_); rintro e w0 ⟨rfl, p0, b0⟩; have B0 := Lib.hid b0; have P0 := Lib.hid p0; have S0 := b0.size; have T0 := Lib.hid (HT.out.below (HB.out.trans b0)); clear b0 p0)
          | (go_at_call 23; (with_reducible refine (HD.out _ T0.out).mono ?_); rintro e w1 ⟨rfl, b1⟩; have B1 := Lib.hid b1; have P1 := Lib.hid (bld_below P0.out b1); have S1 := b1.size; clear b1)
          | (go_at_call 34; (with_reducible refine (bld_text P1.out d HSZ.out (Nat.le_trans hwB (Nat.le_trans S0 S1))).mono ?_); rintro e w2 ⟨v, rfl, p2, b2⟩; have B2 := Lib.hid b2; have P2 := Lib.hid p2; clear b2 p2))
        go_roundw
        case rel => exact ⟨i + 1, t ++ ⟨#[44]⟩ ++ d, by omega, by go_num, HJ2, ((HB.out.trans B0.out).trans (B1.out.mono (Nat.le_trans hwB S0))).trans B2.out, P2⟩
        case measure => simp [intOf]; omega
    · obtain rfl : i = n := by omega
      have HF : Hid (joinOf l = t) := by show _ = _; unfold joinOf; rw [HL.out, HJ.out]
      have hwB := HB.out.size
      go_wp2_with (go_at_call 35; (with_reducible refine (bld_string HP.out hwB).mono ?_); rintro e w2 ⟨rfl, b2⟩; have B2 := Lib.hid b2; clear b2)
      go_ret
      exact ⟨by rw [HF.out]; rfl, HB.out.trans B2.out⟩
end Go.Proofs.YtbipjilpogbicaaDoor
