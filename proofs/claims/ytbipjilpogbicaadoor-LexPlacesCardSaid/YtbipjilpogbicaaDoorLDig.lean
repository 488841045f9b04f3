/-
  The walks over digits, as the program writes them; what is asked of all words at the beginning.
-/
import Derived.Test.YtbipjilpogbicaaDoorLShelf2
import Derived.Test.YtbipjilpogbicaaDoorLW6
import Derived.Test.YtbipjilpogbicaaDoorLW7
import Derived.Test.YtbipjilpogbicaaDoorLWd2
import Derived.Lib.ItoaNum
import Derived.Lib.AppendIntMem
namespace Go.Proofs.YtbipjilpogbicaaDoor
open Go.RowKit Go.Maps

/-- The table of the powers of ten. -/
def PT (w : World) : Prop := Lib.TabIs Tryd.prog w "internal/strconv.uint64pow10" .u64 Lib.pow10Tab
theorem PT.below {w w' : World} (h : PT w) (hb : Below w.heap.size w w') : PT w' := Lib.tabBelow_of_tabIs h w' hb
theorem upOf_dec (n : Nat) : upOf n = ⟨(Lib.decDigits n).toArray⟩ := by
  induction n using Nat.strongRecOn with
  | _ n ih =>
    by_cases h : n < 10
    · rw [upOf_small h, Lib.decDigits, dif_pos h]
    · rw [upOf_more h, Lib.decDigits, dif_neg h, ih (n / 10) (by omega)]
      apply ByteArray.ext
      rw [ByteArray.data_append]
      simp
theorem digOf_itoa (n : Int) : (⟨(Lib.itoa n).toArray⟩ : ByteArray) = digOf n := by
  unfold Lib.itoa digOf
  split
  · rw [upOf_dec]
    apply ByteArray.ext
    rw [ByteArray.data_append]
    simp
  · rw [upOf_dec, show n.natAbs = n.toNat by omega]
theorem digits_any (n : Int) (hn : I64 n) (w : World) (hT : PT w) : Calls Tryd.prog 23 #[.int .i64 n] w fun e w' => e = .returned (.string (digOf n)) ∧ Below w.heap.size w w' := by
  have C := Lib.hid (Tryd.strconv_FormatInt_10 n hn.1 hn.2 w hT)
  rw [digOf_itoa] at C
  generalize digOf n = s at C ⊢
  clear hT
  go_enter Tryd.func23, Tryd.ntmps23
  go_wp2_with (go_at_call 31; (with_reducible refine C.out.mono ?_); rintro e w' ⟨rfl, hw⟩)
  go_ret
  obtain ⟨k, os, rfl⟩ := hw
  exact ⟨rfl, Lib.below_grow _ _ (Nat.le_refl _) k os⟩
theorem digits_12 (w : World) : Calls Tryd.prog 23 #[.int .i64 12] w fun e w' => e = .returned (.string ⟨#[49, 50]⟩) ∧ Below w.heap.size w w' := by
  have C := Lib.hid (Tryd.strconv_FormatInt_10_small 12 (by decide) w)
  rw [show Lib.decDigits 12 = [49, 50] by rw [Lib.decDigits, dif_neg (by decide), Lib.decDigits, dif_pos (by decide)]; rfl] at C
  go_enter Tryd.func23, Tryd.ntmps23
  go_wp2_with (go_at_call 31; (refine C.out.mono ?_); rintro e w' ⟨rfl, rfl⟩)
  go_ret
  exact ⟨rfl, Below.refl _ _⟩

/-- The words of the chapter's example. -/
def exWords : List WV := [⟨0, 1, ⟨#[97]⟩⟩, ⟨3, 1, ⟨#[98]⟩⟩, ⟨7, 2, ⟨#[100]⟩⟩]
theorem exWords_is : wordsOf ⟨#[97, 32, 32, 98, 35, 99, 10, 100]⟩ = exWords := by decide +kernel
theorem words_ex (w : World) : Calls Tryd.prog 14 #[.string ⟨#[97, 32, 32, 98, 35, 99, 10, 100]⟩] w fun e w' => ∃ a c, e = .returned (.slice a 3 c) ∧ WView w' a exWords ∧ Below w.heap.size w w' :=
  (words_any ⟨#[97, 32, 32, 98, 35, 99, 10, 100]⟩ (by decide) w).mono fun e w' ⟨a, c, h1, h2, h3⟩ => by
    rw [exWords_is] at h1 h2
    exact ⟨a, c, h1, h2.words.view, h3⟩
theorem ex_view (w : World) : WView (w.alloc (.cells #[.int .i64 0, .int .i64 1, .string ⟨#[97]⟩, .int .i64 3, .int .i64 1, .string ⟨#[98]⟩, .int .i64 7, .int .i64 2, .string ⟨#[100]⟩] WT)) (some ⟨w.heap.size, 0, none⟩) exWords :=
  .inr ⟨_, 0, rfl, fun j u hj => by
    rw [World.cell?_alloc_new]
    match j, hj with
    | 0, hj => exact hj
    | 1, hj => exact hj
    | 2, hj => exact hj
    | 3, hj => exact hj
    | 4, hj => exact hj
    | 5, hj => exact hj
    | 6, hj => exact hj
    | 7, hj => exact hj
    | 8, hj => exact hj
    | j + 9, hj => simp [exWords, wflat, WV.cells] at hj⟩
theorem same_ex {w : World} {a b : Option Addr} {c c' : Nat} (ha : WView w a exWords) (hb : WView w b exWords) : Calls Tryd.prog 13 #[.slice a 3 c, .slice b 3 c'] w fun e w' => e = .returned (.bool true) ∧ Below w.heap.size w w' :=
  (rsame_any 3 3 c c' (by decide) (by decide) a b exWords exWords rfl rfl w ha hb).mono fun _ _ ⟨h1, h2⟩ => ⟨by rw [h1, decide_eq_true rfl], h2⟩

set_option maxRecDepth 100000 in
set_option maxHeartbeats 2000000 in
theorem awake_any (w : World) : Calls Tryd.prog 9 #[] w fun e w' => e = .returned (.bool true) ∧ Below w.heap.size w w' := by
  have CW := Lib.hid (words_ex w)
  have CD := Lib.hid digits_12
  go_enter Tryd.func9, Tryd.ntmps9
  go_wp2_with (first
    | (go_at_call 14; (with_reducible refine CW.out.mono ?_); rintro e w1 ⟨a, c, rfl, h1, b1⟩; have H1 := Lib.hid h1; have B1 := Lib.hid b1; clear h1 b1)
    | (go_at_call 13; (with_reducible refine (same_ex (H1.out.below (by repeat (first | exact Below.refl _ _ | (with_reducible assumption) | refine bw_alloc ?_ _ | refine bw_drew ?_))) (ex_view _)).mono ?_); rintro e w2 ⟨rfl, b2⟩; have B2 := Lib.hid (below_up (W := w1) (by repeat (first | exact Below.refl _ _ | (with_reducible assumption) | refine bw_alloc ?_ _ | refine bw_drew ?_)) b2); clear b2)
    | (go_at_call 23; (with_reducible refine (CD.out _).mono ?_); rintro e w3 ⟨rfl, b3⟩; have B3 := Lib.hid b3; clear b3))
  go_ret
  exact ⟨rfl, below_up (below_up B1.out B2.out) B3.out⟩
end Go.Proofs.YtbipjilpogbicaaDoor
