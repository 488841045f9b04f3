/-
  The walks over what is in one of some sets.
-/
import Derived.Test.YtigafpmhgogpmaaDoorBWalk2
namespace Go.Proofs.YtigafpmhgogpmaaDoor
open Go.RowKit

/-- Sets that stand one behind the other. -/
def Sets (w : World) (B : Nat) (a : Option Addr) (l : List (Nat → Bool)) : Prop :=
  l = [] ∨ ∃ b off, a = some ⟨b, off, none⟩ ∧ b < B ∧ ∀ k, k < l.length → w.cell? ⟨b, off + k * 4, none⟩ = some (.int .u64 (wd (l.getD k noneP) 0)) ∧ w.cell? ⟨b, off + k * 4 + 1, none⟩ = some (.int .u64 (wd (l.getD k noneP) 1)) ∧ w.cell? ⟨b, off + k * 4 + 2, none⟩ = some (.int .u64 (wd (l.getD k noneP) 2)) ∧ w.cell? ⟨b, off + k * 4 + 3, none⟩ = some (.int .u64 (wd (l.getD k noneP) 3))

theorem Sets.below {w w' : World} {B : Nat} {a : Option Addr} {l : List (Nat → Bool)} (h : Sets w B a l) (hb : Below B w w') : Sets w' B a l := by
  rcases h with h | ⟨b, off, h1, h2, h3⟩
  · exact .inl h
  · exact .inr ⟨b, off, h1, h2, fun k hk => by rw [hb.cell (p := ⟨b, off + k * 4, none⟩) h2, hb.cell (p := ⟨b, off + k * 4 + 1, none⟩) h2, hb.cell (p := ⟨b, off + k * 4 + 2, none⟩) h2, hb.cell (p := ⟨b, off + k * 4 + 3, none⟩) h2]; exact h3 k hk⟩

/-- All that is in one of the first n. -/
def orN (l : List (Nat → Bool)) : Nat → Nat → Bool
  | 0 => noneP
  | n + 1 => orP (orN l n) (l.getD n noneP)

set_option maxHeartbeats 2000000 in
theorem or_any (l : List (Nat → Bool)) (hl : (l.length : Int) ≤ 1000000) (cap : Nat) (ao : Option Addr) (w : World) (hs : Sets w w.heap.size ao l) :
    Calls Tryd.prog 22 #[.slice ao l.length cap] w fun e w' => e = .returned (.agg #[.int .u64 (wd (orN l l.length) 0), .int .u64 (wd (orN l l.length) 1), .int .u64 (wd (orN l l.length) 2), .int .u64 (wd (orN l l.length) 3)]) ∧ Below w.heap.size w w' := by
  have HS := Lib.hid hs
  clear hs
  go_enter Tryd.func22, Tryd.ntmps22
  go_wp2
  go_loopw [9] (fun i wr => ∃ k : Nat, k ≤ l.length ∧ i = .int .i64 k ∧ Four wr (w.heap.size + 1) (wd (orN l k) 0) (wd (orN l k) 1) (wd (orN l k) 2) (wd (orN l k) 3) ∧ Four wr w.heap.size 0 0 0 0 ∧ Below w.heap.size w wr) (fun i _ => (l.length - intOf i).toNat)
  case atStart =>
    refine ⟨0, by omega, rfl, ?_, ?_, ((Below.refl _ _).alloc (Nat.le_refl _) _).alloc (by simp) _⟩
    · have := Four.new (w.alloc (.cells #[.int .u64 0, .int .u64 0, .int .u64 0, .int .u64 0] 24)) 0 0 0 0 24
      simpa [orN, wd_none] using this
    · exact (Four.new w 0 0 0 0 _).alloc _
  case round =>
    obtain ⟨k, hk, rfl, hx, hz, hb⟩ := hrel
    have HX := Lib.hid hx
    have HZ := Lib.hid hz
    have HB := Lib.hid hb
    clear hx hb
    by_cases hlt : k < l.length
    · obtain ⟨b, off, rfl, hbb, hc⟩ : ∃ b off, ao = some ⟨b, off, none⟩ ∧ b < w.heap.size ∧ ∀ k, k < l.length → wr.cell? ⟨b, off + k * 4, none⟩ = some (.int .u64 (wd (l.getD k noneP) 0)) ∧ wr.cell? ⟨b, off + k * 4 + 1, none⟩ = some (.int .u64 (wd (l.getD k noneP) 1)) ∧ wr.cell? ⟨b, off + k * 4 + 2, none⟩ = some (.int .u64 (wd (l.getD k noneP) 2)) ∧ wr.cell? ⟨b, off + k * 4 + 3, none⟩ = some (.int .u64 (wd (l.getD k noneP) 3)) := by
        rcases HS.out.below HB.out with h | h
        · rw [h] at hlt; exact absurd hlt (Nat.not_lt_zero _)
        · exact h
      obtain ⟨c0, c1, c2, c3⟩ := hc k hlt
      have hsz : w.heap.size + 1 < wr.heap.size := HX.out.lt
      have e0 := Lib.hid (w_or (orN l k) (l.getD k noneP) 0)
      have e1 := Lib.hid (w_or (orN l k) (l.getD k noneP) 1)
      have e2 := Lib.hid (w_or (orN l k) (l.getD k noneP) 2)
      have e3 := Lib.hid (w_or (orN l k) (l.getD k noneP) 3)
      have HR : Hid (wd (orP (orN l k) (l.getD k noneP)) = wd (orN l (k + 1))) := by show _ = _; rfl
      clear hc hz
      generalize wd (orP (orN l k) (l.getD k noneP)) = r at e0 e1 e2 e3 HR
      generalize wd (l.getD k noneP) = q at e0 e1 e2 e3 c0 c1 c2 c3
      generalize wd (orN l k) = a at e0 e1 e2 e3 HX
      go_wp2
      go_loopw [13] (fun i wi => ∃ j : Nat, j ≤ 4 ∧ i = .int .i64 j ∧ Four wi (w.heap.size + 1) (mix j r a 0) (mix j r a 1) (mix j r a 2) (mix j r a 3) ∧ Four wi wr.heap.size (q 0) (q 1) (q 2) (q 3) ∧ Four wi w.heap.size 0 0 0 0 ∧ Below w.heap.size w wi) (fun i _ => (4 - intOf i).toNat)
      case atStart =>
        exact ⟨0, by omega, rfl, HX.out.alloc _, Four.new _ _ _ _ _ _, HZ.out.alloc _, HB.out.alloc HB.out.size _⟩
      case round =>
        obtain ⟨j, hj, rfl, hx, hy, hz, hb⟩ := hrel
        have HX := Lib.hid hx
        have HY := Lib.hid hy
        have HZ := Lib.hid hz
        have HB := Lib.hid hb
        clear hz hb
        rcases (show j = 0 ∨ j = 1 ∨ j = 2 ∨ j = 3 ∨ j = 4 by omega) with rfl | rfl | rfl | rfl | rfl
        rotate_left 4
        · clear HY hy hx
          go_wp2
          go_roundw
          case rel => exact ⟨k + 1, by omega, by go_num, by rw [← HR.out]; exact HX.out, HZ.out, HB.out⟩
          case measure => simp [intOf]; omega
        all_goals
          simp only [mix, Nat.lt_irrefl, Nat.reduceLT, Nat.not_lt_zero, reduceIte] at hx
          obtain ⟨x0, x1, x2, x3, g0, g1, g2, g3⟩ := hx
          obtain ⟨y0, y1, y2, y3, _, _, _, _⟩ := hy
        · have e := e0.out
          go_wp2
          go_region
          all_goals
            clear e
            go_wp2
            go_roundw
            case rel => exact ⟨1, by omega, rfl, (HX.out.set0 (r 0)).of_drew, (HY.out.far (p := ⟨w.heap.size + 1, 0, none⟩) (by simp; omega) _).of_drew, (HZ.out.far (p := ⟨w.heap.size + 1, 0, none⟩) (by simp) _).of_drew, (HB.out.setCell (p := ⟨w.heap.size + 1, 0, none⟩) (by simp) _).drew⟩
            case measure => simp [intOf]
        · have e := e1.out
          go_wp2
          go_region
          all_goals
            clear e
            go_wp2
            go_roundw
            case rel => exact ⟨2, by omega, rfl, (HX.out.set1 (r 1)).of_drew, (HY.out.far (p := ⟨w.heap.size + 1, 1, none⟩) (by simp; omega) _).of_drew, (HZ.out.far (p := ⟨w.heap.size + 1, 1, none⟩) (by simp) _).of_drew, (HB.out.setCell (p := ⟨w.heap.size + 1, 1, none⟩) (by simp) _).drew⟩
            case measure => simp [intOf]
        · have e := e2.out
          go_wp2
          go_region
          all_goals
            clear e
            go_wp2
            go_roundw
            case rel => exact ⟨3, by omega, rfl, (HX.out.set2 (r 2)).of_drew, (HY.out.far (p := ⟨w.heap.size + 1, 2, none⟩) (by simp; omega) _).of_drew, (HZ.out.far (p := ⟨w.heap.size + 1, 2, none⟩) (by simp) _).of_drew, (HB.out.setCell (p := ⟨w.heap.size + 1, 2, none⟩) (by simp) _).drew⟩
            case measure => simp [intOf]
        · have e := e3.out
          go_wp2
          go_region
          all_goals
            clear e
            go_wp2
            go_roundw
            case rel => exact ⟨4, by omega, rfl, (HX.out.set3 (r 3)).of_drew, (HY.out.far (p := ⟨w.heap.size + 1, 3, none⟩) (by simp; omega) _).of_drew, (HZ.out.far (p := ⟨w.heap.size + 1, 3, none⟩) (by simp) _).of_drew, (HB.out.setCell (p := ⟨w.heap.size + 1, 3, none⟩) (by simp) _).drew⟩
            case measure => simp [intOf]
    · obtain rfl : k = l.length := by omega
      obtain ⟨x0, x1, x2, x3, _, _, _, _⟩ := HX.out
      obtain ⟨z0, z1, z2, z3, v0, v1, v2, v3⟩ := hz
      go_wp2
      refine bodyPost_ret (v := .agg #[.int .u64 (wd (orN l l.length) 0), .int .u64 (wd (orN l l.length) 1), .int .u64 (wd (orN l l.length) 2), .int .u64 (wd (orN l l.length) 3)]) ?_ rfl ⟨rfl, below_set4 HB.out (by omega) (wd (orN l l.length) 0) (wd (orN l l.length) 1) (wd (orN l l.length) 2) (wd (orN l l.length) 3)⟩
      obtain ⟨s0, s1, s2, s3, _, _, _, _⟩ := HZ.out.set4 (wd (orN l l.length) 0) (wd (orN l l.length) 1) (wd (orN l l.length) 2) (wd (orN l l.length) 3)
      unfold set4 at s0 s1 s2 s3
      simp [results, Tryd.results22, go_sem, s0, s1, s2, s3]

end Go.Proofs.YtigafpmhgogpmaaDoor
