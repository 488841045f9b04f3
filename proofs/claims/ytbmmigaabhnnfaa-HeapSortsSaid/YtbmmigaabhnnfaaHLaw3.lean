/-
  The walk over the statement that what was put is taken by rising numbers, each key once.
-/
import Derived.Test.YtbmmigaabhnnfaaHLaw1
namespace Go.Proofs.Ytbmmigaabhnnfaa
open Go.RowKit Go.Maps

def kf (i : Nat) : Nat := i * 37 % 61
def kb (k : Nat) : Nat := k * 33 % 61
theorem kf_kb : ∀ n, n < 61 → kb (kf n) = n := by decide
theorem kb_kf : ∀ n, n < 61 → kf (kb n) = n := by decide
theorem kf_lt (n : Nat) : kf n < 61 := Nat.mod_lt _ (by omega)
/-- The first n numbers, each with a key of its own. -/
def sortC (Z : Nat → Int) (n : Nat) (key : Int) : Option Int := if (0 ≤ key ∧ key ≤ 60) ∧ kb key.toNat < n then some (Z (kb key.toNat)) else none
theorem sortC_zero (Z : Nat → Int) : sortC Z 0 = fun _ => none := by funext k; unfold sortC; rw [if_neg (by omega)]
theorem sortC_none (Z : Nat → Int) {n : Nat} (hn : n < 61) : sortC Z n (kf n : Int) = none := by
  unfold sortC; rw [if_neg]; rintro ⟨_, q⟩; simp only [Int.toNat_natCast] at q; rw [kf_kb n hn] at q; omega
theorem sortC_next (Z : Nat → Int) {n : Nat} (hn : n < 61) : cput (sortC Z n) (kf n : Int) (Z n) = sortC Z (n + 1) := by
  funext k
  unfold cput sortC
  have hl := kf_lt n
  by_cases h : k = (kf n : Int)
  · subst h
    simp only [Int.toNat_natCast, kf_kb n hn]
    rw [if_pos trivial, if_pos (by omega)]
  · rw [if_neg h]
    by_cases g : (0 ≤ k ∧ k ≤ 60) ∧ kb k.toNat < n
    · rw [if_pos g, if_pos ⟨g.1, by omega⟩]
    · rw [if_neg g, if_neg]
      rintro ⟨q1, q2⟩
      refine h ?_
      have e : kb k.toNat = n := by
        have : ¬ kb k.toNat < n := fun q => g ⟨q1, q⟩
        omega
      have := kb_kf k.toNat (by omega)
      rw [e] at this
      omega
theorem sortC_some {Z : Nat → Int} {n : Nat} {k x : Int} (h : sortC Z n k = some x) : ∃ j : Nat, j ≤ 60 ∧ k = (j : Int) := by
  unfold sortC at h
  split at h
  · rename_i q; exact ⟨k.toNat, by omega, by omega⟩
  · cases h

/-- Which keys were seen. -/
def Seen (w : World) (sn : Nat) (s : Nat → Bool) : Prop := ∃ cur : Array Value, w.heap[sn]? = some (.cells cur 52 (0, 0)) ∧ cur.size = 61 ∧ ∀ j, j < 61 → cur[j]? = some (.bool (s j))
theorem Seen.cell {w : World} {sn : Nat} {s : Nat → Bool} (h : Seen w sn s) {j : Nat} (hj : j < 61) : w.cell? ⟨sn, j, none⟩ = some (.bool (s j)) ∧ w.frozen? ⟨sn, j, none⟩ = false := by
  obtain ⟨cur, h1, h2, h3⟩ := h
  exact ⟨by rw [blk_cell h1]; exact h3 j hj, blk_free h1 j⟩
theorem Seen.set {w : World} {sn : Nat} {s : Nat → Bool} (h : Seen w sn s) {j : Nat} (hj : j < 61) : Seen (w.setCell ⟨sn, j, none⟩ (.bool true)) sn (fun i => if i = j then true else s i) := by
  obtain ⟨cur, h1, h2, h3⟩ := h
  refine ⟨cur.setIfInBounds j (.bool true), blk_set h1 _, by simp [h2], fun i hi => ?_⟩
  simp only [Array.getElem?_setIfInBounds]
  by_cases q : i = j
  · subst q; rw [if_pos rfl, if_pos (by omega)]; simp
  · rw [if_neg (fun e => q e.symm), if_neg q]; exact h3 i hi
theorem Seen.lt {w : World} {sn : Nat} {s : Nat → Bool} (h : Seen w sn s) : sn < w.heap.size := by obtain ⟨cur, h1, _⟩ := h; exact lt_of_block h1

/-- The heap, what was seen, what was taken last. -/
structure SortSt (W w : World) (sb : Nat) (mv : Value) (n N : Nat) (sn : Nat) (first : Bool) (lk lx : Int) (c : Int → Option Int) (s : Nat → Bool) : Prop where
  nmv : mv ≠ .map none
  low : Below W.heap.size W w
  hsn : W.heap.size ≤ sn
  seen : Seen w sn s
  ex : ∃ A, Hp w sb mv A n N c ∧ (∀ k, A k → W.heap.size ≤ k) ∧ ¬ A sn
  in_ : ∀ k x, c k = some x → ∃ j : Nat, j ≤ 60 ∧ k = (j : Int) ∧ s j = false
  ord : first = false → ∀ k x, c k = some x → lt2 (k, x) (lk, lx) = false

theorem SortSt.st {W w : World} {sb : Nat} {mv : Value} {n N sn : Nat} {first : Bool} {lk lx : Int} {c : Int → Option Int} {s : Nat → Bool} (h : SortSt W w sb mv n N sn first lk lx c s) : St W w sb mv n N c := by
  obtain ⟨A, h1, h2, _⟩ := h.ex
  exact ⟨h.nmv, h.low, A, h1, h2⟩

/-- What a take leaves: one that is not ahead of the last, and was not seen. -/
structure Took (W w : World) (sb : Nat) (mv : Value) (n N : Nat) (sn : Nat) (first : Bool) (lk lx : Int) (j : Nat) (x : Int) : Prop where
  le : j ≤ 60
  ord : first = false → lt2 ((j : Int), x) (lk, lx) = false
  seen : w.cell? ⟨sn, j, none⟩ = some (.bool false) ∧ w.frozen? ⟨sn, j, none⟩ = false
  next : ∃ c s, SortSt W (w.setCell ⟨sn, j, none⟩ (.bool true)) sb mv n N sn false j x c s

theorem sort_take {W w : World} {sb : Nat} {mv : Value} {m N sn : Nat} {first : Bool} {lk lx : Int} (h : ∃ c s, SortSt W w sb mv (m + 1) N sn first lk lx c s) (hn : (m : Int) + 1 ≤ 1000000) (hN : N < maxLen) :
    Calls Try.prog 15 #[.pointer (some ⟨sb, 0, none⟩)] w fun r w' => ∃ (j : Nat) (x : Int), r = .returned (.tuple #[.int .i64 j, .int .i64 x, .bool true]) ∧ Took W w' sb mv m N sn first lk lx j x := by
  obtain ⟨c, s, h⟩ := h
  obtain ⟨A, h1, h2, h3⟩ := h.ex
  refine (take_any hn hN h1).mono fun r w' ⟨k, x, a, b, A', d1, d2, d3⟩ => ?_
  obtain ⟨j, hj, rfl, hs⟩ := h.in_ _ _ b.1
  have hsn := h.seen
  have hs1 : Seen w' sn s := by
    obtain ⟨cur, g1, g2, g3⟩ := hsn
    exact ⟨cur, d2.obj g1 h3, g2, g3⟩
  have hc := hs1.cell (show j < 61 by omega)
  rw [hs] at hc
  have hA' : ¬ A' sn := fun q => by
    rcases d3 sn q with q | q
    · exact h3 q
    · have := hsn.lt; omega
  have hlow : Below W.heap.size W w' := h.low.trans (d2.below h.low.size h2)
  have ht : Turn (fun k => k = sn) w' (w'.setCell ⟨sn, j, none⟩ (.bool true)) := Turn.setCell (S := fun k => k = sn) (Turn.refl _ _) (p := ⟨sn, j, none⟩) (fun _ => rfl) _
  refine ⟨j, x, a, hj, fun q => h.ord q _ _ b.1, hc, cdel c j, fun i => if i = j then true else s i, h.nmv, hlow.setCell (p := ⟨sn, j, none⟩) h.hsn _, h.hsn, hs1.set (by omega), ⟨A', d1.kept ht (fun k hk e => hA' (e ▸ hk)), fun k hk => ?_, hA'⟩, fun k y hy => ?_, fun _ k y hy => ?_⟩
  · rcases d3 k hk with q | q
    · exact h2 k q
    · exact Nat.le_trans h.low.size q
  · unfold cdel at hy
    split at hy
    · cases hy
    · rename_i q
      obtain ⟨i, hi, rfl, hsi⟩ := h.in_ _ _ hy
      exact ⟨i, hi, rfl, by rw [if_neg (by rintro rfl; exact q rfl)]; exact hsi⟩
  · unfold cdel at hy
    split at hy
    · cases hy
    · exact b.2 _ _ hy

theorem sort_start {W w : World} {sb : Nat} {mv : Value} {n N : Nat} {Z : Nat → Int} {m : Nat} {cs : Array Value} (h : St W w sb mv n N (sortC Z m)) (hcs : cs.size = 61 ∧ ∀ j, j < 61 → cs[j]? = some (.bool false)) :
    ∃ c s, SortSt W (w.alloc (.cells cs 52)) sb mv n N w.heap.size true (-1) 0 c s := by
  obtain ⟨h1, h2, A, h3, h4⟩ := h
  have hb : Below w.heap.size w (w.alloc (.cells cs 52)) := (Below.refl _ _).alloc (Nat.le_refl _) _
  refine ⟨sortC Z m, fun _ => false, h1, h2.trans (hb.mono h2.size), h2.size, ⟨cs, heap_alloc_new w _, hcs.1, hcs.2⟩, ⟨A, h3.below hb, h4, fun q => by have := h3.lt q; omega⟩, fun k x q => ?_, fun q => by cases q⟩
  obtain ⟨j, hj, hk⟩ := sortC_some q
  exact ⟨j, hj, hk, rfl⟩

set_option maxRecDepth 100000 in
set_option maxHeartbeats 4000000 in
theorem law_sorts (a0 : Option Addr) (len cap m : Nat) (Z : Nat → Int) (W : World) (hlen : (len : Int) ≤ 9223372036854775807) (hm : m = min len 60) (HZ : Hid (∀ k, k < len → I64 (Z k)))
    (HC : Hid (∀ k, k < len → ∃ b off, a0 = some ⟨b, off, none⟩ ∧ b < W.heap.size ∧ W.cell? ⟨b, off + k, none⟩ = some (.int .i64 (Z k)))) :
    Calls Try.prog 4 #[.slice a0 len cap] W fun e w' => e = .returned (.bool true) ∧ Below W.heap.size W w' := by
  have A := Lib.hid (awake_any W)
  have C0 := Lib.hid (fun w (h : Below W.heap.size W w) => st_new W w h)
  unfold lessV at C0
  have CP := Lib.hid (fun wr sb mv (k : Nat) (hk : k < 60) (hl : k < len) (h : St W wr sb mv k k (sortC Z k)) => st_put h (by omega) (by unfold maxLen; omega) (k := (kf k : Int)) (x := Z k) (by have := kf_lt k; unfold I64; omega) (HZ.out k hl) (sortC_none Z (by omega)))
  have CT := Lib.hid (fun wr sb mv (q N sn : Nat) (first : Bool) (lk lx : Int) (hq : q < 60) (hN : N ≤ 60) (h : ∃ c s, SortSt W wr sb mv (q + 1) N sn first lk lx c s) => sort_take h (by omega) (by unfold maxLen; omega))
  have CE := Lib.hid (fun wr sb mv (N : Nat) c (h : St W wr sb mv 0 N c) => st_take_no h)
  have CL := Lib.hid (fun wr sb mv (n N : Nat) c (h : St W wr sb mv n N c) => st_len h)
  have CB := Lib.hid (fun (w : World) sb mv n N (m : Nat) (cs : Array Value) (h : St W w sb mv n N (sortC Z m)) hcs => sort_start (cs := cs) h hcs)
  have hm60 : m ≤ 60 := by omega
  have hml : m ≤ len := by omega
  have hor : m = len ∨ (m = 60 ∧ 60 < len) := by omega
  clear hm
  go_enter Try.func4, Try.ntmps4
  go_wp2_with (first
    | (go_at_call 9; (refine (A.out).mono ?_); rintro r w1 ⟨rfl, h1⟩; have H1 := Lib.hid h1; clear h1)
    | (go_at_call 10; (refine (C0.out _ H1.out).mono ?_); rintro r w2 ⟨sb, mv, rfl, h2⟩; have H2 := Lib.hid h2; clear h2))
  rw [← sortC_zero Z] at H2
  clear C0 A
  go_loopw [5, 6] (fun s u wr => ∃ k : Nat, k ≤ m ∧ s = .int .i64 k ∧ u = .int .i64 k ∧ Hid (St W wr sb mv k k (sortC Z k))) (fun _ u _ => (m - intOf u).toNat)
  case atStart => exact ⟨0, by omega, rfl, rfl, H2⟩
  case round =>
    obtain ⟨k, hk, rfl, rfl, HS⟩ := hrel
    clear H1 H2
    by_cases hlt : k < m
    · obtain ⟨b, off, rfl, hb, ck⟩ := HC.out k (by omega)
      have ck : wr.cell? ⟨b, off + k, none⟩ = some (.int .i64 (Z k)) := by rw [HS.out.low.cell (p := ⟨b, off + k, none⟩) hb]; exact ck
      have C1 := Lib.hid (CP.out wr sb mv k (by omega) (by omega) HS.out)
      have hk1 : (k : Int) < (len : Int) := by omega
      have hk2 : (k : Int) < 60 := by omega
      rw [sortC_next Z (by omega)] at C1
      have e0 : (k : Int) * 37 % 61 = (kf k : Int) := by unfold kf; omega
      have e1 : ((k : Int) * 37).tmod 61 = (kf k : Int) := by rw [Int.tmod_eq_emod_of_nonneg (by omega)]; exact e0
      clear HC CP HZ hb HS hor CT CE CL CB
      generalize Z k = z at ck C1
      generalize kf k = kk at e0 e1 C1
      go_wp2_with (go_at_call 19; (refine (C1.out).mono ?_); rintro r w3 ⟨rfl, h3⟩; have H3 := Lib.hid h3; clear h3)
      go_roundw
      case rel => exact ⟨k + 1, by omega, by go_num, by go_num, H3⟩
      case measure => simp [intOf]; omega
    · obtain rfl : k = m := by omega
      clear CP HZ
      have hk60 := hm60
      have hor2 : (k : Int) = (len : Int) ∨ ((k : Int) = 60 ∧ (60 : Int) < (len : Int)) := by omega
      have HB := Lib.hid (fun cs => CB.out wr sb mv k k k cs HS.out)
      clear HS HC CB hor hml hk hlt
      rcases hor2 with q | ⟨q1, q2⟩
      · have t1 : ¬ (k : Int) < (len : Int) := by omega
        clear q
        go_wp2
        generalize wr.heap.size = sn at HB ⊢
        go_loopw [7, 8, 10] (fun l y i wr => ∃ (q : Nat) (lk lx : Int), q ≤ k ∧ i = .int .i64 q ∧ l = .int .i64 lx ∧ y = .int .i64 lk ∧ Hid (∃ c s, SortSt W wr sb mv (k - q) k sn (decide (q = 0)) lk lx c s)) (fun _ _ i _ => (k - intOf i).toNat)
        case atStart => exact ⟨0, -1, 0, by omega, rfl, rfl, rfl, HB.out _ ⟨rfl, fun j hj => by show (Array.replicate 61 (Value.bool false))[j]? = _; simp [hj]⟩⟩
        case round =>
          obtain ⟨q, lk, lx, hq, rfl, rfl, rfl, HQ⟩ := hrel
          clear HB
          by_cases hql : q < k
          · have C2 := Lib.hid (CT.out wr sb mv (k - q - 1) k sn (decide (q = 0)) lk lx (by omega) hk60 (by have h := HQ.out; rw [show k - q - 1 + 1 = k - q by omega]; exact h))
            clear HQ CT CL CE t1 
            go_upto_region 19 with (go_at_call 15; (with_reducible refine (C2.out).mono ?_); rintro r w4 ⟨j, x, rfl, h4⟩; have H4 := Lib.hid h4; clear h4)
            obtain ⟨s0, s1⟩ := H4.out.seen
            have hj60 := H4.out.le
            have v1 : (0 : Int) ≤ (j : Int) := by omega
            have v2 : (j : Int) < 61 := by omega
            have v3 : ¬ 60 < (j : Int) := by omega
            have HN : Hid (∃ c s, SortSt W (w4.setCell ⟨sn, j, none⟩ (.bool true)) sb mv (k - (q + 1)) k sn (decide (q + 1 = 0)) j x c s) := by
              have h := H4.out.next
              rw [show k - (q + 1) = k - q - 1 by omega, decide_eq_false (by omega : ¬ q + 1 = 0)]; exact h
            by_cases q0 : q = 0
            · have t3 : ¬ (0 : Int) < (q : Int) := by omega
              clear C2 H4 q0
              go_wp2
              go_roundw
              case rel => exact ⟨q + 1, j, x, by omega, by go_num, rfl, rfl, HN⟩
              case measure => simp [intOf]; omega
            · have t3 : (0 : Int) < (q : Int) := by omega
              have ho := lt2_no.1 (H4.out.ord (decide_eq_false q0))
              simp only at ho
              have t4 : ¬ x < lx := by omega
              by_cases q1 : x = lx
              · have t5 : ¬ (j : Int) < lk := by omega
                have t6 : (x == lx) = true := by rw [q1]; simp
                clear C2 H4 q0 ho q1
                go_wp2
                go_roundw
                case rel => exact ⟨q + 1, j, x, by omega, by go_num, rfl, rfl, HN⟩
                case measure => simp [intOf]; omega
              · have t6 : (x == lx) = false := by rw [beq_eq_false_iff_ne]; exact q1
                clear C2 H4 q0 ho q1
                go_wp2
                go_roundw
                case rel => exact ⟨q + 1, j, x, by omega, by go_num, rfl, rfl, HN⟩
                case measure => simp [intOf]; omega
          · obtain rfl : q = k := by omega
            obtain ⟨c, s, hs⟩ := HQ.out
            have hs := hs.st
            rw [Nat.sub_self] at hs
            have C2 := Lib.hid (CE.out wr sb mv q c hs)
            have C3 := Lib.hid (fun w h => CL.out w sb mv 0 q c h)
            clear hs HQ CT CL CE
            go_wp2_with (first
              | (go_at_call 15; (with_reducible refine (C2.out).mono ?_); rintro r w3 ⟨rfl, h3⟩; have H3 := Lib.hid h3; clear h3)
              | (go_at_call 28; (with_reducible refine (C3.out _ H3.out).mono ?_); rintro r w4 ⟨rfl, rfl⟩))
            go_ret
            exact ⟨rfl, H3.out.low⟩
      · have t1 :  (k : Int) < (len : Int) := by omega
        have t2 : ¬ (k : Int) < 60 := by omega
        clear q1 q2
        go_wp2
        generalize wr.heap.size = sn at HB ⊢
        go_loopw [7, 8, 10] (fun l y i wr => ∃ (q : Nat) (lk lx : Int), q ≤ k ∧ i = .int .i64 q ∧ l = .int .i64 lx ∧ y = .int .i64 lk ∧ Hid (∃ c s, SortSt W wr sb mv (k - q) k sn (decide (q = 0)) lk lx c s)) (fun _ _ i _ => (k - intOf i).toNat)
        case atStart => exact ⟨0, -1, 0, by omega, rfl, rfl, rfl, HB.out _ ⟨rfl, fun j hj => by show (Array.replicate 61 (Value.bool false))[j]? = _; simp [hj]⟩⟩
        case round =>
          obtain ⟨q, lk, lx, hq, rfl, rfl, rfl, HQ⟩ := hrel
          clear HB
          by_cases hql : q < k
          · have C2 := Lib.hid (CT.out wr sb mv (k - q - 1) k sn (decide (q = 0)) lk lx (by omega) hk60 (by have h := HQ.out; rw [show k - q - 1 + 1 = k - q by omega]; exact h))
            clear HQ CT CL CE t1 t2
            go_upto_region 19 with (go_at_call 15; (with_reducible refine (C2.out).mono ?_); rintro r w4 ⟨j, x, rfl, h4⟩; have H4 := Lib.hid h4; clear h4)
            obtain ⟨s0, s1⟩ := H4.out.seen
            have hj60 := H4.out.le
            have v1 : (0 : Int) ≤ (j : Int) := by omega
            have v2 : (j : Int) < 61 := by omega
            have v3 : ¬ 60 < (j : Int) := by omega
            have HN : Hid (∃ c s, SortSt W (w4.setCell ⟨sn, j, none⟩ (.bool true)) sb mv (k - (q + 1)) k sn (decide (q + 1 = 0)) j x c s) := by
              have h := H4.out.next
              rw [show k - (q + 1) = k - q - 1 by omega, decide_eq_false (by omega : ¬ q + 1 = 0)]; exact h
            by_cases q0 : q = 0
            · have t3 : ¬ (0 : Int) < (q : Int) := by omega
              clear C2 H4 q0
              go_wp2
              go_roundw
              case rel => exact ⟨q + 1, j, x, by omega, by go_num, rfl, rfl, HN⟩
              case measure => simp [intOf]; omega
            · have t3 : (0 : Int) < (q : Int) := by omega
              have ho := lt2_no.1 (H4.out.ord (decide_eq_false q0))
              simp only at ho
              have t4 : ¬ x < lx := by omega
              by_cases q1 : x = lx
              · have t5 : ¬ (j : Int) < lk := by omega
                have t6 : (x == lx) = true := by rw [q1]; simp
                clear C2 H4 q0 ho q1
                go_wp2
                go_roundw
                case rel => exact ⟨q + 1, j, x, by omega, by go_num, rfl, rfl, HN⟩
                case measure => simp [intOf]; omega
              · have t6 : (x == lx) = false := by rw [beq_eq_false_iff_ne]; exact q1
                clear C2 H4 q0 ho q1
                go_wp2
                go_roundw
                case rel => exact ⟨q + 1, j, x, by omega, by go_num, rfl, rfl, HN⟩
                case measure => simp [intOf]; omega
          · obtain rfl : q = k := by omega
            obtain ⟨c, s, hs⟩ := HQ.out
            have hs := hs.st
            rw [Nat.sub_self] at hs
            have C2 := Lib.hid (CE.out wr sb mv q c hs)
            have C3 := Lib.hid (fun w h => CL.out w sb mv 0 q c h)
            clear hs HQ CT CL CE
            go_wp2_with (first
              | (go_at_call 15; (with_reducible refine (C2.out).mono ?_); rintro r w3 ⟨rfl, h3⟩; have H3 := Lib.hid h3; clear h3)
              | (go_at_call 28; (with_reducible refine (C3.out _ H3.out).mono ?_); rintro r w4 ⟨rfl, rfl⟩))
            go_ret
            exact ⟨rfl, H3.out.low⟩

theorem row_sorts (W : World) (a0 : Option Addr) (len cap : Nat) (z : List Int) (hrow : IsRow .i64 W a0 len cap z) :
    Calls Try.prog 4 #[.slice a0 len cap] W fun e w' => e = .returned (.bool true) ∧ Below W.heap.size W w' := by
  obtain ⟨h1, h2, h3⟩ := row_in hrow
  exact law_sorts a0 len cap (min len 60) (fun k => z.getD k 0) W h1 rfl h2 h3

end Go.Proofs.Ytbmmigaabhnnfaa
