/-
  The walk over what tells a set's numbers one by one.
-/
import Derived.Test.YtigafpmhgogpmaaDoorBWalk5
import Derived.Test.YtigafpmhgogpmaaDoorBList
import Derived.RangeFuncNested
import Derived.RangeFuncBound
import Derived.RangeFuncCalls
import Derived.RangeFuncLeaves
import Derived.RangeFuncBox
import Derived.Shelf.Abstract
import Derived.Shelf.RegionOpen
import Derived.OwnWalkIn
import Derived.TacticsInMore
import Derived.LoopNIn
import Derived.LoopIn
import Derived.Maps.AppendAt
namespace Go.Proofs.YtigafpmhgogpmaaDoor
open Go.RowKit Go.Shelf
attribute [local go_sem] Oper.semAt_some

def elsN (p : Nat → Bool) (k : Nat) : List Int := (below p (64 * k)).map fun x : Nat => (x : Int)
def onesAt (k x : Nat) : List Int := (ones x).map fun j : Nat => (k : Int) * 64 + (j : Int)

theorem elsN_next (p : Nat → Bool) (k : Nat) : elsN p (k + 1) = elsN p k ++ onesAt k (wd p k) := by
  unfold elsN onesAt
  rw [ones_wd, List.map_append, List.map_map]
  congr 1
  exact List.map_congr_left fun j _ => by simp; omega
theorem onesAt_zero (k : Nat) : onesAt k 0 = [] := by unfold onesAt; rw [ones_zero]; rfl
theorem onesAt_next (k : Nat) {x : Nat} (h0 : x ≠ 0) (h : x < 18446744073709551616) : onesAt k x = ((k : Int) * 64 + (Lib.ctz 64 x : Int)) :: onesAt k (x &&& (x - 1)) := by
  unfold onesAt; rw [(ones_next h0 h).2]; rfl
theorem elsN_pre (p : Nat → Bool) : ∀ {k}, k ≤ 4 → ∃ t, els p = elsN p k ++ t := by
  have h : ∀ d k, k + d = 4 → ∃ t, els p = elsN p k ++ t := by
    intro d
    induction d with
    | zero => intro k hk; obtain rfl : k = 4 := by omega
              exact ⟨[], by simp [els, elsN]⟩
    | succ d ih =>
      intro k hk
      obtain ⟨t, ht⟩ := ih (k + 1) (by omega)
      exact ⟨onesAt k (wd p k) ++ t, by rw [ht, elsN_next, List.append_assoc]⟩
  exact fun {k} hk => h (4 - k) k (by omega)

theorem Tab.below {n₀ : Nat} {w w' : World} (h : Tab w) (hb : Below n₀ w w') (hg : 0 < n₀) : Tab w' := fun j hj => by
  rw [hb.cell (p := ⟨0, j, none⟩) hg]; exact h j hj

theorem index_any (a : Nat → Nat) {k : Nat} (hk : k < 4) (w : World) : (Instr.index 24 (.agg #[.int .u64 (a 0), .int .u64 (a 1), .int .u64 (a 2), .int .u64 (a 3)]) (.int .i64 (k : Int))).run Tryd.prog w = .ok (.int .u64 (a k)) w := by
  rcases (show k = 0 ∨ k = 1 ∨ k = 2 ∨ k = 3 by omega) with rfl | rfl | rfl | rfl
  · exact index_0 ..
  · exact index_1 ..
  · exact index_2 ..
  · exact index_3 ..

set_option maxRecDepth 100000 in
set_option maxHeartbeats 2000000 in
theorem iter_in (n : Nat) (hn : 1 ≤ n) (l Bn n₀ : Nat) (p : Nat → Bool) (hg : 0 < n₀) (J Jx : List Int → World → Prop)
    (hY : ∀ pre x W, J pre W → pre.length < (els p).length → YieldAt Fence.wide (n - 1) Tryd.prog l #[.int .i64 x] W fun e W' =>
      (e = .returned (.bool true) ∧ J (pre ++ [x]) W' ∧ Below n₀ W W') ∨ (e = .returned (.bool false) ∧ Jx (pre ++ [x]) W'))
    (W : World) (hB : Four W Bn (wd p 0) (wd p 1) (wd p 2) (wd p 3)) (hT : Tab W) (h0 : J [] W) :
    CallsIn Fence.wide n Tryd.prog 33 #[.func (.yield l) #[] #[], .pointer (some ⟨Bn, 0, none⟩)] W fun e W' => (∃ v, e = .returned v) ∧
      ((∃ ys, ys = els p ∧ J ys W') ∨ (∃ pre, pre <+: els p ∧ Jx pre W')) := by
  have HT := Lib.hid hT
  have HY := Lib.hid hY
  have HLt : Hid (∀ k, wd p k < 18446744073709551616) := wd_lt p
  have HNext : Hid (∀ k, elsN p (k + 1) = elsN p k ++ onesAt k (wd p k)) := elsN_next p
  have HPre : Hid (∀ k, k ≤ 4 → ∃ t, els p = elsN p k ++ t) := fun k hk => elsN_pre p hk
  have HE : Hid (els p = elsN p 4) := rfl
  have H0 : Hid (elsN p 0 = []) := rfl
  obtain ⟨b0, b1, b2, b3, _, _, _, _⟩ := hB
  clear hT hY
  generalize wd p = a at *
  generalize elsN p = ls at *
  refine callsIn_of_wp Tryd.func33 rfl trivial ?_ rfl
  simp only [Tryd.ntmps33, List.size_toArray, List.length_cons, List.length_nil, Nat.reduceAdd, Nat.reduceSub, Array.replicate_succ, Array.replicate_zero, List.push_toArray, List.append_toArray, List.nil_append, List.cons_append]
  gi_wp2
  gi_loopw [6] (fun i wr => ∃ k : Nat, k ≤ 4 ∧ i = .int .i64 k ∧ Hid (J (ls k) wr ∧ Tab wr)) (fun i _ => (4 - intOf i).toNat)
  case atStart => exact ⟨0, by omega, rfl, by show J (ls 0) W ∧ _; rw [H0.out]; exact ⟨h0, HT.out⟩⟩
  case round =>
    obtain ⟨k, hk, rfl, hJT⟩ := hrel
    clear b0 b1 b2 b3 h0
    by_cases hlt : k < 4
    · have hix := index_any a hlt
      have hkt : decide ((k : Int) < 4) = true := decide_eq_true (by omega)
      gi_wp2
      gi_loopw [4] (fun v wi => ∃ (x : Nat) (pre : List Int), v = .int .u64 x ∧ Hid (x < 18446744073709551616 ∧ ls (k + 1) = pre ++ onesAt k x ∧ J pre wi ∧ Tab wi)) (fun v _ => (ones (intOf v).toNat).length)
      case atStart => exact ⟨a k, ls k, rfl, ⟨HLt.out k, HNext.out k, hJT.out⟩⟩
      case round =>
        clear hix hJT
        obtain ⟨x, pre, rfl, hx⟩ := hrel
        by_cases hx0 : x = 0
        · subst hx0
          have HJ : Hid (J (ls (k + 1)) wr ∧ Tab wr) := by
            have e := hx.out.2.1
            rw [onesAt_zero, List.append_nil] at e
            show J (ls (k + 1)) wr ∧ Tab wr
            rw [e]; exact hx.out.2.2
          gi_wp2
          go_roundw
          case rel => exact ⟨k + 1, by omega, by go_num, HJ⟩
          case measure => simp [intOf]; omega
        · have hxl := hx.out.1
          obtain ⟨hj, hones⟩ := ones_next hx0 hxl
          have hnx := onesAt_next k hx0 hxl
          have hand : bits .and .u64 (x : Int) ((x : Int) - 1) = ((x &&& (x - 1) : Nat) : Int) := by
            rw [show (x : Int) - 1 = ((x - 1 : Nat) : Int) by omega]; exact and_nat _ _ hxl (by omega)
          have hwr : IntKind.u64.wrap ((x : Int) - 1) = (x : Int) - 1 := IntWalk.u64_in _ (by omega)
          have hz : ((x : Int) == 0) = false := by rw [beq_eq_false_iff_ne]; omega
          have hnl : x &&& (x - 1) < 18446744073709551616 := Nat.lt_of_le_of_lt Nat.and_le_left hxl
          have C := Lib.hid (fun w => low_any x hxl hx0 w)
          have hlen : pre.length < (els p).length := by
            obtain ⟨t, ht⟩ := HPre.out (k + 1) hlt
            rw [ht, hx.out.2.1, hnx]; simp
          have HP : Hid (pre ++ [(k : Int) * 64 + (Lib.ctz 64 x : Int)] <+: els p) := by
            obtain ⟨t, ht⟩ := HPre.out (k + 1) hlt
            show _ <+: _
            rw [ht, hx.out.2.1, hnx]
            exact ⟨onesAt k (x &&& (x - 1)) ++ t, by simp⟩
          have HEq : Hid (ls (k + 1) = (pre ++ [(k : Int) * 64 + (Lib.ctz 64 x : Int)]) ++ onesAt k (x &&& (x - 1))) := by
            show _ = _; rw [hx.out.2.1, hnx]; simp
          have HM : Hid ((ones (x &&& (x - 1))).length < (ones x).length) := by show _ < _; rw [hones]; simp
          obtain ⟨fn, tmps, assign, body, hy, hR⟩ := HY.out pre ((k : Int) * 64 + (Lib.ctz 64 x : Int)) wr hx.out.2.2.1 hlen
          have hR := Lib.hid hR
          have hTw := Lib.hid hx.out.2.2.2
          clear hones hnx hlen hxl hx hx0
          generalize Lib.ctz 64 x = j at hj C HP HEq hy hR
          generalize x &&& (x - 1) = x' at hand hnl HEq HM
          gi_wp2_with (refine ⟨trivial, ?_⟩; gi_at_call 34; (refine (callsIn_wide.2 (C.out _ hTw.out)).mono ?_); rintro e w' ⟨rfl, rfl⟩)
          refine hR.out.mono ?_
          rintro e W3 (⟨rfl, hJ3, hk3⟩ | ⟨rfl, hJx3⟩)
          · have HN : Hid (x' < 18446744073709551616 ∧ ls (k + 1) = (pre ++ [(k : Int) * 64 + (j : Int)]) ++ onesAt k x' ∧ J (pre ++ [(k : Int) * 64 + (j : Int)]) W3 ∧ Tab W3) := ⟨hnl, HEq.out, hJ3, hTw.out.below hk3 hg⟩
            clear hJ3 hk3
            gi_wp2
            go_roundw
            case rel => exact ⟨x', _, rfl, HN⟩
            case measure => simp [intOf]; exact HM.out
          · gi_wp2
            refine bodyPost_ret (results_none rfl _ _ _) rfl ?_
            exact ⟨⟨_, rfl⟩, .inr ⟨_, HP.out, hJx3⟩⟩
    · obtain rfl : k = 4 := by omega
      have HF : Hid (J (els p) wr) := by show J (els p) wr; rw [HE.out]; exact hJT.out.1
      gi_wp2
      go_end0
      exact ⟨⟨_, rfl⟩, .inl ⟨_, rfl, HF.out⟩⟩

/-- Where the set's function value lies. -/
theorem numbers_in (p : Nat → Bool) (n : Nat) (w : World) :
    CallsIn Fence.wide n Tryd.prog 31 #[.agg #[.int .u64 (wd p 0), .int .u64 (wd p 1), .int .u64 (wd p 2), .int .u64 (wd p 3)]] w fun e w' => e = .returned (.func (.func 33) #[] #[.pointer (some ⟨w.heap.size, 0, none⟩)]) ∧ w' = w.alloc (.cells #[.int .u64 (wd p 0), .int .u64 (wd p 1), .int .u64 (wd p 2), .int .u64 (wd p 3)] 24) := by
  have hmf : ∀ (fn : Fn) (first cap : Array Value) (w : World), (Instr.makeFunc fn first cap).run Tryd.prog w = .ok (.func fn first cap) w := fun _ _ _ _ => rfl
  refine callsIn_of_wp Tryd.func31 rfl trivial ?_ rfl
  simp only [Tryd.ntmps31, List.size_toArray, List.length_cons, List.length_nil, Nat.reduceAdd, Nat.reduceSub, Array.replicate_succ, Array.replicate_zero, List.push_toArray, List.append_toArray, List.nil_append, List.cons_append]
  gi_wp2
  go_ret
  exact ⟨rfl, rfl⟩

theorem iter_stops (n : Nat) (hn : 1 ≤ n) (Bn n₀ : Nat) (p : Nat → Bool) (w : World) (hg : 0 < n₀) (hn₀ : n₀ ≤ w.heap.size)
    (hB : Four w Bn (wd p 0) (wd p 1) (wd p 2) (wd p 3)) (hT : Tab w) :
    SeqStopsK Fence.wide n Tryd.prog 33 #[.pointer (some ⟨Bn, 0, none⟩)] (fun x : Int => #[Value.int .i64 x]) (Below n₀) (fun ys => ys = els p) (fun pre => pre <+: els p) (els p).length w := fun l J Jx W hW _ _ hY h0 =>
  iter_in n hn l Bn n₀ p hg J Jx hY W (hB.kept hW) (hT.below (hW.mono hn₀) hg) h0

end Go.Proofs.YtigafpmhgogpmaaDoor
