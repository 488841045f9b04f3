/-
  The walks over rows of tasks sorted by priority.
-/
import Derived.Test.YtknjldmpcokgfaaKW20
import Derived.Test.YtknjldmpcokgfaaKW14
namespace Go.Proofs.Ytknjldmpcokgfaa
open Go.RowKit Go.Maps Go.Shelf

set_option maxRecDepth 100000 in
set_option maxHeartbeats 2000000 in
theorem stable_any {w : World} {B blk cap : Nat} (d : Array TV) (h : OwnT w B (.slice (some ⟨blk, 0, none⟩) d.size cap) d.toList) (hd : d.size ≤ 19) :
    Calls Try.prog 57 #[.slice (some ⟨blk, 0, none⟩) d.size cap, .int .i64 d.size, .func (.func 45) #[] #[]] w (SortBack B blk cap d w) := by
  have eg : ∀ args w, (callFunc 45 args).run Try.prog w = .ok (.enter 45 args) w := enters_of Try.func45 (by kernel_rfl) rfl
  have hcon := AnyQ.insertionSortCmpFunc insLays 7 Try.isAgg25 Try.sizeOf25 TV.cells cells_len cells_one cmpP 45 #[] blk 0 cap 0 d.size d w eg (prioLays blk 0 d.size w) (holds_of h) (sorted_own h rfl 0 #[]).2.2.2 (Nat.zero_le _) (Nat.le_refl _) (by omega)
  change Calls Try.prog 59 #[.slice (some ⟨blk, 0, none⟩) d.size cap, .int .i64 0, .int .i64 d.size, .func (.func 45) #[] #[]] _ _ at hcon
  have C := Lib.hid hcon
  have D := Lib.hid (fun n os => sort_done h n os)
  have h1 : ¬ (20 : Int) ≤ (d.size : Int) := by omega
  have h2 : ¬ (20 : Int) < (d.size : Int) := by omega
  clear h hcon eg
  generalize d.size = n at *
  go_enter Try.func57, Try.ntmps57
  go_wp2
  refine wp_loop_rounds 1 ?_
  rw [rounds_succ]
  go_wp2_with (go_at_call 59; (with_reducible refine (C.out).mono ?_); rintro e w1 ⟨rfl, q, os, rfl⟩)
  refine wp_loop_rounds 1 ?_
  rw [rounds_succ]
  go_wp2
  go_end0
  exact D.out _ _

set_option maxRecDepth 100000 in
set_option maxHeartbeats 2000000 in
theorem sortf_any {w : World} {B blk cap : Nat} (d : Array TV) (h : OwnT w B (.slice (some ⟨blk, 0, none⟩) d.size cap) d.toList) (hd : d.size ≤ 19) :
    Calls Try.prog 44 #[.slice (some ⟨blk, 0, none⟩) d.size cap, .func (.func 45) #[] #[]] w (SortBack B blk cap d w) := by
  have C := Lib.hid (stable_any d h hd)
  clear h
  go_enter Try.func44, Try.ntmps44
  go_wp2_with (go_at_call 57; (with_reducible refine (C.out).mono ?_); rintro e w1 ⟨rfl, hs⟩; have HS := Lib.hid hs; clear hs)
  go_end0
  exact ⟨rfl, HS.out⟩
end Go.Proofs.Ytknjldmpcokgfaa
