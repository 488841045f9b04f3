/-
  The walks over a box: is there one; a new one; how many wait, how many more there is room for, is it open; it is shut.
-/
import Derived.Test.YtkcdblpaaldcaaaQMem
import Derived.Defers
import Derived.Tactics
import Derived.Tactics2
import Derived.RegionTactic
import Derived.ChangeAlike
namespace Go.Proofs.Ytkcdblpaaldcaaa
open Go.RowKit Go.Maps Go.Conc
attribute [local go_sem] chan_eq_some

set_option maxHeartbeats 1000000 in
theorem none_some {w : World} {b c : Nat} {d k : Int} {sh : Bool} (h : St w b c d k sh) : Calls Try.prog 25 #[.pointer (some ⟨b, 0, none⟩)] w fun r w' => r = .returned (.bool false) ∧ w = w' := by
  obtain ⟨c0, c2, c4, c5⟩ := h.cells
  clear h
  go_enter Try.func25, Try.ntmps25
  go_wp2
  go_ret
  exact ⟨rfl, rfl⟩
set_option maxHeartbeats 1000000 in
theorem none_nil (w : World) : Calls Try.prog 25 #[.pointer none] w fun r w' => r = .returned (.bool true) ∧ w = w' := by
  go_enter Try.func25, Try.ntmps25
  go_wp2
  go_ret
  exact ⟨rfl, rfl⟩

theorem mk_chan (n : Nat) (hn : (n : Int) ≤ 1000) (w : World) : (Instr.makeChan 48 (.int .i64 n)).run Try.prog w = .ok (.chan (some w.heap.size)) (w.alloc (.chan n #[] false 0 0 false)) := by
  have h : (Try.prog.info? 31).map (·.bytes) = some 16 := by kernel_rfl
  obtain ⟨i, hi, hb⟩ := Option.map_eq_some_iff.1 h
  simpa using run_makeChan (P := Try.prog) (w := w) Try.underlying48 hi .i64 n (by omega) (by rw [hb]; omega)

set_option maxRecDepth 100000 in
set_option maxHeartbeats 1000000 in
theorem new_some (n : Nat) (h1 : 1 ≤ (n : Int)) (h2 : (n : Int) ≤ 1000) (w : World) : Calls Try.prog 10 #[.int .i64 n] w fun r w' => ∃ b c, r = .returned (.pointer (some ⟨b, 0, none⟩)) ∧ Box w' b c n [] false ∧ Below w.heap.size w w' ∧ ∀ k, Two b c k → w.heap.size ≤ k := by
  have hmc := mk_chan n h2
  go_enter Try.func10, Try.ntmps10
  go_wp2
  go_ret
  refine ⟨w.heap.size + 1, w.heap.size, rfl, ⟨?_, ⟨0, 0, ?_⟩, by simp, by omega⟩, ((Below.refl _ _).alloc (Nat.le_refl _) _).alloc (by simp) _, fun j hk => by rcases hk with rfl | rfl <;> omega⟩
  · have := heap_alloc_new (w.alloc (.chan n #[] false 0 0 false)) (.cells #[.int .i32 0, .int .u32 0, .int .i32 0, .int .u32 0, .chan (some w.heap.size), .bool false] 57)
    rwa [World.size_alloc] at this
  · rw [Below.heap_alloc _ _ _ (by simp)]
    exact heap_alloc_new w _
set_option maxHeartbeats 1000000 in
theorem new_none (n : Int) (h : n < 1 ∨ 1000 < n) (w : World) : Calls Try.prog 10 #[.int .i64 n] w fun r w' => r = .returned (.pointer none) ∧ w = w' := by
  by_cases h1 : n < 1
  · clear h
    go_enter Try.func10, Try.ntmps10
    go_wp2
    go_ret
    exact ⟨rfl, rfl⟩
  · have h2 : 1000 < n := by omega
    have h3 : 1 ≤ n := by omega
    clear h h1
    go_enter Try.func10, Try.ntmps10
    go_wp2
    go_ret
    exact ⟨rfl, rfl⟩

/-- What a call that only looks leaves. -/
def LooksD (w : World) (d : Int) (b c n : Nat) (l : List Req) (sh : Bool) (w' : World) : Prop := BoxD w' d b c n l sh ∧ Turn (Two b c) w w'
abbrev Looks (w : World) (b c n : Nat) (l : List Req) (sh : Bool) (w' : World) : Prop := LooksD w 0 b c n l sh w'
theorem looks_of {w w1 w2 : World} {d : Int} {b c n : Nat} {l : List Req} {sh : Bool} (h : BoxD w d b c n l sh) (t1 : Turn (fun k => k = b) w w1) (s2 : St w2 b c d 0 sh) (t2 : Turn (fun k => k = b) w1 w2) : LooksD w d b c n l sh w2 :=
  ⟨⟨s2, (h.chan.kept t1 h.ne).kept t2 h.ne, h.room, h.few⟩, (t1.then t2).mono fun k _ q => .inl q⟩

set_option maxRecDepth 100000 in
set_option maxHeartbeats 1000000 in
theorem len_some {w : World} {b c n : Nat} {l : List Req} {sh : Bool} (h : Box w b c n l sh) : Calls Try.prog 21 #[.pointer (some ⟨b, 0, none⟩)] w fun r w' => r = .returned (.int .i64 l.length) ∧ Looks w b c n l sh w' := by
  have CN := none_some h.str
  have CL := lock_low h.str
  have HH := Lib.hid h
  obtain ⟨c0, c2, c4, c5⟩ := h.str.cells
  clear h
  go_enter_defers Try.func21, Try.ntmps21
  go_wp2_with (first
    | (go_at_call 25; refine CN.mono ?_; rintro e w' ⟨rfl, rfl⟩)
    | (go_at_call 26; refine CL.mono ?_; rintro e w1 ⟨rfl, hs1, ht1⟩; obtain ⟨s, r, hc1⟩ := HH.out.chan.kept ht1 HH.out.ne; have hlen := fun ty => run_len_chan (P := Try.prog) 48 ty Try.underlying48 hc1; rw [bufV_size] at hlen; have HS := Lib.hid hs1; have HT := Lib.hid ht1; obtain ⟨e0, e2, e4, e5⟩ := hs1.cells; clear hs1 ht1 hc1))
  refine leaves_cons (f := 27) (args := #[.pointer (some ⟨b, 2, none⟩)]) (by simp) (by simp [go_sem]) ?_
  refine (unlock_low .returning HS.out).mono ?_
  rintro e u' w2 ⟨rfl, rfl, hs2, ht2⟩
  exact ⟨_, results_tmp rfl _ _ _, rfl, looks_of HH.out HT.out hs2 ht2⟩

set_option maxRecDepth 100000 in
set_option maxHeartbeats 1000000 in
theorem open_some {w : World} {b c n : Nat} {l : List Req} {sh : Bool} (h : Box w b c n l sh) : Calls Try.prog 24 #[.pointer (some ⟨b, 0, none⟩)] w fun r w' => r = .returned (.bool (!sh)) ∧ Looks w b c n l sh w' := by
  have CN := none_some h.str
  have CL := lock_low h.str
  have HH := Lib.hid h
  obtain ⟨c0, c2, c4, c5⟩ := h.str.cells
  clear h
  go_enter_defers Try.func24, Try.ntmps24
  go_wp2_with (first
    | (go_at_call 25; refine CN.mono ?_; rintro e w' ⟨rfl, rfl⟩)
    | (go_at_call 26; refine CL.mono ?_; rintro e w1 ⟨rfl, hs1, ht1⟩; have HS := Lib.hid hs1; have HT := Lib.hid ht1; obtain ⟨e0, e2, e4, e5⟩ := hs1.cells; clear hs1 ht1))
  refine leaves_cons (f := 27) (args := #[.pointer (some ⟨b, 2, none⟩)]) (by simp) (by simp [go_sem]) ?_
  refine (unlock_low .returning HS.out).mono ?_
  rintro e u' w2 ⟨rfl, rfl, hs2, ht2⟩
  exact ⟨_, results_tmp rfl _ _ _, rfl, looks_of HH.out HT.out hs2 ht2⟩

set_option maxRecDepth 100000 in
set_option maxHeartbeats 1000000 in
theorem room_some {w : World} {d : Int} {b c n : Nat} {l : List Req} {sh : Bool} (h : BoxD w d b c n l sh) : Calls Try.prog 22 #[.pointer (some ⟨b, 0, none⟩)] w fun r w' => r = .returned (.int .i64 (if sh then 0 else (n : Int) - l.length)) ∧ LooksD w d b c n l sh w' := by
  have CN := none_some h.str
  have CL := lock_low h.str
  have HH := Lib.hid h
  obtain ⟨c0, c2, c4, c5⟩ := h.str.cells
  have hw : IntKind.i64.wrap ((n : Int) - (l.length : Int)) = (n : Int) - l.length := IntWalk.i64_in _ (by have := h.room; have := h.few; omega)
  clear h
  cases sh
  · go_enter_defers Try.func22, Try.ntmps22
    go_wp2_with (first
      | (go_at_call 25; refine CN.mono ?_; rintro e w' ⟨rfl, rfl⟩)
      | (go_at_call 26; refine CL.mono ?_; rintro e w1 ⟨rfl, hs1, ht1⟩; obtain ⟨s, r, hc1⟩ := HH.out.chan.kept ht1 HH.out.ne; have hlen := fun ty => run_len_chan (P := Try.prog) (w := w1.drew) 48 ty Try.underlying48 hc1; rw [bufV_size] at hlen; have hcap := fun ty => run_cap_chan (P := Try.prog) (w := w1.drew) 48 ty Try.underlying48 hc1; clear hc1; have HS := Lib.hid hs1; have HT := Lib.hid ht1; obtain ⟨e0, e2, e4, e5⟩ := hs1.cells; clear hs1 ht1))
    go_region
    go_wp2
    refine leaves_cons (f := 27) (args := #[.pointer (some ⟨b, 2, none⟩)]) (by simp) (by simp [go_sem]) ?_
    refine (unlock_low (w := w1.drew) .returning HS.out).mono ?_
    rintro e u' w2 ⟨rfl, rfl, hs2, ht2⟩
    exact ⟨_, results_tmp rfl _ _ _, rfl, looks_of HH.out HT.out.drew hs2 ht2⟩
  · go_enter_defers Try.func22, Try.ntmps22
    go_wp2_with (first
      | (go_at_call 25; refine CN.mono ?_; rintro e w' ⟨rfl, rfl⟩)
      | (go_at_call 26; refine CL.mono ?_; rintro e w1 ⟨rfl, hs1, ht1⟩; have HS := Lib.hid hs1; have HT := Lib.hid ht1; obtain ⟨e0, e2, e4, e5⟩ := hs1.cells; clear hs1 ht1))
    refine leaves_cons (f := 27) (args := #[.pointer (some ⟨b, 2, none⟩)]) (by simp) (by simp [go_sem]) ?_
    refine (unlock_low .returning HS.out).mono ?_
    rintro e u' w2 ⟨rfl, rfl, hs2, ht2⟩
    exact ⟨_, results_tmp rfl _ _ _, rfl, looks_of HH.out HT.out hs2 ht2⟩

/-- What shutting leaves. -/
def Shuts (w : World) (b c n : Nat) (l : List Req) (w' : World) : Prop := Box w' b c n l true ∧ Turn (Two b c) w w'
set_option maxRecDepth 100000 in
set_option maxHeartbeats 1000000 in
theorem shut_some {w : World} {b c n : Nat} {l : List Req} {sh : Bool} (h : Box w b c n l sh) : Calls Try.prog 18 #[.pointer (some ⟨b, 0, none⟩)] w fun r w' => r = .returned (.bool (!sh)) ∧ Shuts w b c n l w' := by
  have CN := none_some h.str
  have CD := lock_door h.str
  have HH := Lib.hid h
  obtain ⟨c0, c2, c4, c5⟩ := h.str.cells
  clear h
  go_enter_defers Try.func18, Try.ntmps18
  go_wp2_with (first
    | (go_at_call 25; refine CN.mono ?_; rintro e w' ⟨rfl, rfl⟩)
    | (go_at_call 26; refine CD.mono ?_; rintro e w1 ⟨rfl, hs1, ht1⟩; have CL := lock_low hs1; clear CD; clear hs1)
    | (go_at_call 26; refine CL.mono ?_; rintro e w2 ⟨rfl, hs2, ht2⟩; have HT := Lib.hid (ht1.then ht2); have HS := Lib.hid hs2; have f5 := hs2.free 5; obtain ⟨e0, e2, e4, e5⟩ := hs2.cells; clear hs2 ht1 ht2))
  have hs3 : St (w2.setCell ⟨b, 5, none⟩ (.bool true)) b c 1 1 true := (blk_set HS.out _).trans rfl
  have ht3 := HT.out.then (turn_set (w := w2) (b := b) (o := 5) (.bool true))
  clear e0 e2 e4 e5 f5
  refine leaves_cons (f := 27) (args := #[.pointer (some ⟨b, 2, none⟩)]) (by simp) (by simp [go_sem]) ?_
  refine (unlock_low .returning hs3).mono ?_
  rintro e u' w4 ⟨rfl, rfl, hs4, ht4⟩
  refine leaves_cons (f := 27) (args := #[.pointer (some ⟨b, 0, none⟩)]) (by simp [settle]) (by simp [go_sem]) ?_
  refine (unlock_door _ hs4).mono ?_
  rintro e u' w5 ⟨rfl, rfl, hs5, ht5⟩
  have ht := (ht3.then ht4).then ht5
  exact ⟨_, results_tmp rfl _ _ _, rfl, ⟨hs5, HH.out.chan.kept ht HH.out.ne, HH.out.room, HH.out.few⟩, ht.mono fun k _ q => .inl q⟩

set_option maxHeartbeats 1000000 in
theorem len_nil (w : World) : Calls Try.prog 21 #[.pointer none] w fun r w' => r = .returned (.int .i64 0) ∧ w = w' := by
  go_enter_defers Try.func21, Try.ntmps21
  go_wp2_with (go_at_call 25; refine (none_nil _).mono ?_; rintro e w' ⟨rfl, rfl⟩)
  exact ⟨_, results_tmp rfl _ _ _, rfl, rfl⟩

set_option maxHeartbeats 1000000 in
theorem open_nil (w : World) : Calls Try.prog 24 #[.pointer none] w fun r w' => r = .returned (.bool false) ∧ w = w' := by
  go_enter_defers Try.func24, Try.ntmps24
  go_wp2_with (go_at_call 25; refine (none_nil _).mono ?_; rintro e w' ⟨rfl, rfl⟩)
  exact ⟨_, results_tmp rfl _ _ _, rfl, rfl⟩

set_option maxHeartbeats 1000000 in
theorem room_nil (w : World) : Calls Try.prog 22 #[.pointer none] w fun r w' => r = .returned (.int .i64 0) ∧ w = w' := by
  go_enter_defers Try.func22, Try.ntmps22
  go_wp2_with (go_at_call 25; refine (none_nil _).mono ?_; rintro e w' ⟨rfl, rfl⟩)
  exact ⟨_, results_tmp rfl _ _ _, rfl, rfl⟩

set_option maxHeartbeats 1000000 in
theorem shut_nil (w : World) : Calls Try.prog 18 #[.pointer none] w fun r w' => r = .returned (.bool false) ∧ w = w' := by
  go_enter_defers Try.func18, Try.ntmps18
  go_wp2_with (go_at_call 25; refine (none_nil _).mono ?_; rintro e w' ⟨rfl, rfl⟩)
  exact ⟨_, results_tmp rfl _ _ _, rfl, rfl⟩
end Go.Proofs.Ytkcdblpaaldcaaa
