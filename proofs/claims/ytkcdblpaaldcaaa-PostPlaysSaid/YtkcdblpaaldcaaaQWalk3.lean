/-
  The walks over requests that are added to a box.
-/
import Derived.Test.YtkcdblpaaldcaaaQWalk2
import Derived.Deep.LoopGhost
namespace Go.Proofs.Ytkcdblpaaldcaaa
open Go.RowKit Go.Maps Go.Conc
attribute [local go_sem] chan_eq_some

/-- Where the rounds of adding stand: k are in. -/
structure Adding (w : World) (d : Int) (b c n : Nat) (q l : List Req) (a : Option Addr) (k : Nat) (w' : World) : Prop where
  str : St w' b c d 1 false
  chan : Ch w' c n (q ++ l.take k)
  view : View w' a l
  turn : Turn (Two b c) w w'

theorem adding_at {w wr : World} {d : Int} {b c n k : Nat} {q l : List Req} {a : Option Addr} (h : Adding w d b c n q l a k wr) (hk : k < l.length) : ∃ (x : Req) (g o : Nat), l[k]? = some x ∧ a = some ⟨g, o, none⟩ ∧ wr.cell? ⟨g, o + k * 2, none⟩ = some (.int .i64 x.1) ∧ wr.cell? ⟨g, o + k * 2 + 1, none⟩ = some (.int .i64 x.2) := by
  obtain ⟨x, hx⟩ : ∃ x, l[k]? = some x := ⟨l[k], by simp [hk]⟩
  obtain ⟨g, o, h1, h2, h3⟩ := h.view.at_ hx
  exact ⟨x, g, o, hx, h1, h2, h3⟩
theorem take_next {l : List Req} {k : Nat} {x : Req} (hx : l[k]? = some x) : l.take (k + 1) = l.take k ++ [x] := by
  rw [List.take_add_one, hx]; rfl
/-- A channel's block bears no cells. -/
theorem View.ne {w : World} {g o c n : Nat} {l q : List Req} (h : View w (some ⟨g, o, none⟩) l) (hl : l ≠ []) (hc : Ch w c n q) : g ≠ c := by
  rintro rfl
  rcases h with rfl | ⟨g', o', e, hcell⟩
  · exact hl rfl
  · cases e
    cases l with
    | nil => exact hl rfl
    | cons x l =>
      have := hcell 0 _ rfl
      obtain ⟨s, r, hc⟩ := hc
      simp [World.cell?, hc] at this
theorem adding_next {w wr w1 w2 : World} {d : Int} {b c n k : Nat} {q l : List Req} {a : Option Addr} {x : Req} (h : Adding w d b c n q l a k wr) (hx : l[k]? = some x) (hcl : c < w.heap.size) (hb : Below wr.heap.size wr w1) (hc : Ch w2 c n (q ++ l.take k ++ [x])) (ht : Turn (fun j => j = c) w1 w2) : Adding w d b c n q l a (k + 1) w2 := by
  have t1 : Turn (fun j => j = c) wr w1 := Turn.of_below hb
  have ht2 := t1.then ht
  have hne := h.str.ne h.chan
  refine ⟨h.str.kept ht2 (fun q => hne q.symm), ?_, ?_, h.turn.trans ht2 (fun _ _ q => .inr q)⟩
  · rw [take_next hx, ← List.append_assoc]; exact hc
  · refine h.view.kept ht2 (fun g o e hl => ?_)
    subst e
    exact h.view.ne hl h.chan

theorem add_done {w w1 w2 : World} {d : Int} {b c n : Nat} {q l' : List Req} {sh : Bool} (h : BoxD w d b c n q sh) (hc : Ch w1 c n l') (ht : Turn (Two b c) w w1) (hl : l'.length ≤ n) (hs : St w2 b c d 0 sh) (ht2 : Turn (fun k => k = b) w1 w2) : LooksD w d b c n l' sh w2 :=
  ⟨⟨hs, hc.kept ht2 h.ne, hl, h.few⟩, ht.trans ht2 (fun _ _ q => .inl q)⟩

set_option maxRecDepth 100000 in
set_option maxHeartbeats 2000000 in
theorem add_some {w : World} {d : Int} {b c n m cap : Nat} {q l : List Req} {a : Option Addr} (h : BoxD w d b c n q false) (hv : View w a l) (hlen : l.length = m) (hm : (m : Int) ≤ 1000000) (hab : ∀ g o, a = some ⟨g, o, none⟩ → l ≠ [] → g ≠ b) :
    Calls Try.prog 28 #[.pointer (some ⟨b, 0, none⟩), .slice a m cap] w fun r w' => r = .returned (.bool (decide (q.length + m ≤ n))) ∧ LooksD w d b c n ((q ++ l).take n) false w' := by
  have CL := lock_low h.str
  have HH := Lib.hid h
  have HV := Lib.hid hv
  have HL := Lib.hid hlen
  have HAB := Lib.hid hab
  have hcl := h.chan.lt
  clear h hv hlen hab
  go_enter_defers Try.func28, Try.ntmps28
  go_wp2_with (go_at_call 26; refine CL.mono ?_; rintro e w1 ⟨rfl, hs1, ht1⟩; have HA : Hid (Adding w d b c n q l a 0 w1) := ⟨hs1, by simpa using HH.out.chan.kept ht1 HH.out.ne, HV.out.kept ht1 HAB.out, ht1.mono fun _ _ q => .inl q⟩; obtain ⟨e0, e2, e4, e5⟩ := hs1.cells; clear hs1 ht1)
  clear CL e0 e2 e4 e5
  go_loopw [20] (fun u wr => ∃ k : Nat, k ≤ m ∧ u = .int .i64 k ∧ q.length + k ≤ n ∧ Hid (Adding w d b c n q l a k wr)) (fun u _ => (m - intOf u).toNat)
  case atStart => exact ⟨0, by omega, rfl, HH.out.room, HA⟩
  case round =>
    obtain ⟨k, hk, rfl, hkn, HP⟩ := hrel
    clear HA
    by_cases hlt : k < m
    · obtain ⟨x, g, o, hx, rfl, o0, o1⟩ := adding_at HP.out (by rw [HL.out]; exact hlt)
      have HX := Lib.hid hx
      obtain ⟨e0, e2, e4, e5⟩ := HP.out.str.cells
      have hbw := HP.out.str.lt
      have hgw := block_of_cell o0
      have hk1 : (k : Int) < (m : Int) := by omega
      have hk0 : (0 : Int) ≤ (k : Int) := by omega
      have HC := Lib.hid (HP.out.chan.kept (Turn.of_below (S := fun _ => False) ((Below.refl _ _).alloc (Nat.le_refl _) (.cells #[.int .i64 x.1, .int .i64 x.2] 31))) (fun z => z))
      have hlq : (q ++ l.take k).length = q.length + k := by rw [List.length_append, List.length_take, HL.out]; omega
      have HQ := Lib.hid hlq
      clear hx hlq
      go_upto_region 10 with (fail)
      by_cases hroom : q.length + k < n
      · refine sel_send (x := x) rfl HC.out (by rw [HQ.out]; exact hroom) (by simp [go_sem, execOp, scase, Act.eval, zReq]) ?_
        intro w2 hc2 ht2
        have HP2 := Lib.hid (adding_next HP.out HX.out hcl ((Below.refl _ _).alloc (Nat.le_refl _) _) hc2 ht2)
        clear hc2 ht2 e0 e2 e4 e5 o0 o1
        go_wp2
        go_roundw
        case rel => exact ⟨k + 1, by omega, by go_num, by omega, HP2⟩
        case measure => simp [intOf]; omega
      · refine sel_full (x := x) rfl HC.out (by rw [HQ.out]; omega) (by simp [go_sem, execOp, scase, Act.eval, zReq]) ?_
        have hb1 : Below wr.heap.size wr (wr.alloc (.cells #[.int .i64 x.1, .int .i64 x.2] 31)) := (Below.refl _ _).alloc (Nat.le_refl _) _
        have hs1 := HP.out.str.kept (Turn.of_below (S := fun _ => False) hb1) (fun z => z)
        have ht1 := HP.out.turn.then (Turn.of_below hb1)
        have HS1 := Lib.hid hs1
        have HT1 := Lib.hid ht1
        clear hs1 ht1 hb1 e0 e2 e4 e5 o0 o1
        go_wp2
        refine leaves_cons (f := 27) (args := #[.pointer (some ⟨b, 2, none⟩)]) (by simp) (by simp [go_sem]) ?_
        refine (unlock_low .returning HS1.out).mono ?_
        rintro e u' w4 ⟨rfl, rfl, hs4, ht4⟩
        have he : (q ++ l).take n = q ++ l.take k := by
          have hqn := HH.out.room
          rw [List.take_append, List.take_of_length_le hqn, show n - q.length = k by omega]
        have hd : decide (q.length + m ≤ n) = false := by simp; omega
        rw [he]
        try rw [hd]
        exact ⟨_, results_tmp rfl _ _ _, rfl, add_done HH.out HC.out HT1.out (by rw [HQ.out]; omega) hs4 ht4⟩
    · obtain rfl : k = m := by omega
      have hk1 : ¬ (k : Int) < (k : Int) := by omega
      have hs1 := HP.out.str
      have HS1 := Lib.hid hs1
      clear hs1
      go_wp2
      refine leaves_cons (f := 27) (args := #[.pointer (some ⟨b, 2, none⟩)]) (by simp) (by simp [go_sem]) ?_
      refine (unlock_low .returning HS1.out).mono ?_
      rintro e u' w4 ⟨rfl, rfl, hs4, ht4⟩
      have he : (q ++ l).take n = q ++ l.take k := by
        rw [List.take_of_length_le (by rw [List.length_append, HL.out]; exact hkn), List.take_of_length_le (by rw [HL.out]; exact Nat.le_refl _)]
      have hd : decide (q.length + k ≤ n) = true := by simp; omega
      rw [he]
      try rw [hd]
      exact ⟨_, results_tmp rfl _ _ _, rfl, add_done HH.out HP.out.chan HP.out.turn (by rw [List.length_append, List.length_take, HL.out]; omega) hs4 ht4⟩

set_option maxRecDepth 100000 in
set_option maxHeartbeats 1000000 in
theorem add_shut {w : World} {d : Int} {b c n m cap : Nat} {q : List Req} {a : Option Addr} (h : BoxD w d b c n q true) :
    Calls Try.prog 28 #[.pointer (some ⟨b, 0, none⟩), .slice a m cap] w fun r w' => r = .returned (.bool false) ∧ LooksD w d b c n q true w' := by
  have CL := lock_low h.str
  have HH := Lib.hid h
  clear h
  go_enter_defers Try.func28, Try.ntmps28
  go_wp2_with (go_at_call 26; refine CL.mono ?_; rintro e w1 ⟨rfl, hs1, ht1⟩; have HS := Lib.hid hs1; have HT := Lib.hid ht1; obtain ⟨e0, e2, e4, e5⟩ := hs1.cells; clear hs1 ht1)
  refine leaves_cons (f := 27) (args := #[.pointer (some ⟨b, 2, none⟩)]) (by simp) (by simp [go_sem]) ?_
  refine (unlock_low .returning HS.out).mono ?_
  rintro e u' w2 ⟨rfl, rfl, hs2, ht2⟩
  exact ⟨_, results_tmp rfl _ _ _, rfl, looks_of HH.out HT.out hs2 ht2⟩

/-- What a request put leaves: it waits, if there was room. -/
def putL (n : Nat) (q : List Req) (sh : Bool) (x : Req) : List Req := if sh = false ∧ q.length < n then q ++ [x] else q
def putB (n : Nat) (q : List Req) (sh : Bool) : Bool := decide (sh = false ∧ q.length < n)

theorem one_view (w : World) (x : Req) : View (w.alloc (.cells #[.int .i64 x.1, .int .i64 x.2] 31)) (some ⟨w.heap.size, 0, none⟩) [x] := by
  refine .inr ⟨_, _, rfl, fun j u hj => ?_⟩
  rw [Nat.zero_add, World.cell?_alloc_new]
  match j, hj with
  | 0, hj => simpa [flat] using hj
  | 1, hj => simpa [flat] using hj
  | j + 2, hj => simp [flat] at hj

/-- A request added, its row made ahead. -/
theorem add_one {w : World} {d : Int} {b c n : Nat} {q : List Req} {sh : Bool} {x : Req} (h : BoxD w d b c n q sh) {g : Nat} (hv : View w (some ⟨g, 0, none⟩) [x]) (hg : g ≠ b) :
    Calls Try.prog 28 #[.pointer (some ⟨b, 0, none⟩), .slice (some ⟨g, 0, none⟩) 1 1] w fun r w' => r = .returned (.bool (putB n q sh)) ∧ LooksD w d b c n (putL n q sh x) sh w' := by
  cases sh with
  | true =>
    refine (add_shut h).mono fun e w' he => ?_
    simpa [putB, putL] using he
  | false =>
    refine (add_some (m := 1) (cap := 1) h hv rfl (by omega) (fun g' o e _ => by cases e; exact hg)).mono fun e w' he => ?_
    have h1 : decide (q.length + 1 ≤ n) = putB n q false := by simp [putB]; omega
    have h2 : (q ++ [x]).take n = putL n q false x := by
      unfold putL
      have := h.room
      by_cases hq : q.length < n
      · rw [if_pos ⟨rfl, hq⟩, List.take_of_length_le (by simp; omega)]
      · rw [if_neg (fun z => hq z.2), List.take_append, List.take_of_length_le this, show n - q.length = 0 by omega]; simp
    rw [← h1, ← h2]
    exact he

theorem put_held {w w1 : World} {b c n : Nat} {q : List Req} {sh : Bool} {o : Obj} (h : Box w b c n q sh) (t : Turn (fun k => k = b) (w.alloc o) w1) (s : St w1 b c 1 0 sh) (o' : Obj) : BoxD (w1.alloc o') 1 b c n q sh :=
  have hb : Below w1.heap.size w1 (w1.alloc o') := (Below.refl _ _).alloc (Nat.le_refl _) _
  have h1 : BoxD w1 1 b c n q sh := ⟨s, (h.chan.kept (Turn.of_below (S := fun _ => False) ((Below.refl _ _).alloc (Nat.le_refl _) o)) (fun z => z)).kept t h.ne, h.room, h.few⟩
  h1.below hb
theorem put_done {w w1 w2 w4 : World} {b c n : Nat} {q q' : List Req} {sh : Bool} {o o' : Obj} (h : Box w b c n q sh) (t : Turn (fun k => k = b) (w.alloc o) w1) (l : LooksD (w1.alloc o') 1 b c n q' sh w2) (s4 : St w4 b c 0 0 sh) (t4 : Turn (fun k => k = b) w2 w4) : Looks w b c n q' sh w4 := by
  have a0 : Turn (Two b c) w (w.alloc o) := Turn.of_below ((Below.refl _ _).alloc (Nat.le_refl _) o)
  have a1 := a0.trans t (fun _ _ z => .inl z)
  have a2 := (a1.alloc o').then l.2
  exact ⟨⟨s4, l.1.chan.kept t4 h.ne, l.1.room, h.few⟩, a2.trans t4 (fun _ _ z => .inl z)⟩

set_option maxRecDepth 100000 in
set_option maxHeartbeats 1000000 in
theorem put_some {w : World} {b c n : Nat} {q : List Req} {sh : Bool} (x y : Int) (h : Box w b c n q sh) :
    Calls Try.prog 19 #[.pointer (some ⟨b, 0, none⟩), .agg #[.int .i64 x, .int .i64 y]] w fun r w' => r = .returned (.bool (putB n q sh)) ∧ Looks w b c n (putL n q sh (x, y)) sh w' := by
  have HN := Lib.hid (fun w' hb => none_some (h.below (w' := w') hb).str)
  have HD := Lib.hid (fun w' hb => lock_door (h.below (w' := w') hb).str)
  have HH := Lib.hid h
  have hbl := h.str.lt
  clear h
  go_enter_defers Try.func19, Try.ntmps19
  go_wp2_with (first
    | (go_at_call 25; refine (HN.out _ ((Below.refl _ _).alloc (Nat.le_refl _) _)).mono ?_; rintro e w' ⟨rfl, rfl⟩)
    | (go_at_call 26; refine (HD.out _ ((Below.refl _ _).alloc (Nat.le_refl _) _)).mono ?_; rintro e w1 ⟨rfl, hs1, ht1⟩; have HO := Lib.hid (new_block hbl ht1); have n0 : w1.cell? ⟨w.heap.size, 0, none⟩ = some (.int .i64 x) := (by rw [blk_cell HO.out]; rfl); have n1 : w1.cell? ⟨w.heap.size, 1, none⟩ = some (.int .i64 y) := (by rw [blk_cell HO.out]; rfl); have HS := Lib.hid hs1; have HT := Lib.hid ht1; clear hs1 ht1)
    | (go_at_call 28; refine (add_one (x := (x, y)) (put_held HH.out HT.out HS.out _) (one_view _ _) (by have := HS.out.lt; omega)).mono ?_; rintro e w2 ⟨rfl, h2⟩; have H2 := Lib.hid h2; clear h2))
  refine leaves_cons (f := 27) (args := #[.pointer (some ⟨b, 0, none⟩)]) (by simp) (by simp [go_sem]) ?_
  refine (unlock_door .returning H2.out.1.str).mono ?_
  rintro e u' w4 ⟨rfl, rfl, hs4, ht4⟩
  exact ⟨_, results_tmp rfl _ _ _, rfl, put_done HH.out HT.out H2.out hs4 ht4⟩

set_option maxHeartbeats 1000000 in
theorem put_nil (x y : Int) (w : World) : Calls Try.prog 19 #[.pointer none, .agg #[.int .i64 x, .int .i64 y]] w fun r w' => r = .returned (.bool false) ∧ Below w.heap.size w w' := by
  go_enter_defers Try.func19, Try.ntmps19
  go_wp2_with (go_at_call 25; refine (none_nil _).mono ?_; rintro e w' ⟨rfl, rfl⟩)
  exact ⟨_, results_tmp rfl _ _ _, rfl, (Below.refl _ _).alloc (Nat.le_refl _) _⟩
set_option maxHeartbeats 1000000 in
theorem take_nil (w : World) : Calls Try.prog 11 #[.pointer none] w fun r w' => r = .returned (.tuple #[.agg #[.int .i64 0, .int .i64 0], .bool false]) ∧ Below w.heap.size w w' := by
  go_enter_defers Try.func11, Try.ntmps11
  go_wp2_with (go_at_call 25; refine (none_nil _).mono ?_; rintro e w' ⟨rfl, rfl⟩)
  simp [bodyPostD, Leaves, settle, results, Try.results11, go_sem]
  exact (Below.refl _ _).alloc (Nat.le_refl _) _
end Go.Proofs.Ytkcdblpaaldcaaa
