/-
  Two boxes, and the document's own two: what each step answers.
-/
import Derived.Test.YtkcdblpaaldcaaaQPlay
namespace Go.Proofs.Ytkcdblpaaldcaaa
open Go.RowKit Go.Maps Go.Conc

/-- A step's five cells. -/
def opC (kd nn tk dm : Int) (nr : Bool) : Array Value := #[.int .i64 kd, .int .i64 nn, .int .i64 tk, .int .i64 dm, .bool nr]

section
variable {W w w' : World} {b c b2 c2 rb sb n1 n2 ob : Nat} {q q2 p p2 : List Req} {sh ph : Bool} {v v2 : Value} {oo : Array Value}

theorem PlayO.o {kd nn tk dm : Int} {nr : Bool} (h : PlayO W w b c b2 c2 rb sb n1 n2 q q2 sh p p2 ph v v2 ob (opC kd nn tk dm nr)) :
    w.cell? ⟨ob, 0, none⟩ = some (.int .i64 kd) ∧ w.cell? ⟨ob, 1, none⟩ = some (.int .i64 nn) ∧ w.cell? ⟨ob, 2, none⟩ = some (.int .i64 tk) ∧ w.cell? ⟨ob, 3, none⟩ = some (.int .i64 dm) ∧ w.cell? ⟨ob, 4, none⟩ = some (.bool nr) :=
  ⟨by rw [blk_cell h.obj]; rfl, by rw [blk_cell h.obj]; rfl, by rw [blk_cell h.obj]; rfl, by rw [blk_cell h.obj]; rfl, by rw [blk_cell h.obj]; rfl⟩

/-- A request taken. -/
theorem take_step (W : World) (b c b2 c2 rb sb n1 n2 ob : Nat) (oo : Array Value) (q q2 : List Req) (sh : Bool) : ∃ (x y : Int) (bb : Bool) (q' : List Req),
    (∀ w v v2, PlayO W w b c b2 c2 rb sb n1 n2 q q2 sh q q2 sh v v2 ob oo → Calls Try.prog 11 #[.pointer (some ⟨b, 0, none⟩)] w fun r w' => r = .returned (.tuple #[.agg #[.int .i64 x, .int .i64 y], .bool bb]) ∧ PlayO W w' b c b2 c2 rb sb n1 n2 q' q2 sh q q2 sh v v2 ob oo) ∧
    (∀ w v v2, PlayO W w b c b2 c2 rb sb n1 n2 q' q2 sh q q2 sh v v2 ob oo → Calls Try.prog 12 #[.pointer (some ⟨rb, 0, none⟩)] w fun r w' => r = .returned (.tuple #[.agg #[.int .i64 x, .int .i64 y], .bool bb]) ∧ (∃ v', PlayO W w' b c b2 c2 rb sb n1 n2 q' q2 sh q' q2 sh v' v2 ob oo) ∧ Turn (ROwn2 rb v sb v2) w w') := by
  cases q with
  | nil =>
    refine ⟨0, 0, false, [], fun w v v2 h => (take_none h.both.one.box).mono fun _ _ ⟨h1, h2⟩ => ⟨h1, h.one h2⟩, fun w v v2 h => (rtake_none h.refs.r).mono fun _ _ ⟨h1, h2⟩ => ⟨h1, ⟨v, h.below h2⟩, Turn.of_below h2⟩⟩
  | cons x q =>
    refine ⟨x.1, x.2, true, q, fun w v v2 h => (take_some h.both.one.box).mono fun _ _ ⟨h1, h2⟩ => ⟨h1, h.one h2⟩, fun w v v2 h => (rtake_some (x := x.1) (y := x.2) h.refs.r h.size).mono fun _ _ ⟨h1, h2⟩ => ⟨h1, h.r1 h2⟩⟩
/-- Requests drained. -/
theorem drain_step (W : World) (b c b2 c2 rb sb n1 n2 ob : Nat) (oo : Array Value) (q q2 : List Req) (sh : Bool) (M : Int) (hn : n1 ≤ 1000) : ∃ (t : Nat) (l q' : List Req), t ≤ 1000 ∧
    (∀ w v v2, PlayO W w b c b2 c2 rb sb n1 n2 q q2 sh q q2 sh v v2 ob oo → Calls Try.prog 14 #[.pointer (some ⟨b, 0, none⟩), .int .i64 M] w fun r w' => ∃ a cp, r = .returned (.slice a t cp) ∧ (PlayO W w' b c b2 c2 rb sb n1 n2 q' q2 sh q q2 sh v v2 ob oo ∧ AsksB w' w.heap.size (.slice a t cp) l ∧ l.length = t ∧ ∀ k, ROwn2 rb v sb v2 k → k < w.heap.size)) ∧
    (∀ w v v2, PlayO W w b c b2 c2 rb sb n1 n2 q' q2 sh q q2 sh v v2 ob oo → Calls Try.prog 15 #[.pointer (some ⟨rb, 0, none⟩), .int .i64 M] w fun r w' => ∃ a cp, r = .returned (.slice a t cp) ∧ (PlayE W w' b c b2 c2 rb sb n1 n2 q' q2 sh ob oo ∧ AsksB w' w.heap.size (.slice a t cp) l ∧ Turn (ROwn2 rb v sb v2) w w')) := by
  by_cases hq : q.length ≤ n1
  · refine ⟨min q.length M.toNat, q.take (min q.length M.toNat), q.drop (min q.length M.toNat), by omega, fun w v v2 h => ?_, fun w v v2 h => ?_⟩
    · refine (drain_t rfl h.both.one.box).mono fun _ _ ⟨a, cp, h1, h2, h3⟩ => ⟨a, cp, h1, h.one h2, h3, by rw [List.length_take]; omega, fun k hk => h.lt hk⟩
    · refine (rdrain_t rfl h.refs.r h.size).mono fun e w' ⟨a, cp, h1, h2, h3⟩ => ?_
      obtain ⟨⟨v', h4⟩, t⟩ := h.r1 h2
      exact ⟨a, cp, h1, h4.e, h3, t⟩
  · refine ⟨0, [], q, by omega, fun w v v2 h => absurd h.both.one.box.room hq, fun w v v2 h => absurd h.refs.r.room hq⟩
/-- Requests moved. -/
theorem move_step (W : World) (b c b2 c2 rb sb n1 n2 ob : Nat) (oo : Array Value) (q q2 : List Req) (sh : Bool) (M : Int) : ∃ (t : Nat) (q' q2' : List Req),
    (∀ w v v2, PlayO W w b c b2 c2 rb sb n1 n2 q q2 sh q q2 sh v v2 ob oo → Calls Try.prog 16 #[.pointer (some ⟨b, 0, none⟩), .pointer (some ⟨b2, 0, none⟩), .int .i64 M] w fun r w' => r = .returned (.int .i64 t) ∧ PlayO W w' b c b2 c2 rb sb n1 n2 q' q2' sh q q2 sh v v2 ob oo) ∧
    (∀ w v v2, PlayO W w b c b2 c2 rb sb n1 n2 q' q2' sh q q2 sh v v2 ob oo → Calls Try.prog 17 #[.pointer (some ⟨rb, 0, none⟩), .pointer (some ⟨sb, 0, none⟩), .int .i64 M] w fun r w' => r = .returned (.int .i64 t) ∧ PlayE W w' b c b2 c2 rb sb n1 n2 q' q2' sh ob oo) := by
  refine ⟨moveN q q2 n2 false M, q.drop (moveN q q2 n2 false M), q2 ++ q.take (moveN q q2 n2 false M), fun w v v2 h => ?_, fun w v v2 h => ?_⟩
  · exact (move_some M h.both.one.box h.both.two.box h.both.apart).mono fun _ _ ⟨h1, h2⟩ => ⟨h1, h.box (h.both.moved h2) h2.turn⟩
  · refine (rmove_any M h.refs h.size).mono fun _ _ ⟨h1, h2⟩ => ⟨h1, ?_⟩
    obtain ⟨v', v2', h3⟩ := h.rm h2
    exact h3.e
theorem Moved.swap {w w' : World} {b c n b2 c2 n2 : Nat} {q q2 : List Req} {sh sh2 : Bool} (m : Moved w b c n q sh b2 c2 n2 q2 sh2 w') : Moved w b2 c2 n2 q2 sh2 b c n q sh w' := ⟨m.two, m.one, m.turn.mono fun _ _ z => z.symm⟩
/-- Requests moved back. -/
theorem back_step (W : World) (b c b2 c2 rb sb n1 n2 ob : Nat) (oo : Array Value) (q q2 : List Req) (sh : Bool) (M : Int) : ∃ (t : Nat) (q' q2' : List Req),
    (∀ w v v2, PlayO W w b c b2 c2 rb sb n1 n2 q q2 sh q q2 sh v v2 ob oo → Calls Try.prog 16 #[.pointer (some ⟨b2, 0, none⟩), .pointer (some ⟨b, 0, none⟩), .int .i64 M] w fun r w' => r = .returned (.int .i64 t) ∧ PlayO W w' b c b2 c2 rb sb n1 n2 q' q2' sh q q2 sh v v2 ob oo) ∧
    (∀ w v v2, PlayO W w b c b2 c2 rb sb n1 n2 q' q2' sh q q2 sh v v2 ob oo → Calls Try.prog 17 #[.pointer (some ⟨sb, 0, none⟩), .pointer (some ⟨rb, 0, none⟩), .int .i64 M] w fun r w' => r = .returned (.int .i64 t) ∧ PlayE W w' b c b2 c2 rb sb n1 n2 q' q2' sh ob oo) := by
  refine ⟨moveN q2 q n1 sh M, q ++ q2.take (moveN q2 q n1 sh M), q2.drop (moveN q2 q n1 sh M), fun w v v2 h => ?_, fun w v v2 h => ?_⟩
  · exact (move_some M h.both.two.box h.both.one.box h.both.swap.apart).mono fun _ _ ⟨h1, h2⟩ => ⟨h1, h.box (h.both.moved h2.swap) h2.swap.turn⟩
  · refine (rmove_any M h.refs.swap h.size).mono fun _ _ ⟨h1, h2⟩ => ⟨h1, ?_⟩
    obtain ⟨v', v2', h3⟩ := h.rm2 h2
    exact h3.e
theorem pe_self (M : Int) (h : PlayE W w b c b2 c2 rb sb n1 n2 q q2 sh ob oo) : Calls Try.prog 16 #[.pointer (some ⟨b, 0, none⟩), .pointer (some ⟨b, 0, none⟩), .int .i64 M] w fun r w' => r = .returned (.int .i64 0) ∧ PlayE W w' b c b2 c2 rb sb n1 n2 q q2 sh ob oo := by
  obtain ⟨v, v2, h⟩ := h
  exact (move_self M h.both.one.box).mono fun _ _ ⟨h1, h2⟩ => ⟨h1, h2 ▸ h.e⟩
/-- A request put. -/
theorem put_step (W : World) (b c b2 c2 rb sb n1 n2 ob : Nat) (oo : Array Value) (q q2 : List Req) (sh : Bool) (x y : Int) : ∃ (bb : Bool) (q' : List Req),
    (∀ w v v2, PlayO W w b c b2 c2 rb sb n1 n2 q q2 sh q q2 sh v v2 ob oo → Calls Try.prog 19 #[.pointer (some ⟨b, 0, none⟩), .agg #[.int .i64 x, .int .i64 y]] w fun r w' => r = .returned (.bool bb) ∧ PlayO W w' b c b2 c2 rb sb n1 n2 q' q2 sh q q2 sh v v2 ob oo) ∧
    (∀ w v v2, PlayO W w b c b2 c2 rb sb n1 n2 q' q2 sh q q2 sh v v2 ob oo → Calls Try.prog 20 #[.pointer (some ⟨rb, 0, none⟩), .agg #[.int .i64 x, .int .i64 y]] w fun r w' => r = .returned (.bool bb) ∧ PlayE W w' b c b2 c2 rb sb n1 n2 q' q2 sh ob oo) := by
  refine ⟨putB n1 q sh, putL n1 q sh (x, y), fun w v v2 h => (put_some x y h.both.one.box).mono fun _ _ ⟨h1, h2⟩ => ⟨h1, h.one h2⟩, fun w v v2 h => (rput_any x y h.refs.r h.size).mono fun _ _ ⟨h1, h2⟩ => ⟨h1, ?_⟩⟩
  obtain ⟨⟨v', h4⟩, _⟩ := h.r1 h2
  exact h4.e
theorem po_shut (h : PlayO W w b c b2 c2 rb sb n1 n2 q q2 sh p p2 ph v v2 ob oo) : Calls Try.prog 18 #[.pointer (some ⟨b, 0, none⟩)] w fun r w' => r = .returned (.bool (!sh)) ∧ PlayO W w' b c b2 c2 rb sb n1 n2 q q2 true p p2 ph v v2 ob oo :=
  (shut_some h.both.one.box).mono fun _ _ ⟨h1, h2⟩ => ⟨h1, h.one ⟨h2.1, h2.2⟩⟩
/-- The document's own box shut. -/
theorem po_set (h : PlayO W w b c b2 c2 rb sb n1 n2 q q2 true q q2 sh v v2 ob oo) : PlayE W (w.setCell ⟨rb, 2, none⟩ (.bool true)) b c b2 c2 rb sb n1 n2 q q2 true ob oo := by
  have t : Turn (fun k => k = rb) w (w.setCell ⟨rb, 2, none⟩ (.bool true)) := turn_set _
  refine ⟨v, v2, h.ref ⟨⟨(blk_set h.refs.r.str _).trans rfl, h.refs.r.row.kept t (fun k hk z => h.refs.r.ne (z ▸ hk)), h.refs.r.room, h.refs.r.few⟩, h.refs.s.kept t (fun z => h.refs.ne z.symm) (fun k hk z => rf_ne h.refs.r h.refs.s (z ▸ hk)), h.refs.ne, h.refs.row⟩ (t.mono fun _ _ z => .inl (.inl z))⟩
end
end Go.Proofs.Ytkcdblpaaldcaaa
