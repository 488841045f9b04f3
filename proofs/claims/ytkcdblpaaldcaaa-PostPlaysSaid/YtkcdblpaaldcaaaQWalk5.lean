/-
  The walks over requests moved.
-/
import Derived.Test.YtkcdblpaaldcaaaQWalk4
import Derived.LaidEqlPtr
namespace Go.Proofs.Ytkcdblpaaldcaaa
open Go.RowKit Go.Maps Go.Conc
attribute [local go_sem] chan_eq_some

theorem infoBox : ∃ j, Try.prog.info? 57 = some j ∧ j.size = 6 := by
  have h : (Try.prog.info? 57).map (·.size) = some 6 := by kernel_rfl
  obtain ⟨i, h1, h2⟩ := Option.map_eq_some_iff.1 h
  exact ⟨i, h1, h2⟩
theorem box_eq_same (b : Nat) (w : World) : (binOp .eql 24 (.pointer (some ⟨b, 0, none⟩)) (.pointer (some ⟨b, 0, none⟩))).run Try.prog w = .ok (.bool true) w := by
  obtain ⟨j, hj, hs⟩ := infoBox
  exact run_eql_ptr_same w _ Try.underlying24 hj
theorem box_eq_other {w : World} {b b2 c c2 : Nat} {d d2 k k2 : Int} {sh sh2 : Bool} (h : St w b c d k sh) (h2 : St w b2 c2 d2 k2 sh2) (hne : b2 ≠ b) : (binOp .eql 24 (.pointer (some ⟨b2, 0, none⟩)) (.pointer (some ⟨b, 0, none⟩))).run Try.prog w = .ok (.bool false) w := by
  obtain ⟨j, hj, hs⟩ := infoBox
  exact run_eql_ptr_other w Try.underlying24 hj (by rw [hs]; decide) (fun z => hne (congrArg Addr.block z)) h2 h
/-- Two boxes, apart. -/
def Apart (b c b2 c2 : Nat) : Prop := b ≠ b2 ∧ c ≠ c2
def Four (b c b2 c2 k : Nat) : Prop := Two b c k ∨ Two b2 c2 k
/-- How many are moved. -/
def moveN (q q2 : List Req) (n2 : Nat) (sh2 : Bool) (most : Int) : Nat := min q.length (min most (if sh2 then 0 else (n2 : Int) - q2.length)).toNat
theorem view_of {w : World} {B n cp : Nat} {a : Option Addr} {l : List Req} (h : AsksB w B (.slice a n cp) l) : View w a l := by
  obtain ⟨a', cp', hv, h1, _⟩ := h.asks.slice
  cases hv
  exact h1
/-- What a move leaves. -/
structure Moved (w : World) (b c n : Nat) (q : List Req) (sh : Bool) (b2 c2 n2 : Nat) (q2 : List Req) (sh2 : Bool) (w' : World) : Prop where
  one : Box w' b c n q sh
  two : Box w' b2 c2 n2 q2 sh2
  turn : Turn (Four b c b2 c2) w w'

theorem moved_room {w w1 : World} {b c n : Nat} {q : List Req} {sh : Bool} (h : Box w b c n q sh) (hs : St w1 b c 1 0 sh) (ht : Turn (fun k => k = b) w w1) : BoxD w1 1 b c n q sh := ⟨hs, h.chan.kept ht h.ne, h.room, h.few⟩
/-- The other box across a step of the one. -/
theorem other_kept {w w' : World} {d d2 : Int} {b c n b2 c2 n2 : Nat} {q q2 : List Req} {sh sh2 : Bool} (h : BoxD w d b c n q sh) (h2 : BoxD w d2 b2 c2 n2 q2 sh2) (hap : Apart b c b2 c2) (ht : Turn (Two b2 c2) w w') : BoxD w' d b c n q sh := by
  refine h.kept ht ?_ ?_
  · rintro (z | z)
    · exact hap.1 z
    · exact h.str.ne h2.chan z.symm
  · rintro (z | z)
    · exact h2.str.ne h.chan z
    · exact hap.2 z
theorem apart_symm {b c b2 c2 : Nat} (h : Apart b c b2 c2) : Apart b2 c2 b c := ⟨fun e => h.1 e.symm, fun e => h.2 e.symm⟩

theorem drain_t {w : World} {d : Int} {b c n t : Nat} {q : List Req} {sh : Bool} {M : Int} (he : min q.length M.toNat = t) (h : BoxD w d b c n q sh) :
    Calls Try.prog 14 #[.pointer (some ⟨b, 0, none⟩), .int .i64 M] w fun r w' => ∃ a cp, r = .returned (.slice a t cp) ∧ Drains w d b c n q sh t (.slice a t cp) w' := by
  refine (drain_some M h).mono fun e w' ⟨v, h1, h2⟩ => ?_
  rw [he] at h2
  obtain ⟨a, cp, hv, _⟩ := h2.2.asks.slice
  rw [List.length_take, Nat.min_eq_left (by omega)] at hv
  exact ⟨a, cp, by rw [h1, hv], hv ▸ h2⟩
theorem add_fit {w : World} {d : Int} {b c n m cap : Nat} {q l : List Req} {a : Option Addr} {sh : Bool} (h : BoxD w d b c n q sh) (hv : View w a l) (hlen : l.length = m) (hfit : q.length + m ≤ n) (hsh : sh = true → m = 0) (hab : ∀ g o, a = some ⟨g, o, none⟩ → l ≠ [] → g ≠ b) :
    Calls Try.prog 28 #[.pointer (some ⟨b, 0, none⟩), .slice a m cap] w fun r w' => ∃ B, r = .returned (.bool B) ∧ LooksD w d b c n (q ++ l) sh w' := by
  have hn := h.few
  cases sh with
  | true =>
    have h0 : l = [] := List.length_eq_zero_iff.1 (by rw [hlen]; exact hsh rfl)
    refine (add_shut h).mono fun e w' ⟨h1, h2⟩ => ⟨_, h1, ?_⟩
    rw [h0, List.append_nil]; exact h2
  | false =>
    refine (add_some h hv hlen (by omega) hab).mono fun e w' ⟨h1, h2⟩ => ⟨_, h1, ?_⟩
    rw [List.take_of_length_le (by rw [List.length_append]; omega)] at h2
    exact h2
theorem move_done {w w2 w3 w4 w5 : World} {b c n b2 c2 n2 : Nat} {q q' q2 q2' : List Req} {sh sh2 : Bool} (h : Box w b c n q sh) (h2 : Box w b2 c2 n2 q2 sh2) (hap : Apart b c b2 c2) (t2 : Turn (Two b2 c2) w w2) (l3 : LooksD w2 0 b c n q' sh w3) (l4 : LooksD w3 1 b2 c2 n2 q2' sh2 w4) (s5 : St w5 b2 c2 0 0 sh2) (t5 : Turn (fun k => k = b2) w4 w5) : Moved w b c n q' sh b2 c2 n2 q2' sh2 w5 := by
  have t35 : Turn (Two b2 c2) w3 w5 := l4.2.then (t5.mono fun _ _ z => .inl z)
  refine ⟨?_, ⟨s5, l4.1.chan.kept t5 h2.ne, l4.1.room, h2.few⟩, ?_⟩
  · refine l3.1.kept t35 ?_ ?_
    · rintro (z | z)
      · exact hap.1 z
      · exact h.str.ne h2.chan z.symm
    · rintro (z | z)
      · exact h2.str.ne h.chan z
      · exact hap.2 z
  · exact ((t2.mono (S' := Four b c b2 c2) fun _ _ z => .inr z).trans l3.2 (fun _ _ z => .inl z)).trans t35 (fun _ _ z => .inr z)

set_option maxRecDepth 100000 in
set_option maxHeartbeats 2000000 in
theorem move_some {w : World} {b c n b2 c2 n2 : Nat} {q q2 : List Req} {sh sh2 : Bool} (most : Int) (h : Box w b c n q sh) (h2 : Box w b2 c2 n2 q2 sh2) (hap : Apart b c b2 c2) :
    Calls Try.prog 16 #[.pointer (some ⟨b, 0, none⟩), .pointer (some ⟨b2, 0, none⟩), .int .i64 most] w fun r w' => r = .returned (.int .i64 (moveN q q2 n2 sh2 most)) ∧ Moved w b c n (q.drop (moveN q q2 n2 sh2 most)) sh b2 c2 n2 (q2 ++ q.take (moveN q q2 n2 sh2 most)) sh2 w' := by
  have CN := none_some h2.str
  have CD := lock_door h2.str
  have HH := Lib.hid h
  have HH2 := Lib.hid h2
  have HAP := Lib.hid hap
  have CE := box_eq_other h.str h2.str (fun e => hap.1 e.symm)
  obtain ⟨rm, hrm⟩ : ∃ rm : Int, (if sh2 = true then 0 else (n2 : Int) - q2.length) = rm := ⟨_, rfl⟩
  have HRM : Hid (0 ≤ rm ∧ (q2.length : Int) + rm ≤ n2 ∧ (sh2 = true → rm = 0)) := by
    have := h2.room
    show _ ∧ _ ∧ _
    rw [← hrm]
    split
    · exact ⟨by omega, by omega, fun _ => rfl⟩
    · rename_i hs
      exact ⟨by omega, by omega, fun z => absurd z hs⟩
  have CR := Lib.hid (fun w2 (z : BoxD w2 1 b2 c2 n2 q2 sh2) => hrm ▸ room_some z)
  have HMV : Hid (moveN q q2 n2 sh2 most = min q.length (min most rm).toNat) := by show _ = _; unfold moveN; rw [hrm]
  obtain ⟨t, ht⟩ : ∃ t, moveN q q2 n2 sh2 most = t := ⟨_, rfl⟩
  rw [ht] at HMV ⊢
  clear hrm ht h h2 hap
  rcases Int.lt_or_le rm most with hlt | hlt
  all_goals
    go_enter_defers Try.func16, Try.ntmps16
    go_wp2_with (first
      | (go_at_call 25; refine CN.mono ?_; rintro e w' ⟨rfl, rfl⟩)
      | (go_at_call 26; refine CD.mono ?_; rintro e w1 ⟨rfl, hs1, ht1⟩; have H1 := Lib.hid (moved_room HH2.out hs1 ht1); have T1 := Lib.hid (ht1.mono (S' := Two b2 c2) (fun _ _ z => .inl z)); clear hs1 ht1)
      | (go_at_call 22; refine (CR.out _ H1.out).mono ?_; rintro e w2 ⟨rfl, h2⟩; have H2 := Lib.hid h2; clear h2)
      | (go_at_call 14; refine (drain_t (t := t) (by have := HMV.out; omega) (other_kept HH.out HH2.out HAP.out (T1.out.then H2.out.2))).mono ?_; rintro e w3 ⟨a, cp, rfl, h3⟩; have H3 := Lib.hid h3; clear h3)
      | (go_at_call 28; refine (add_fit (l := q.take t) (other_kept H2.out.1 (other_kept HH.out HH2.out HAP.out (T1.out.then H2.out.2)) (apart_symm HAP.out) H3.out.1.2) (view_of H3.out.2) (by have := HMV.out; rw [List.length_take]; omega) (by have := HMV.out; have := HRM.out; omega) (fun z => by have := HMV.out; have := HRM.out.2.2 z; omega) (fun g o e _ z => by have := H3.out.2.new (k := g) (by rw [e]; rfl); have := H2.out.1.str.lt; omega)).mono ?_; rintro e w4 ⟨B, rfl, h4⟩; have H4 := Lib.hid h4; clear h4))
    refine leaves_cons (f := 27) (args := #[.pointer (some ⟨b2, 0, none⟩)]) (by simp) (by simp [go_sem]) ?_
    refine (unlock_door .returning H4.out.1.str).mono ?_
    rintro e u' w5 ⟨rfl, rfl, hs5, ht5⟩
    exact ⟨_, results_tmp rfl _ _ _, rfl, move_done HH.out HH2.out HAP.out (T1.out.then H2.out.2) H3.out.1 H4.out hs5 ht5⟩

set_option maxHeartbeats 1000000 in
theorem move_self {w : World} {b c n : Nat} {q : List Req} {sh : Bool} (most : Int) (h : Box w b c n q sh) :
    Calls Try.prog 16 #[.pointer (some ⟨b, 0, none⟩), .pointer (some ⟨b, 0, none⟩), .int .i64 most] w fun r w' => r = .returned (.int .i64 0) ∧ w = w' := by
  have CN := none_some h.str
  have CE := box_eq_same b w
  clear h
  go_enter_defers Try.func16, Try.ntmps16
  go_wp2_with (go_at_call 25; refine CN.mono ?_; rintro e w' ⟨rfl, rfl⟩)
  exact ⟨_, results_tmp rfl _ _ _, rfl, rfl⟩
set_option maxHeartbeats 1000000 in
theorem move_to_nil (p : Option Addr) (most : Int) (w : World) :
    Calls Try.prog 16 #[.pointer p, .pointer none, .int .i64 most] w fun r w' => r = .returned (.int .i64 0) ∧ w = w' := by
  go_enter_defers Try.func16, Try.ntmps16
  go_wp2_with (go_at_call 25; refine (none_nil _).mono ?_; rintro e w' ⟨rfl, rfl⟩)
  exact ⟨_, results_tmp rfl _ _ _, rfl, rfl⟩

set_option maxHeartbeats 1000000 in
theorem drain_nil (most : Int) (w : World) : Calls Try.prog 14 #[.pointer none, .int .i64 most] w fun r w' => r = .returned (.slice none 0 0) ∧ w = w' := by
  go_enter_defers Try.func14, Try.ntmps14
  go_wp2
  go_step3
  go_wp2_with (go_at_call 25; refine (none_nil _).mono ?_; rintro e w' ⟨rfl, rfl⟩)
  exact ⟨_, results_tmp (t := 4) rfl _ _ _, rfl, rfl⟩
set_option maxRecDepth 100000 in
set_option maxHeartbeats 2000000 in
theorem move_from_nil {w : World} {b2 c2 n2 : Nat} {q2 : List Req} {sh2 : Bool} (most : Int) (h2 : Box w b2 c2 n2 q2 sh2) :
    Calls Try.prog 16 #[.pointer none, .pointer (some ⟨b2, 0, none⟩), .int .i64 most] w fun r w' => r = .returned (.int .i64 0) ∧ Looks w b2 c2 n2 q2 sh2 w' := by
  have CN := none_some h2.str
  have CD := lock_door h2.str
  have HH2 := Lib.hid h2
  obtain ⟨rm, hrm⟩ : ∃ rm : Int, (if sh2 = true then 0 else (n2 : Int) - q2.length) = rm := ⟨_, rfl⟩
  have CR := Lib.hid (fun w2 (z : BoxD w2 1 b2 c2 n2 q2 sh2) => hrm ▸ room_some z)
  clear hrm h2
  rcases Int.lt_or_le rm most with hlt | hlt
  all_goals
    go_enter_defers Try.func16, Try.ntmps16
    go_wp2_with (first
      | (go_at_call 25; refine CN.mono ?_; rintro e w' ⟨rfl, rfl⟩)
      | (go_at_call 26; refine CD.mono ?_; rintro e w1 ⟨rfl, hs1, ht1⟩; have H1 := Lib.hid (moved_room HH2.out hs1 ht1); have T1 := Lib.hid (ht1.mono (S' := Two b2 c2) (fun _ _ z => .inl z)); clear hs1 ht1)
      | (go_at_call 22; refine (CR.out _ H1.out).mono ?_; rintro e w2 ⟨rfl, h2⟩; have H2 := Lib.hid h2; clear h2)
      | (go_at_call 14; refine (drain_nil _ _).mono ?_; rintro e w3 ⟨rfl, rfl⟩)
      | (go_at_call 28; refine (add_fit (l := []) H2.out.1 (.inl rfl) rfl H2.out.1.room (fun _ => rfl) (fun g o e _ => by cases e)).mono ?_; rintro e w4 ⟨B, rfl, h4⟩; have H4 := Lib.hid h4; clear h4))
    refine leaves_cons (f := 27) (args := #[.pointer (some ⟨b2, 0, none⟩)]) (by simp) (by simp [go_sem]) ?_
    refine (unlock_door .returning H4.out.1.str).mono ?_
    rintro e u' w5 ⟨rfl, rfl, hs5, ht5⟩
    have h4 := H4.out
    rw [List.append_nil] at h4
    exact ⟨_, results_tmp rfl _ _ _, rfl, ⟨hs5, h4.1.chan.kept ht5 HH2.out.ne, h4.1.room, h4.1.few⟩, ((T1.out.then H2.out.2).then h4.2).then (ht5.mono fun _ _ z => .inl z)⟩
end Go.Proofs.Ytkcdblpaaldcaaa
