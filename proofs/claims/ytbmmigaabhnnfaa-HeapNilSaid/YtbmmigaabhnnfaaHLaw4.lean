/-
  The walk over the statement that of no heap nothing comes.
-/
import Derived.Test.YtbmmigaabhnnfaaHKeys
namespace Go.Proofs.Ytbmmigaabhnnfaa
open Go.RowKit Go.Maps

theorem nx {W w w' : World} (h : Below W.heap.size W w) (hb : Below w.heap.size w w') : Below W.heap.size W w' := h.trans (hb.mono h.size)

set_option maxRecDepth 100000 in
set_option maxHeartbeats 4000000 in
theorem row_nil (W : World) (key : Int) (hk : (Lit.int .i64 key).wf = true) (n : Int) (hn : (Lit.int .i64 n).wf = true) :
    Calls Try.prog 7 #[.int .i64 key, .int .i64 n] W fun e w' => e = .returned (.bool true) ∧ Below W.heap.size W w' := by
  have C0 := Lib.hid (fun w => new_none w)
  have C1 := Lib.hid (fun w => min_nil w)
  have C2 := Lib.hid (fun w => take_none (min_nil w))
  have C3 := Lib.hid (fun w => get_no (by omega) (find_never key w))
  have C4 := Lib.hid (fun w => awake_any w)
  have C5 := Lib.hid (fun w => put_no (x := n) (by omega) (find_never key w))
  have C6 := Lib.hid (fun w => lower_no (x := n) (by omega) (find_never key w))
  have C7 := Lib.hid (fun w => drop_no (by omega) (find_never key w))
  have C8 := Lib.hid (fun w => len_nil w)
  have C9 := Lib.hid (fun w => keys_none (w := w) (p := none) (fun w' _ => len_nil w'))
  have B0 := Lib.hid (Below.refl W.heap.size W)
  clear hk hn
  go_enter Try.func7, Try.ntmps7
  go_wp2_with (first
    | (go_at_call 10; (with_reducible refine (C0.out _).mono ?_); rintro r w1 ⟨rfl, rfl⟩)
    | (go_at_call 23; (with_reducible refine (C1.out _).mono ?_); rintro r w1 ⟨rfl, h1⟩; have B1 := Lib.hid (nx B0.out h1); clear h1)
    | (go_at_call 15; (with_reducible refine (C2.out _).mono ?_); rintro r w2 ⟨rfl, h2⟩; have B2 := Lib.hid (nx B1.out h2); clear h2)
    | (go_at_call 21; (with_reducible refine (C3.out _).mono ?_); rintro r w3 ⟨rfl, h3⟩; have B3 := Lib.hid (nx B2.out h3); clear h3)
    | (go_at_call 9; (with_reducible refine (C4.out _).mono ?_); rintro r w4 ⟨rfl, h4⟩; have B4 := Lib.hid (nx B3.out h4); clear h4)
    | (go_at_call 19; (with_reducible refine (C5.out _).mono ?_); rintro r w5 ⟨rfl, h5⟩; have B5 := Lib.hid (nx B4.out h5); clear h5)
    | (go_at_call 13; (with_reducible refine (C6.out _).mono ?_); rintro r w6 ⟨rfl, h6⟩; have B6 := Lib.hid (nx B5.out h6); clear h6)
    | (go_at_call 17; (with_reducible refine (C7.out _).mono ?_); rintro r w7 ⟨rfl, h7⟩; have B7 := Lib.hid (nx B6.out h7); clear h7)
    | (go_at_call 28; (with_reducible refine (C8.out _).mono ?_); rintro r w8 ⟨rfl, rfl⟩)
    | (go_at_call 26; (with_reducible refine (C9.out _).mono ?_); rintro r w9 ⟨rfl, h9⟩; have B9 := Lib.hid (nx B7.out h9); clear h9))
  go_ret
  exact ⟨rfl, B9.out⟩

end Go.Proofs.Ytbmmigaabhnnfaa
