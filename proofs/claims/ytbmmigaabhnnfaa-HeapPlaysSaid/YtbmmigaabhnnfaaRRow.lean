/-
  The walk over HeapPlays, of the row that came in.
-/
import Derived.Test.YtbmmigaabhnnfaaRLaw
import Derived.Test.YtbmmigaabhnnfaaROpen
namespace Go.Proofs.Ytbmmigaabhnnfaa
open Go.RowKit Go.Maps

theorem row_plays (W : World) (a0 : Option Addr) (len cap : Nat) (O : Nat → Int × Int × Int × Bool) (h : IsOps W a0 len O) :
    Calls Try.prog 3 #[.slice a0 len cap] W fun e w' => e = .returned (.bool true) ∧ Below W.heap.size W w' :=
  law_plays a0 len cap (min len 60) O W h.hlen rfl h.wf h.cells

end Go.Proofs.Ytbmmigaabhnnfaa
