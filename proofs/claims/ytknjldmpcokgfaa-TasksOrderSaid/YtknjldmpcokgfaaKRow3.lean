/-
  The walk over TasksOrder, of what came in.
-/
import Derived.Test.YtknjldmpcokgfaaKLaw3
namespace Go.Proofs.Ytknjldmpcokgfaa
open Go.RowKit Go.Maps
theorem row_order (W : World) (S R : Int) (a : Option Addr) (n cap : Nat) (L : List NV) (hn : Nums W a n cap L) :
    Calls Try.prog 6 #[.agg #[.int .i64 S, .int .i64 R, .slice a n cap]] W fun e w' => e = .returned (.bool true) ∧ Below W.heap.size W w' :=
  law_order W S R a n cap L hn
end Go.Proofs.Ytknjldmpcokgfaa
