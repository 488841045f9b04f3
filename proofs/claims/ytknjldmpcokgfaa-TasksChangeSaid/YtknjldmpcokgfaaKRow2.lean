/-
  The walk over TasksChange, of what came in.
-/
import Derived.Test.YtknjldmpcokgfaaKLaw2
namespace Go.Proofs.Ytknjldmpcokgfaa
open Go.RowKit Go.Maps
theorem row_change (W : World) (S R : Int) (a : Option Addr) (n cap : Nat) (L : List NV) (hn : Nums W a n cap L) (at_ : Int) (_ : (Lit.int .i64 at_).wf = true) (what : Int) (_ : (Lit.int .i64 what).wf = true) :
    Calls Try.prog 5 #[.agg #[.int .i64 S, .int .i64 R, .slice a n cap], .int .i64 at_, .int .i64 what] W fun e w' => e = .returned (.bool true) ∧ Below W.heap.size W w' :=
  law_change W S R a n cap L hn at_ what
end Go.Proofs.Ytknjldmpcokgfaa
