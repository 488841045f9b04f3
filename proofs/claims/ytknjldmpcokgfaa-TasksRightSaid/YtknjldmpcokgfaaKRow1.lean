/-
  The walk over TasksRight, of what came in.
-/
import Derived.Test.YtknjldmpcokgfaaKLaw1
namespace Go.Proofs.Ytknjldmpcokgfaa
open Go.RowKit Go.Maps
theorem row_right (W : World) (x : TV) (hx : x.ok W) (_ : I64 x.p ∧ I64 x.id) (s : Int) (_ : (Lit.int .i64 s).wf = true) (S R : Int) (a : Option Addr) (n cap : Nat) (L : List TV) (hT : Tasks W a n cap L) (hw : ∀ y ∈ L, I64 y.p ∧ I64 y.id) :
    Calls Try.prog 3 #[x.val, .int .i64 s, .agg #[.int .i64 S, .int .i64 R, .slice a n cap]] W fun e w' => e = .returned (.bool true) ∧ Below W.heap.size W w' :=
  law_right W x hx s S R a n cap L hT hw
end Go.Proofs.Ytknjldmpcokgfaa
