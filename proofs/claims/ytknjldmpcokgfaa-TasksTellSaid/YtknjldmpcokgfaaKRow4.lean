/-
  The walk over TasksTell, of what came in.
-/
import Derived.Test.YtknjldmpcokgfaaKLaw4
namespace Go.Proofs.Ytknjldmpcokgfaa
open Go.RowKit Go.Maps
theorem row_tell (W : World) (S R : Int) (a : Option Addr) (n cap : Nat) (L : List NV) (hn : Nums W a n cap L) (x y : TV) (hx : x.ok W) (hy : y.ok W) (z : List Int) (hz : z.length = 2) (_ : ∀ q ∈ z, (Lit.int .i64 q).wf = true) :
    Calls Try.prog 4 #[.agg #[.int .i64 S, .int .i64 R, .slice a n cap], .agg #[.int .i64 x.id, .int .i64 x.c, .int .i64 x.d, .int .i64 x.t, .int .i64 x.p, .slice x.a1 x.ch.length x.c1, .slice x.a2 x.us.length x.c2, .int .i64 y.id, .int .i64 y.c, .int .i64 y.d, .int .i64 y.t, .int .i64 y.p, .slice y.a1 y.ch.length y.c1, .slice y.a2 y.us.length y.c2], .agg (z.map (Value.int .i64)).toArray] W fun e w' => e = .returned (.bool true) ∧ Below W.heap.size W w' := by
  match z, hz with
  | [q0, q1], _ => exact law_tell W S R a n cap L hn x y hx hy q0 q1
end Go.Proofs.Ytknjldmpcokgfaa
