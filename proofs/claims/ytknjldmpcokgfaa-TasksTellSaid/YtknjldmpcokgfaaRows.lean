/-
  No cell of these rows narrows 'for every input' (looked for: loops, veiled, ifaces, maps, wideKeys, modest, calm, conditions, laid).
  DERIVED. THE GIVEN ROWS OF THIS SEAT. 4 by the template 'for every input the law returns true; each argument reads behind the call as it read before'; 0 by the template 'total and deterministic' (their statements: YtknjldmpcokgfaaTotals.lean).
  GIVEN WITH THE SEED: the statements are not yours to turn. If you find one false, say at which input.
  Laid BY PROGRAM, IN A SANDBOX (cutbox-rows.mjs): the forced cells as the released guide's own fill.sh prints them over the translation f1b04478ffa3d0a6… (all of the seat's roots in one cut). By AI agents, Wed Nov 11 2026. No macro, syntax, notation, axiom, sorry.
-/
import Derived.Test.YtknjldmpcokgfaaChecked
import GoSem.Claim
import GoSem.ClaimJoined
import GoSem.ClaimMapViews
import Derived.JoinedTies
import Derived.KernelRfl
namespace Go.Proofs.Ytknjldmpcokgfaa
/- THE CELL 'sum', in the pinned program and in every row, IS THE sha256 OF THE DUMP (.gsa) THAT YtknjldmpcokgfaaProg.lean LOADS. Nothing in Lean hashes anything: it is a label: what it is worth is what the hold of that sum in a sandbox is worth. -/
noncomputable def Try.pinned : Pinned := { name := "ytknjldmpcokgfaa", sum := "f1b04478ffa3d0a65e226aa060f45839f197d548fa42bfee39e6fc42b4cd7e33", checked := Try.checked }
namespace Rows
def none {H : Type} : Left H := { results := [], args := [] }

/-- 'ostinatolaw05.TasksRight': WHATEVER THE INPUT: true; the input reads as it did. -/
def tasksRightSpec : ChangeSpec := { name := "tasksRight", fn := fun _ => fun
  | [d1, d2, d3] => { results := [.lit (.bool true)], args := [d1, d2, d3] }
  | _ => none }
def tasksRightRow : OpenClaim := { program := "ytknjldmpcokgfaa", sum := "f1b04478ffa3d0a65e226aa060f45839f197d548fa42bfee39e6fc42b4cd7e33", func := "ostinato/ostinatolaw05.TasksRight", spec := "tasksRight", unfollowed := true, recurses := true, apart := false }
def TasksRightSaid : Prop := tasksRightRow.holds Try.pinned (OpenSpec.ofChange tasksRightSpec)

/-- ITS FALSE NEIGHBOUR: 'it returns false'. Refute it at one input. -/
def tasksRightWrong : ChangeSpec := { name := "tasksRight", fn := fun _ => fun
  | [d1, d2, d3] => { results := [.lit (.bool false)], args := [d1, d2, d3] }
  | _ => none }
def TasksRightWrongFalsely : Prop := tasksRightRow.holds Try.pinned (OpenSpec.ofChange tasksRightWrong)

/-- 'ostinatolaw05.TasksTell': WHATEVER THE INPUT: true; the input reads as it did. -/
def tasksTellSpec : ChangeSpec := { name := "tasksTell", fn := fun _ => fun
  | [d1, d2, d3] => { results := [.lit (.bool true)], args := [d1, d2, d3] }
  | _ => none }
def tasksTellRow : OpenClaim := { program := "ytknjldmpcokgfaa", sum := "f1b04478ffa3d0a65e226aa060f45839f197d548fa42bfee39e6fc42b4cd7e33", func := "ostinato/ostinatolaw05.TasksTell", spec := "tasksTell", unfollowed := true, recurses := true, apart := false }
def TasksTellSaid : Prop := tasksTellRow.holds Try.pinned (OpenSpec.ofChange tasksTellSpec)

/-- ITS FALSE NEIGHBOUR: 'it returns false'. Refute it at one input. -/
def tasksTellWrong : ChangeSpec := { name := "tasksTell", fn := fun _ => fun
  | [d1, d2, d3] => { results := [.lit (.bool false)], args := [d1, d2, d3] }
  | _ => none }
def TasksTellWrongFalsely : Prop := tasksTellRow.holds Try.pinned (OpenSpec.ofChange tasksTellWrong)

/-- 'ostinatolaw05.TasksChange': WHATEVER THE INPUT: true; the input reads as it did. -/
def tasksChangeSpec : ChangeSpec := { name := "tasksChange", fn := fun _ => fun
  | [d1, d2, d3] => { results := [.lit (.bool true)], args := [d1, d2, d3] }
  | _ => none }
def tasksChangeRow : OpenClaim := { program := "ytknjldmpcokgfaa", sum := "f1b04478ffa3d0a65e226aa060f45839f197d548fa42bfee39e6fc42b4cd7e33", func := "ostinato/ostinatolaw05.TasksChange", spec := "tasksChange", unfollowed := true, recurses := true, apart := false }
def TasksChangeSaid : Prop := tasksChangeRow.holds Try.pinned (OpenSpec.ofChange tasksChangeSpec)

/-- ITS FALSE NEIGHBOUR: 'it returns false'. Refute it at one input. -/
def tasksChangeWrong : ChangeSpec := { name := "tasksChange", fn := fun _ => fun
  | [d1, d2, d3] => { results := [.lit (.bool false)], args := [d1, d2, d3] }
  | _ => none }
def TasksChangeWrongFalsely : Prop := tasksChangeRow.holds Try.pinned (OpenSpec.ofChange tasksChangeWrong)

/-- 'ostinatolaw05.TasksOrder': WHATEVER THE INPUT: true; the input reads as it did. -/
def tasksOrderSpec : ChangeSpec := { name := "tasksOrder", fn := fun _ => fun
  | [d] => { results := [.lit (.bool true)], args := [d] }
  | _ => none }
def tasksOrderRow : OpenClaim := { program := "ytknjldmpcokgfaa", sum := "f1b04478ffa3d0a65e226aa060f45839f197d548fa42bfee39e6fc42b4cd7e33", func := "ostinato/ostinatolaw05.TasksOrder", spec := "tasksOrder", unfollowed := true, recurses := true, apart := false }
def TasksOrderSaid : Prop := tasksOrderRow.holds Try.pinned (OpenSpec.ofChange tasksOrderSpec)

/-- ITS FALSE NEIGHBOUR: 'it returns false'. Refute it at one input. -/
def tasksOrderWrong : ChangeSpec := { name := "tasksOrder", fn := fun _ => fun
  | [d] => { results := [.lit (.bool false)], args := [d] }
  | _ => none }
def TasksOrderWrongFalsely : Prop := tasksOrderRow.holds Try.pinned (OpenSpec.ofChange tasksOrderWrong)

/- THE SECOND FORM. 'bulk': how many values and letters a reading holds, each counted each time it is reached (what is shared counts as often as it is met; a slice's spare places count too). A statement '..UptoSaid' is the law's where the arguments, and the package variables that the reading takes, are together of bulk at most 1048576: NARROWER than '..Said'. Prove '..Said' where nothing that the law and all that it calls make is longer than what came in: it says more and counts as full. Else prove '..UptoSaid'. A law counts once. -/
mutual
def uptoBulk {H : Type} : DataW H → Nat
  | .lit (.string bytes) => bytes.length + 1
  | .lit _ => 1
  | .nil => 1
  | .ptr d => uptoBulk d + 1
  | .slice elems spare => uptoBulkAll elems + uptoBulkAll spare + 1
  | .agg parts => uptoBulkAll parts + 1
  | .iface _ d => uptoBulk d + 1
  | .map entries => uptoBulkEntries entries + 1
  | .held _ => 1
def uptoBulkAll {H : Type} : List (DataW H) → Nat
  | [] => 0
  | d :: r => uptoBulk d + uptoBulkAll r
def uptoBulkEntries {H : Type} : List (Lit × DataW H) → Nat
  | [] => 0
  | x :: r => uptoBulkEntry x + uptoBulkEntries r
def uptoBulkEntry {H : Type} : Lit × DataW H → Nat
  | (.string bytes, d) => bytes.length + uptoBulk d + 1
  | (_, d) => uptoBulk d + 1
 end
def uptoSmall : (H : Type) → List (DataW H) → Bool := fun _ ds => decide (uptoBulkAll ds ≤ 1048576)
def OpenSpec.upto (s : _root_.Go.ChangeSpec) : _root_.Go.OpenSpec := { _root_.Go.OpenSpec.ofChange s with cond := some uptoSmall }

/-- 'ostinatolaw05.TasksRight', WHERE WHAT IT READS IS OF BULK AT MOST 1048576: true; the input reads as it did. -/
def tasksRightUptoRow : OpenClaim := { program := "ytknjldmpcokgfaa", sum := "f1b04478ffa3d0a65e226aa060f45839f197d548fa42bfee39e6fc42b4cd7e33", func := "ostinato/ostinatolaw05.TasksRight", spec := "tasksRight", unfollowed := true, recurses := true, apart := false, narrowed := true }
def TasksRightUptoSaid : Prop := tasksRightUptoRow.holds Try.pinned (OpenSpec.upto tasksRightSpec)

/-- 'ostinatolaw05.TasksTell', WHERE WHAT IT READS IS OF BULK AT MOST 1048576: true; the input reads as it did. -/
def tasksTellUptoRow : OpenClaim := { program := "ytknjldmpcokgfaa", sum := "f1b04478ffa3d0a65e226aa060f45839f197d548fa42bfee39e6fc42b4cd7e33", func := "ostinato/ostinatolaw05.TasksTell", spec := "tasksTell", unfollowed := true, recurses := true, apart := false, narrowed := true }
def TasksTellUptoSaid : Prop := tasksTellUptoRow.holds Try.pinned (OpenSpec.upto tasksTellSpec)

/-- 'ostinatolaw05.TasksChange', WHERE WHAT IT READS IS OF BULK AT MOST 1048576: true; the input reads as it did. -/
def tasksChangeUptoRow : OpenClaim := { program := "ytknjldmpcokgfaa", sum := "f1b04478ffa3d0a65e226aa060f45839f197d548fa42bfee39e6fc42b4cd7e33", func := "ostinato/ostinatolaw05.TasksChange", spec := "tasksChange", unfollowed := true, recurses := true, apart := false, narrowed := true }
def TasksChangeUptoSaid : Prop := tasksChangeUptoRow.holds Try.pinned (OpenSpec.upto tasksChangeSpec)

/-- 'ostinatolaw05.TasksOrder', WHERE WHAT IT READS IS OF BULK AT MOST 1048576: true; the input reads as it did. -/
def tasksOrderUptoRow : OpenClaim := { program := "ytknjldmpcokgfaa", sum := "f1b04478ffa3d0a65e226aa060f45839f197d548fa42bfee39e6fc42b4cd7e33", func := "ostinato/ostinatolaw05.TasksOrder", spec := "tasksOrder", unfollowed := true, recurses := true, apart := false, narrowed := true }
def TasksOrderUptoSaid : Prop := tasksOrderUptoRow.holds Try.pinned (OpenSpec.upto tasksOrderSpec)

end Rows
end Go.Proofs.Ytknjldmpcokgfaa
