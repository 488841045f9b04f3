/-
  No cell of these rows narrows 'for every input' (looked for: loops, veiled, ifaces, maps, wideKeys, modest, calm, conditions, laid).
  DERIVED. THE GIVEN ROWS OF THIS SEAT. 5 by the template 'for every input the law returns true; each argument reads behind the call as it read before'; 0 by the template 'total and deterministic' (their statements: YtfifgojbihdhcaaTotals.lean).
  GIVEN WITH THE SEED: the statements are not yours to turn. If you find one false, say at which input.
  Laid BY PROGRAM, IN A SANDBOX (cutbox-rows.mjs): the forced cells as the released guide's own fill.sh prints them over the translation 4b703accab83e4cc… (all of the seat's roots in one cut). By AI agents, Wed Nov 11 2026. No macro, syntax, notation, axiom, sorry.
-/
import Derived.Test.YtfifgojbihdhcaaChecked
import GoSem.Claim
import GoSem.ClaimJoined
import GoSem.ClaimMapViews
import Derived.JoinedTies
import Derived.KernelRfl
namespace Go.Proofs.Ytfifgojbihdhcaa
/- THE CELL 'sum', in the pinned program and in every row, IS THE sha256 OF THE DUMP (.gsa) THAT YtfifgojbihdhcaaProg.lean LOADS. Nothing in Lean hashes anything: it is a label: what it is worth is what the hold of that sum in a sandbox is worth. -/
noncomputable def Try.pinned : Pinned := { name := "ytfifgojbihdhcaa", sum := "4b703accab83e4cce5f44ea72ba692cc3e2e695f337e5b7da645ca32fb2d1294", checked := Try.checked }
namespace Rows
def none {H : Type} : Left H := { results := [], args := [] }

/-- 'ostinatolaw08.CachePlays': WHATEVER THE INPUT: true; the input reads as it did. -/
def cachePlaysSpec : ChangeSpec := { name := "cachePlays", fn := fun _ => fun
  | [d1, d2] => { results := [.lit (.bool true)], args := [d1, d2] }
  | _ => none }
def cachePlaysRow : OpenClaim := { program := "ytfifgojbihdhcaa", sum := "4b703accab83e4cce5f44ea72ba692cc3e2e695f337e5b7da645ca32fb2d1294", func := "ostinato/ostinatolaw08.CachePlays", spec := "cachePlays", unfollowed := true, recurses := true, apart := false }
def CachePlaysSaid : Prop := cachePlaysRow.holds Try.pinned (OpenSpec.ofChange cachePlaysSpec)

/-- ITS FALSE NEIGHBOUR: 'it returns false'. Refute it at one input. -/
def cachePlaysWrong : ChangeSpec := { name := "cachePlays", fn := fun _ => fun
  | [d1, d2] => { results := [.lit (.bool false)], args := [d1, d2] }
  | _ => none }
def CachePlaysWrongFalsely : Prop := cachePlaysRow.holds Try.pinned (OpenSpec.ofChange cachePlaysWrong)

/-- 'ostinatolaw08.CacheAlone': WHATEVER THE INPUT: true; the input reads as it did. -/
def cacheAloneSpec : ChangeSpec := { name := "cacheAlone", fn := fun _ => fun
  | [d1, d2, d3] => { results := [.lit (.bool true)], args := [d1, d2, d3] }
  | _ => none }
def cacheAloneRow : OpenClaim := { program := "ytfifgojbihdhcaa", sum := "4b703accab83e4cce5f44ea72ba692cc3e2e695f337e5b7da645ca32fb2d1294", func := "ostinato/ostinatolaw08.CacheAlone", spec := "cacheAlone", unfollowed := true, recurses := true, apart := false }
def CacheAloneSaid : Prop := cacheAloneRow.holds Try.pinned (OpenSpec.ofChange cacheAloneSpec)

/-- ITS FALSE NEIGHBOUR: 'it returns false'. Refute it at one input. -/
def cacheAloneWrong : ChangeSpec := { name := "cacheAlone", fn := fun _ => fun
  | [d1, d2, d3] => { results := [.lit (.bool false)], args := [d1, d2, d3] }
  | _ => none }
def CacheAloneWrongFalsely : Prop := cacheAloneRow.holds Try.pinned (OpenSpec.ofChange cacheAloneWrong)

/-- 'ostinatolaw08.CacheOwns': WHATEVER THE INPUT: true; the input reads as it did. -/
def cacheOwnsSpec : ChangeSpec := { name := "cacheOwns", fn := fun _ => fun
  | [d1, d2] => { results := [.lit (.bool true)], args := [d1, d2] }
  | _ => none }
def cacheOwnsRow : OpenClaim := { program := "ytfifgojbihdhcaa", sum := "4b703accab83e4cce5f44ea72ba692cc3e2e695f337e5b7da645ca32fb2d1294", func := "ostinato/ostinatolaw08.CacheOwns", spec := "cacheOwns", unfollowed := true, recurses := true, apart := false }
def CacheOwnsSaid : Prop := cacheOwnsRow.holds Try.pinned (OpenSpec.ofChange cacheOwnsSpec)

/-- ITS FALSE NEIGHBOUR: 'it returns false'. Refute it at one input. -/
def cacheOwnsWrong : ChangeSpec := { name := "cacheOwns", fn := fun _ => fun
  | [d1, d2] => { results := [.lit (.bool false)], args := [d1, d2] }
  | _ => none }
def CacheOwnsWrongFalsely : Prop := cacheOwnsRow.holds Try.pinned (OpenSpec.ofChange cacheOwnsWrong)

/-- 'ostinatolaw08.CacheTicks': WHATEVER THE INPUT: true; the input reads as it did. -/
def cacheTicksSpec : ChangeSpec := { name := "cacheTicks", fn := fun _ => fun
  | [d1, d2] => { results := [.lit (.bool true)], args := [d1, d2] }
  | _ => none }
def cacheTicksRow : OpenClaim := { program := "ytfifgojbihdhcaa", sum := "4b703accab83e4cce5f44ea72ba692cc3e2e695f337e5b7da645ca32fb2d1294", func := "ostinato/ostinatolaw08.CacheTicks", spec := "cacheTicks", apart := false }
def CacheTicksSaid : Prop := cacheTicksRow.holds Try.pinned (OpenSpec.ofChange cacheTicksSpec)

/-- ITS FALSE NEIGHBOUR: 'it returns false'. Refute it at one input. -/
def cacheTicksWrong : ChangeSpec := { name := "cacheTicks", fn := fun _ => fun
  | [d1, d2] => { results := [.lit (.bool false)], args := [d1, d2] }
  | _ => none }
def CacheTicksWrongFalsely : Prop := cacheTicksRow.holds Try.pinned (OpenSpec.ofChange cacheTicksWrong)

/-- 'ostinatolaw08.CacheNil': WHATEVER THE INPUT: true; the input reads as it did. -/
def cacheNilSpec : ChangeSpec := { name := "cacheNil", fn := fun _ => fun
  | [d1, d2, d3] => { results := [.lit (.bool true)], args := [d1, d2, d3] }
  | _ => none }
def cacheNilRow : OpenClaim := { program := "ytfifgojbihdhcaa", sum := "4b703accab83e4cce5f44ea72ba692cc3e2e695f337e5b7da645ca32fb2d1294", func := "ostinato/ostinatolaw08.CacheNil", spec := "cacheNil", unfollowed := true, recurses := true, apart := false }
def CacheNilSaid : Prop := cacheNilRow.holds Try.pinned (OpenSpec.ofChange cacheNilSpec)

/-- ITS FALSE NEIGHBOUR: 'it returns false'. Refute it at one input. -/
def cacheNilWrong : ChangeSpec := { name := "cacheNil", fn := fun _ => fun
  | [d1, d2, d3] => { results := [.lit (.bool false)], args := [d1, d2, d3] }
  | _ => none }
def CacheNilWrongFalsely : Prop := cacheNilRow.holds Try.pinned (OpenSpec.ofChange cacheNilWrong)

/- THE SECOND FORM. 'bulk': how many values and letters a reading holds, each counted each time it is reached (what is shared counts as often as it is met; a slice's spare places count too). A statement '..UptoSaid' is the law's where the arguments, and the package variables that the reading takes, are together of bulk at most 1048576: NARROWER than '..Said'. Prove '..Said' where nothing that the law and all that it calls make is longer than what came in: it says more and counts as full. Else prove '..UptoSaid'. A law counts once. -/
mutual
def uptoBulk {H : Type} : DataW H → Nat
  | .lit (.string bytes) => bytes.length + 1
  | .lit _ => 1
  | .nil => 1
  | .ptr d => uptoBulk d + 1
  | .slice elems spare => uptoBulkAll elems + uptoBulkAll spare + 1
  | .agg parts => uptoBulkAll parts + 1
  | .iface _ d => uptoBulk d + 1
  | .map entries => uptoBulkEntries entries + 1
  | .held _ => 1
def uptoBulkAll {H : Type} : List (DataW H) → Nat
  | [] => 0
  | d :: r => uptoBulk d + uptoBulkAll r
def uptoBulkEntries {H : Type} : List (Lit × DataW H) → Nat
  | [] => 0
  | x :: r => uptoBulkEntry x + uptoBulkEntries r
def uptoBulkEntry {H : Type} : Lit × DataW H → Nat
  | (.string bytes, d) => bytes.length + uptoBulk d + 1
  | (_, d) => uptoBulk d + 1
 end
def uptoSmall : (H : Type) → List (DataW H) → Bool := fun _ ds => decide (uptoBulkAll ds ≤ 1048576)
def OpenSpec.upto (s : _root_.Go.ChangeSpec) : _root_.Go.OpenSpec := { _root_.Go.OpenSpec.ofChange s with cond := some uptoSmall }

/-- 'ostinatolaw08.CachePlays', WHERE WHAT IT READS IS OF BULK AT MOST 1048576: true; the input reads as it did. -/
def cachePlaysUptoRow : OpenClaim := { program := "ytfifgojbihdhcaa", sum := "4b703accab83e4cce5f44ea72ba692cc3e2e695f337e5b7da645ca32fb2d1294", func := "ostinato/ostinatolaw08.CachePlays", spec := "cachePlays", unfollowed := true, recurses := true, apart := false, narrowed := true }
def CachePlaysUptoSaid : Prop := cachePlaysUptoRow.holds Try.pinned (OpenSpec.upto cachePlaysSpec)

/-- 'ostinatolaw08.CacheAlone', WHERE WHAT IT READS IS OF BULK AT MOST 1048576: true; the input reads as it did. -/
def cacheAloneUptoRow : OpenClaim := { program := "ytfifgojbihdhcaa", sum := "4b703accab83e4cce5f44ea72ba692cc3e2e695f337e5b7da645ca32fb2d1294", func := "ostinato/ostinatolaw08.CacheAlone", spec := "cacheAlone", unfollowed := true, recurses := true, apart := false, narrowed := true }
def CacheAloneUptoSaid : Prop := cacheAloneUptoRow.holds Try.pinned (OpenSpec.upto cacheAloneSpec)

/-- 'ostinatolaw08.CacheOwns', WHERE WHAT IT READS IS OF BULK AT MOST 1048576: true; the input reads as it did. -/
def cacheOwnsUptoRow : OpenClaim := { program := "ytfifgojbihdhcaa", sum := "4b703accab83e4cce5f44ea72ba692cc3e2e695f337e5b7da645ca32fb2d1294", func := "ostinato/ostinatolaw08.CacheOwns", spec := "cacheOwns", unfollowed := true, recurses := true, apart := false, narrowed := true }
def CacheOwnsUptoSaid : Prop := cacheOwnsUptoRow.holds Try.pinned (OpenSpec.upto cacheOwnsSpec)

/-- 'ostinatolaw08.CacheTicks', WHERE WHAT IT READS IS OF BULK AT MOST 1048576: true; the input reads as it did. -/
def cacheTicksUptoRow : OpenClaim := { program := "ytfifgojbihdhcaa", sum := "4b703accab83e4cce5f44ea72ba692cc3e2e695f337e5b7da645ca32fb2d1294", func := "ostinato/ostinatolaw08.CacheTicks", spec := "cacheTicks", apart := false, narrowed := true }
def CacheTicksUptoSaid : Prop := cacheTicksUptoRow.holds Try.pinned (OpenSpec.upto cacheTicksSpec)

/-- 'ostinatolaw08.CacheNil', WHERE WHAT IT READS IS OF BULK AT MOST 1048576: true; the input reads as it did. -/
def cacheNilUptoRow : OpenClaim := { program := "ytfifgojbihdhcaa", sum := "4b703accab83e4cce5f44ea72ba692cc3e2e695f337e5b7da645ca32fb2d1294", func := "ostinato/ostinatolaw08.CacheNil", spec := "cacheNil", unfollowed := true, recurses := true, apart := false, narrowed := true }
def CacheNilUptoSaid : Prop := cacheNilUptoRow.holds Try.pinned (OpenSpec.upto cacheNilSpec)

end Rows
end Go.Proofs.Ytfifgojbihdhcaa
