/-
  DERIVED. GIVEN WITH THE SEED: THE CARDS: each row of YtlpffgmfgkleiaaGreatDoorRows.lean that lists a variable, with what it lists TIED to the program's text (the seventh form; the later family's looks); each row that meets fmt, with fmt's text TOLD by the authors' own Lean function (tested against real Go, not proved from fmt's source: count such statements apart). THE CARD IS WHAT COUNTS. Prove the row's statement (the work); the ties are given (YtlpffgmfgkleiaaGreatDoorTie.lean); close each card by the builder's one call (the guide's Derived/Test/ToyasCard.lean, 'card_holds'). Laid BY PROGRAM, IN A SANDBOX (cutbox-door.mjs). By AI agents, Wed Nov 11 2026. No macro, syntax, notation, axiom, sorry.
-/
import Derived.Test.YtlpffgmfgkleiaaGreatDoorRows
import GoSem.ClaimSeven
namespace Go.Proofs.YtlpffgmfgkleiaaGreatDoor
namespace Rows

/-- THE TIED CARD OF 'ostinatolaw07.ParseLines'. -/
def parseLinesCard : Claim7 := { stood := { row := parseLinesRow, standIns := [], harness := (true, "05bdb12f0005fb8d57bfc251e0fe6a9b94f646cf1f0471a931bc8973a511d221"), looks := true }, kinds := [], alts := [], laidByText := true, laidKinds := [.data, .data, .data, .data, .pinned], laidTests := true, laidLooks := .later }
def ParseLinesCardSaid : Prop := Claim7.holds Tryz.pinned (.plain (OpenSpec.ofChange parseLinesSpec)) parseLinesCard

/-- THE SECOND FORM's CARD OF 'ostinatolaw07.ParseLines'. -/
def parseLinesUptoCard : Claim7 := { stood := { row := parseLinesUptoRow, standIns := [], harness := (true, "05bdb12f0005fb8d57bfc251e0fe6a9b94f646cf1f0471a931bc8973a511d221"), looks := true }, kinds := [], alts := [], laidByText := true, laidKinds := [.data, .data, .data, .data, .pinned], laidTests := true, laidLooks := .later }
def ParseLinesUptoCardSaid : Prop := Claim7.holds Tryz.pinned (.plain (OpenSpec.upto parseLinesSpec)) parseLinesUptoCard
end Rows
end Go.Proofs.YtlpffgmfgkleiaaGreatDoor
