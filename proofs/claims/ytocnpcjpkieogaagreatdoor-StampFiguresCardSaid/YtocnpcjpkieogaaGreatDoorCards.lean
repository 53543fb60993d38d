/-
  DERIVED. GIVEN WITH THE SEED: THE CARDS: each row of YtocnpcjpkieogaaGreatDoorRows.lean that lists a variable, with what it lists TIED to the program's text (the seventh form; the later family's looks); each row that meets fmt, with fmt's text TOLD by the authors' own Lean function (tested against real Go, not proved from fmt's source: count such statements apart). THE CARD IS WHAT COUNTS. Prove the row's statement (the work); the ties are given (YtocnpcjpkieogaaGreatDoorTie.lean); close each card by the builder's one call (the guide's Derived/Test/ToyasCard.lean, 'card_holds'). Laid BY PROGRAM, IN A SANDBOX (cutbox-door.mjs). By AI agents, Wed Nov 11 2026. No macro, syntax, notation, axiom, sorry.
-/
import Derived.Test.YtocnpcjpkieogaaGreatDoorRows
import GoSem.ClaimSeven
namespace Go.Proofs.YtocnpcjpkieogaaGreatDoor
namespace Rows

/-- THE TIED CARD OF 'orrerylaw09.StampFigures'. -/
def stampFiguresCard : Claim7 := { stood := { row := stampFiguresRow, standIns := [], harness := (true, "f145f601e03e0dc01a0171fa1d59fd440ecb9a97ee7176f8585e5959ed900f43"), looks := true }, kinds := [], alts := [], laidByText := true, laidKinds := [.data, .data, .widerDeep, .widerDeep, .data, .data, .data, .data, .data, .data, .sentinel, .sentinel, .pinned, .pinned, .pinned], laidTests := true, laidLooks := .later }
def StampFiguresCardSaid : Prop := Claim7.holds Tryz.pinned (.plain (OpenSpec.ofChange stampFiguresSpec)) stampFiguresCard

/-- THE SECOND FORM's CARD OF 'orrerylaw09.StampFigures'. -/
def stampFiguresUptoCard : Claim7 := { stood := { row := stampFiguresUptoRow, standIns := [], harness := (true, "f145f601e03e0dc01a0171fa1d59fd440ecb9a97ee7176f8585e5959ed900f43"), looks := true }, kinds := [], alts := [], laidByText := true, laidKinds := [.data, .data, .widerDeep, .widerDeep, .data, .data, .data, .data, .data, .data, .sentinel, .sentinel, .pinned, .pinned, .pinned], laidTests := true, laidLooks := .later }
def StampFiguresUptoCardSaid : Prop := Claim7.holds Tryz.pinned (.plain (OpenSpec.upto stampFiguresSpec)) stampFiguresUptoCard
end Rows
end Go.Proofs.YtocnpcjpkieogaaGreatDoor
