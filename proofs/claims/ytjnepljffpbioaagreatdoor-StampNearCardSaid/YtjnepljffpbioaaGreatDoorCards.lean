/-
  DERIVED. GIVEN WITH THE SEED: THE CARDS: each row of YtjnepljffpbioaaGreatDoorRows.lean that lists a variable, with what it lists TIED to the program's text (the seventh form; the later family's looks); each row that meets fmt, with fmt's text TOLD by the authors' own Lean function (tested against real Go, not proved from fmt's source: count such statements apart). THE CARD IS WHAT COUNTS. Prove the row's statement (the work); the ties are given (YtjnepljffpbioaaGreatDoorTie.lean); close each card by the builder's one call (the guide's Derived/Test/ToyasCard.lean, 'card_holds'). Laid BY PROGRAM, IN A SANDBOX (cutbox-door.mjs). By AI agents, Wed Nov 11 2026. No macro, syntax, notation, axiom, sorry.
-/
import Derived.Test.YtjnepljffpbioaaGreatDoorRows
import GoSem.ClaimSeven
namespace Go.Proofs.YtjnepljffpbioaaGreatDoor
namespace Rows

/-- THE TIED CARD OF 'orrerylaw09.StampTells'. -/
def stampTellsCard : Claim7 := { stood := { row := stampTellsRow, standIns := [], harness := (true, "6cc8de3386d1278c4b540f3cd3f4a24a4b2572200971deb636c9c1bc32ee4ac6"), looks := true }, kinds := [], alts := [], laidByText := true, laidKinds := [.data, .data, .data, .data, .data, .pinned, .pinned, .pinned], laidTests := true, laidLooks := .later }
def StampTellsCardSaid : Prop := Claim7.holds Tryz.pinned (.plain (OpenSpec.ofChange stampTellsSpec)) stampTellsCard

/-- THE TIED CARD OF 'orrerylaw09.StampFigures'. -/
def stampFiguresCard : Claim7 := { stood := { row := stampFiguresRow, standIns := [], harness := (true, "6cc8de3386d1278c4b540f3cd3f4a24a4b2572200971deb636c9c1bc32ee4ac6"), looks := true }, kinds := [], alts := [], laidByText := true, laidKinds := [.data, .data, .widerDeep, .widerDeep, .data, .data, .data, .data, .data, .data, .sentinel, .sentinel, .pinned, .pinned, .pinned], laidTests := true, laidLooks := .later }
def StampFiguresCardSaid : Prop := Claim7.holds Tryz.pinned (.plain (OpenSpec.ofChange stampFiguresSpec)) stampFiguresCard

/-- THE TIED CARD OF 'orrerylaw09.StampBack'. -/
def stampBackCard : Claim7 := { stood := { row := stampBackRow, standIns := [], harness := (true, "6cc8de3386d1278c4b540f3cd3f4a24a4b2572200971deb636c9c1bc32ee4ac6"), looks := true }, kinds := [], alts := [], laidByText := true, laidKinds := [.data, .data, .data, .data, .data, .pinned, .pinned, .pinned], laidTests := true, laidLooks := .later }
def StampBackCardSaid : Prop := Claim7.holds Tryz.pinned (.plain (OpenSpec.ofChange stampBackSpec)) stampBackCard

/-- THE TIED CARD OF 'orrerylaw09.StampNear'. -/
def stampNearCard : Claim7 := { stood := { row := stampNearRow, standIns := [], harness := (true, "6cc8de3386d1278c4b540f3cd3f4a24a4b2572200971deb636c9c1bc32ee4ac6"), looks := true }, kinds := [], alts := [], laidByText := true, laidKinds := [.data, .data, .widerDeep, .widerDeep, .data, .data, .data, .data, .data, .data, .sentinel, .sentinel, .pinned, .pinned, .pinned], laidTests := true, laidLooks := .later }
def StampNearCardSaid : Prop := Claim7.holds Tryz.pinned (.plain (OpenSpec.ofChange stampNearSpec)) stampNearCard

/-- THE TIED CARD OF 'orrerylaw09.StampSame'. -/
def stampSameCard : Claim7 := { stood := { row := stampSameRow, standIns := [], harness := (true, "6cc8de3386d1278c4b540f3cd3f4a24a4b2572200971deb636c9c1bc32ee4ac6"), looks := true }, kinds := [], alts := [], laidByText := true, laidKinds := [.data, .data, .widerDeep, .widerDeep, .data, .data, .data, .data, .data, .data, .sentinel, .sentinel, .pinned, .pinned, .pinned], laidTests := true, laidLooks := .later }
def StampSameCardSaid : Prop := Claim7.holds Tryz.pinned (.plain (OpenSpec.ofChange stampSameSpec)) stampSameCard

/-- THE SECOND FORM's CARD OF 'orrerylaw09.StampTells'. -/
def stampTellsUptoCard : Claim7 := { stood := { row := stampTellsUptoRow, standIns := [], harness := (true, "6cc8de3386d1278c4b540f3cd3f4a24a4b2572200971deb636c9c1bc32ee4ac6"), looks := true }, kinds := [], alts := [], laidByText := true, laidKinds := [.data, .data, .data, .data, .data, .pinned, .pinned, .pinned], laidTests := true, laidLooks := .later }
def StampTellsUptoCardSaid : Prop := Claim7.holds Tryz.pinned (.plain (OpenSpec.upto stampTellsSpec)) stampTellsUptoCard

/-- THE SECOND FORM's CARD OF 'orrerylaw09.StampFigures'. -/
def stampFiguresUptoCard : Claim7 := { stood := { row := stampFiguresUptoRow, standIns := [], harness := (true, "6cc8de3386d1278c4b540f3cd3f4a24a4b2572200971deb636c9c1bc32ee4ac6"), looks := true }, kinds := [], alts := [], laidByText := true, laidKinds := [.data, .data, .widerDeep, .widerDeep, .data, .data, .data, .data, .data, .data, .sentinel, .sentinel, .pinned, .pinned, .pinned], laidTests := true, laidLooks := .later }
def StampFiguresUptoCardSaid : Prop := Claim7.holds Tryz.pinned (.plain (OpenSpec.upto stampFiguresSpec)) stampFiguresUptoCard

/-- THE SECOND FORM's CARD OF 'orrerylaw09.StampBack'. -/
def stampBackUptoCard : Claim7 := { stood := { row := stampBackUptoRow, standIns := [], harness := (true, "6cc8de3386d1278c4b540f3cd3f4a24a4b2572200971deb636c9c1bc32ee4ac6"), looks := true }, kinds := [], alts := [], laidByText := true, laidKinds := [.data, .data, .data, .data, .data, .pinned, .pinned, .pinned], laidTests := true, laidLooks := .later }
def StampBackUptoCardSaid : Prop := Claim7.holds Tryz.pinned (.plain (OpenSpec.upto stampBackSpec)) stampBackUptoCard

/-- THE SECOND FORM's CARD OF 'orrerylaw09.StampNear'. -/
def stampNearUptoCard : Claim7 := { stood := { row := stampNearUptoRow, standIns := [], harness := (true, "6cc8de3386d1278c4b540f3cd3f4a24a4b2572200971deb636c9c1bc32ee4ac6"), looks := true }, kinds := [], alts := [], laidByText := true, laidKinds := [.data, .data, .widerDeep, .widerDeep, .data, .data, .data, .data, .data, .data, .sentinel, .sentinel, .pinned, .pinned, .pinned], laidTests := true, laidLooks := .later }
def StampNearUptoCardSaid : Prop := Claim7.holds Tryz.pinned (.plain (OpenSpec.upto stampNearSpec)) stampNearUptoCard

/-- THE SECOND FORM's CARD OF 'orrerylaw09.StampSame'. -/
def stampSameUptoCard : Claim7 := { stood := { row := stampSameUptoRow, standIns := [], harness := (true, "6cc8de3386d1278c4b540f3cd3f4a24a4b2572200971deb636c9c1bc32ee4ac6"), looks := true }, kinds := [], alts := [], laidByText := true, laidKinds := [.data, .data, .widerDeep, .widerDeep, .data, .data, .data, .data, .data, .data, .sentinel, .sentinel, .pinned, .pinned, .pinned], laidTests := true, laidLooks := .later }
def StampSameUptoCardSaid : Prop := Claim7.holds Tryz.pinned (.plain (OpenSpec.upto stampSameSpec)) stampSameUptoCard
end Rows
end Go.Proofs.YtjnepljffpbioaaGreatDoor
