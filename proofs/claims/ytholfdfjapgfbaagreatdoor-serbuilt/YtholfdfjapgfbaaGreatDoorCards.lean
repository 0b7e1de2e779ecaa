/-
  DERIVED. GIVEN WITH THE SEED: THE CARDS: each row of YtholfdfjapgfbaaGreatDoorRows.lean that lists a variable, with what it lists TIED to the program's text (the seventh form; the later family's looks); each row that meets fmt, with fmt's text TOLD by the authors' own Lean function (tested against real Go, not proved from fmt's source: count such statements apart). THE CARD IS WHAT COUNTS. Prove the row's statement (the work); the ties are given (YtholfdfjapgfbaaGreatDoorTie.lean); close each card by the builder's one call (the guide's Derived/Test/ToyasCard.lean, 'card_holds'). Laid BY PROGRAM, IN A SANDBOX (cutbox-door.mjs). By AI agents, Wed Nov 11 2026. No macro, syntax, notation, axiom, sorry.
-/
import Derived.Test.YtholfdfjapgfbaaGreatDoorRows
import GoSem.ClaimSeven
namespace Go.Proofs.YtholfdfjapgfbaaGreatDoor
namespace Rows

/-- THE TIED CARD OF 'versolaw05.SerBack'. -/
def serBackCard : Claim7 := { stood := { row := serBackRow, standIns := [], harness := (true, "ef32051f41eaadfe0f94dc908d9349da86c765d99177991f2d7d2b919a87be1c"), looks := true }, kinds := [], alts := [], laidByText := true, laidKinds := [.data, .data, .data, .sentinel, .sentinel], laidTests := true, laidLooks := .later }
def SerBackCardSaid : Prop := Claim7.holds Tryz.pinned (.plain (OpenSpec.ofChange serBackSpec)) serBackCard

/-- THE TIED CARD OF 'versolaw05.SerBuilt'. -/
def serBuiltCard : Claim7 := { stood := { row := serBuiltRow, standIns := [], harness := (true, "ef32051f41eaadfe0f94dc908d9349da86c765d99177991f2d7d2b919a87be1c"), looks := true }, kinds := [], alts := [], laidByText := true, laidKinds := [.data, .data, .data, .sentinel, .sentinel], laidTests := true, laidLooks := .later }
def SerBuiltCardSaid : Prop := Claim7.holds Tryz.pinned (.plain (OpenSpec.ofChange serBuiltSpec)) serBuiltCard

/-- THE SECOND FORM's CARD OF 'versolaw05.SerBack'. -/
def serBackUptoCard : Claim7 := { stood := { row := serBackUptoRow, standIns := [], harness := (true, "ef32051f41eaadfe0f94dc908d9349da86c765d99177991f2d7d2b919a87be1c"), looks := true }, kinds := [], alts := [], laidByText := true, laidKinds := [.data, .data, .data, .sentinel, .sentinel], laidTests := true, laidLooks := .later }
def SerBackUptoCardSaid : Prop := Claim7.holds Tryz.pinned (.plain (OpenSpec.upto serBackSpec)) serBackUptoCard

/-- THE SECOND FORM's CARD OF 'versolaw05.SerBuilt'. -/
def serBuiltUptoCard : Claim7 := { stood := { row := serBuiltUptoRow, standIns := [], harness := (true, "ef32051f41eaadfe0f94dc908d9349da86c765d99177991f2d7d2b919a87be1c"), looks := true }, kinds := [], alts := [], laidByText := true, laidKinds := [.data, .data, .data, .sentinel, .sentinel], laidTests := true, laidLooks := .later }
def SerBuiltUptoCardSaid : Prop := Claim7.holds Tryz.pinned (.plain (OpenSpec.upto serBuiltSpec)) serBuiltUptoCard
end Rows
end Go.Proofs.YtholfdfjapgfbaaGreatDoor
