/-
  DERIVED. GIVEN WITH THE SEED: THE CARDS: each row of YtholfdfjapgfbabGreatDoorRows.lean that lists a variable, with what it lists TIED to the program's text (the seventh form; the later family's looks); each row that meets fmt, with fmt's text TOLD by the authors' own Lean function (tested against real Go, not proved from fmt's source: count such statements apart). THE CARD IS WHAT COUNTS. Prove the row's statement (the work); the ties are given (YtholfdfjapgfbabGreatDoorTie.lean); close each card by the builder's one call (the guide's Derived/Test/ToyasCard.lean, 'card_holds'). Laid BY PROGRAM, IN A SANDBOX (cutbox-door.mjs). By AI agents, Wed Nov 11 2026. No macro, syntax, notation, axiom, sorry.
-/
import Derived.Test.YtholfdfjapgfbabGreatDoorRows
import GoSem.ClaimSeven
namespace Go.Proofs.YtholfdfjapgfbabGreatDoor
namespace Rows

/-- THE TIED CARD OF 'versolaw05.SerValue'. -/
def serValueCard : Claim7 := { stood := { row := serValueRow, standIns := [], harness := (true, "87a1598f79fc49fc7347818f0c4dd7c2c86670fff3021527b251e4b756151d60"), looks := true }, kinds := [], alts := [], laidByText := true, laidKinds := [.data, .data, .data, .sentinel, .sentinel], laidTests := true, laidLooks := .later }
def SerValueCardSaid : Prop := Claim7.holds Tryz.pinned (.plain (OpenSpec.ofChange serValueSpec)) serValueCard

/-- THE SECOND FORM's CARD OF 'versolaw05.SerValue'. -/
def serValueUptoCard : Claim7 := { stood := { row := serValueUptoRow, standIns := [], harness := (true, "87a1598f79fc49fc7347818f0c4dd7c2c86670fff3021527b251e4b756151d60"), looks := true }, kinds := [], alts := [], laidByText := true, laidKinds := [.data, .data, .data, .sentinel, .sentinel], laidTests := true, laidLooks := .later }
def SerValueUptoCardSaid : Prop := Claim7.holds Tryz.pinned (.plain (OpenSpec.upto serValueSpec)) serValueUptoCard
end Rows
end Go.Proofs.YtholfdfjapgfbabGreatDoor
