/-
  DERIVED. GIVEN WITH THE SEED: THE CARDS: each row of YtjmgcdeinjamiabDoorRows.lean that lists a variable, with what it lists TIED to the program's text (the seventh form; the later family's looks); each row that meets fmt, with fmt's text TOLD by the authors' own Lean function (tested against real Go, not proved from fmt's source: count such statements apart). THE CARD IS WHAT COUNTS. Prove the row's statement (the work); the ties are given (YtjmgcdeinjamiabDoorTie.lean); close each card by the builder's one call (the guide's Derived/Test/ToyasCard.lean, 'card_holds'). Laid BY PROGRAM, IN A SANDBOX (cutbox-door.mjs). By AI agents, Wed Nov 11 2026. No macro, syntax, notation, axiom, sorry.
-/
import Derived.Test.YtjmgcdeinjamiabDoorRows
import GoSem.ClaimSeven
namespace Go.Proofs.YtjmgcdeinjamiabDoor
namespace Rows

/-- THE TIED CARD OF 'versolaw03.TokNote'. -/
def tokNoteCard : Claim7 := { stood := { row := tokNoteRow, standIns := [], harness := (true, "4d248b37721c7f3b58fc6a79200c0e92db5acba8ecb40e6c20cc3c0c42499df9"), looks := true }, kinds := [], alts := [], laidByText := true, laidKinds := [.data, .data, .data, .sentinel, .sentinel], laidTests := true, laidLooks := .later }
def TokNoteCardSaid : Prop := Claim7.holds Tryd.pinned (.plain (OpenSpec.ofChange tokNoteSpec)) tokNoteCard

/-- THE TIED CARD OF 'versolaw03.TokWithin'. -/
def tokWithinCard : Claim7 := { stood := { row := tokWithinRow, standIns := [], harness := (true, "4d248b37721c7f3b58fc6a79200c0e92db5acba8ecb40e6c20cc3c0c42499df9"), looks := true }, kinds := [], alts := [], laidByText := true, laidKinds := [.data, .data, .data, .sentinel, .sentinel], laidTests := true, laidLooks := .later }
def TokWithinCardSaid : Prop := Claim7.holds Tryd.pinned (.plain (OpenSpec.ofChange tokWithinSpec)) tokWithinCard

/-- THE SECOND FORM's CARD OF 'versolaw03.TokNote'. -/
def tokNoteUptoCard : Claim7 := { stood := { row := tokNoteUptoRow, standIns := [], harness := (true, "4d248b37721c7f3b58fc6a79200c0e92db5acba8ecb40e6c20cc3c0c42499df9"), looks := true }, kinds := [], alts := [], laidByText := true, laidKinds := [.data, .data, .data, .sentinel, .sentinel], laidTests := true, laidLooks := .later }
def TokNoteUptoCardSaid : Prop := Claim7.holds Tryd.pinned (.plain (OpenSpec.upto tokNoteSpec)) tokNoteUptoCard

/-- THE SECOND FORM's CARD OF 'versolaw03.TokWithin'. -/
def tokWithinUptoCard : Claim7 := { stood := { row := tokWithinUptoRow, standIns := [], harness := (true, "4d248b37721c7f3b58fc6a79200c0e92db5acba8ecb40e6c20cc3c0c42499df9"), looks := true }, kinds := [], alts := [], laidByText := true, laidKinds := [.data, .data, .data, .sentinel, .sentinel], laidTests := true, laidLooks := .later }
def TokWithinUptoCardSaid : Prop := Claim7.holds Tryd.pinned (.plain (OpenSpec.upto tokWithinSpec)) tokWithinUptoCard
end Rows
end Go.Proofs.YtjmgcdeinjamiabDoor
