/-
  DERIVED. GIVEN WITH THE SEED: THE CARDS: each row of YtholfdfjapgfbaaDoorRows.lean that lists a variable, with what it lists TIED to the program's text (the seventh form; the later family's looks); each row that meets fmt, with fmt's text TOLD by the authors' own Lean function (tested against real Go, not proved from fmt's source: count such statements apart). THE CARD IS WHAT COUNTS. Prove the row's statement (the work); the ties are given (YtholfdfjapgfbaaDoorTie.lean); close each card by the builder's one call (the guide's Derived/Test/ToyasCard.lean, 'card_holds'). Laid BY PROGRAM, IN A SANDBOX (cutbox-door.mjs). By AI agents, Wed Nov 11 2026. No macro, syntax, notation, axiom, sorry.
-/
import Derived.Test.YtholfdfjapgfbaaDoorRows
import GoSem.ClaimSeven
namespace Go.Proofs.YtholfdfjapgfbaaDoor
namespace Rows

/-- THE TIED CARD OF 'versolaw05.SerText'. -/
def serTextCard : Claim7 := { stood := { row := serTextRow, standIns := [], harness := (true, "d9979010df607264350a3ee4247ee62c7a2c7640b6a2756c8d3a6a8a64411eba"), looks := true }, kinds := [], alts := [], laidByText := true, laidKinds := [.data, .data, .data, .sentinel, .sentinel], laidTests := true, laidLooks := .later }
def SerTextCardSaid : Prop := Claim7.holds Tryd.pinned (.plain (OpenSpec.ofChange serTextSpec)) serTextCard

/-- THE SECOND FORM's CARD OF 'versolaw05.SerText'. -/
def serTextUptoCard : Claim7 := { stood := { row := serTextUptoRow, standIns := [], harness := (true, "d9979010df607264350a3ee4247ee62c7a2c7640b6a2756c8d3a6a8a64411eba"), looks := true }, kinds := [], alts := [], laidByText := true, laidKinds := [.data, .data, .data, .sentinel, .sentinel], laidTests := true, laidLooks := .later }
def SerTextUptoCardSaid : Prop := Claim7.holds Tryd.pinned (.plain (OpenSpec.upto serTextSpec)) serTextUptoCard
end Rows
end Go.Proofs.YtholfdfjapgfbaaDoor
