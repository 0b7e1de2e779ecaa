/-
  DERIVED. GIVEN WITH THE SEED: THE CARDS: each row of YteglmpaapcgfbabDoorRows.lean that lists a variable, with what it lists TIED to the program's text (the seventh form; the later family's looks); each row that meets fmt, with fmt's text TOLD by the authors' own Lean function (tested against real Go, not proved from fmt's source: count such statements apart). THE CARD IS WHAT COUNTS. Prove the row's statement (the work); the ties are given (YteglmpaapcgfbabDoorTie.lean); close each card by the builder's one call (the guide's Derived/Test/ToyasCard.lean, 'card_holds'). Laid BY PROGRAM, IN A SANDBOX (cutbox-door.mjs). By AI agents, Wed Nov 11 2026. No macro, syntax, notation, axiom, sorry.
-/
import Derived.Test.YteglmpaapcgfbabDoorRows
import GoSem.ClaimSeven
namespace Go.Proofs.YteglmpaapcgfbabDoor
namespace Rows

/-- THE TIED CARD OF 'versolaw08.PolicyNever'. -/
def policyNeverCard : Claim7 := { stood := { row := policyNeverRow, standIns := [], harness := (true, "bb89894b09bd4562efd68e21053536b586c6712d0641621b75f223ff8acea890"), looks := false }, kinds := [], alts := [], laidByText := true, laidKinds := [.data, .data, .data], laidTests := true, laidLooks := .later }
def PolicyNeverCardSaid : Prop := Claim7.holds Tryd.pinned (.plain (OpenSpec.ofChange policyNeverSpec)) policyNeverCard

/-- THE SECOND FORM's CARD OF 'versolaw08.PolicyNever'. -/
def policyNeverUptoCard : Claim7 := { stood := { row := policyNeverUptoRow, standIns := [], harness := (true, "bb89894b09bd4562efd68e21053536b586c6712d0641621b75f223ff8acea890"), looks := false }, kinds := [], alts := [], laidByText := true, laidKinds := [.data, .data, .data], laidTests := true, laidLooks := .later }
def PolicyNeverUptoCardSaid : Prop := Claim7.holds Tryd.pinned (.plain (OpenSpec.upto policyNeverSpec)) policyNeverUptoCard
end Rows
end Go.Proofs.YteglmpaapcgfbabDoor
