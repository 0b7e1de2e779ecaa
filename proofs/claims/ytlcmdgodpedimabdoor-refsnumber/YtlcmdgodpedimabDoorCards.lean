/-
  DERIVED. GIVEN WITH THE SEED: THE CARDS: each row of YtlcmdgodpedimabDoorRows.lean that lists a variable, with what it lists TIED to the program's text (the seventh form; the later family's looks); each row that meets fmt, with fmt's text TOLD by the authors' own Lean function (tested against real Go, not proved from fmt's source: count such statements apart). THE CARD IS WHAT COUNTS. Prove the row's statement (the work); the ties are given (YtlcmdgodpedimabDoorTie.lean); close each card by the builder's one call (the guide's Derived/Test/ToyasCard.lean, 'card_holds'). Laid BY PROGRAM, IN A SANDBOX (cutbox-door.mjs). By AI agents, Wed Nov 11 2026. No macro, syntax, notation, axiom, sorry.
-/
import Derived.Test.YtlcmdgodpedimabDoorRows
import GoSem.ClaimSeven
namespace Go.Proofs.YtlcmdgodpedimabDoor
namespace Rows

/-- THE TIED CARD OF 'versolaw02.RefsNumber'. -/
def refsNumberCard : Claim7 := { stood := { row := refsNumberRow, standIns := [], harness := (true, "891821475b25b2eea7993f1ee169b809a75489d6631516073ef2256a8450c604"), looks := true }, kinds := [], alts := [], laidByText := true, laidKinds := [.data, .data, .data, .sentinel, .sentinel], laidTests := true, laidLooks := .later }
def RefsNumberCardSaid : Prop := Claim7.holds Tryd.pinned (.plain (OpenSpec.ofChange refsNumberSpec)) refsNumberCard

/-- THE TIED CARD OF 'versolaw02.RefsSizes'. -/
def refsSizesCard : Claim7 := { stood := { row := refsSizesRow, standIns := [], harness := (true, "891821475b25b2eea7993f1ee169b809a75489d6631516073ef2256a8450c604"), looks := true }, kinds := [], alts := [], laidByText := true, laidKinds := [.data, .data, .data, .sentinel, .sentinel], laidTests := true, laidLooks := .later }
def RefsSizesCardSaid : Prop := Claim7.holds Tryd.pinned (.plain (OpenSpec.ofChange refsSizesSpec)) refsSizesCard

/-- THE SECOND FORM's CARD OF 'versolaw02.RefsNumber'. -/
def refsNumberUptoCard : Claim7 := { stood := { row := refsNumberUptoRow, standIns := [], harness := (true, "891821475b25b2eea7993f1ee169b809a75489d6631516073ef2256a8450c604"), looks := true }, kinds := [], alts := [], laidByText := true, laidKinds := [.data, .data, .data, .sentinel, .sentinel], laidTests := true, laidLooks := .later }
def RefsNumberUptoCardSaid : Prop := Claim7.holds Tryd.pinned (.plain (OpenSpec.upto refsNumberSpec)) refsNumberUptoCard

/-- THE SECOND FORM's CARD OF 'versolaw02.RefsSizes'. -/
def refsSizesUptoCard : Claim7 := { stood := { row := refsSizesUptoRow, standIns := [], harness := (true, "891821475b25b2eea7993f1ee169b809a75489d6631516073ef2256a8450c604"), looks := true }, kinds := [], alts := [], laidByText := true, laidKinds := [.data, .data, .data, .sentinel, .sentinel], laidTests := true, laidLooks := .later }
def RefsSizesUptoCardSaid : Prop := Claim7.holds Tryd.pinned (.plain (OpenSpec.upto refsSizesSpec)) refsSizesUptoCard
end Rows
end Go.Proofs.YtlcmdgodpedimabDoor
