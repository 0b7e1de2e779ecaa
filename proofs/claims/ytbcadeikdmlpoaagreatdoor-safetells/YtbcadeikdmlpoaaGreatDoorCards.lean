/-
  DERIVED. GIVEN WITH THE SEED: THE CARDS: each row of YtbcadeikdmlpoaaGreatDoorRows.lean that lists a variable, with what it lists TIED to the program's text (the seventh form; the later family's looks); each row that meets fmt, with fmt's text TOLD by the authors' own Lean function (tested against real Go, not proved from fmt's source: count such statements apart). THE CARD IS WHAT COUNTS. Prove the row's statement (the work); the ties are given (YtbcadeikdmlpoaaGreatDoorTie.lean); close each card by the builder's one call (the guide's Derived/Test/ToyasCard.lean, 'card_holds'). Laid BY PROGRAM, IN A SANDBOX (cutbox-door.mjs). By AI agents, Wed Nov 11 2026. No macro, syntax, notation, axiom, sorry.
-/
import Derived.Test.YtbcadeikdmlpoaaGreatDoorRows
import GoSem.ClaimSeven
namespace Go.Proofs.YtbcadeikdmlpoaaGreatDoor
namespace Rows

/-- THE TIED CARD OF 'versolaw10.SafeTells'. -/
def safeTellsCard : Claim7 := { stood := { row := safeTellsRow, standIns := [], harness := (true, "ea5670fe3c2ab90cb0b7d62a37a899c5cc3542115b897359b246b823e2f8f184"), looks := false }, kinds := [], alts := [], laidByText := true, laidKinds := [.data, .pinned], laidTests := true, laidLooks := .later }
def SafeTellsCardSaid : Prop := Claim7.holds Tryz.pinned (.plain (OpenSpec.ofChange safeTellsSpec)) safeTellsCard

/-- THE TIED CARD OF 'versolaw10.SafeStricter'. -/
def safeStricterCard : Claim7 := { stood := { row := safeStricterRow, standIns := [], harness := (true, "ea5670fe3c2ab90cb0b7d62a37a899c5cc3542115b897359b246b823e2f8f184"), looks := false }, kinds := [], alts := [], laidByText := true, laidKinds := [.data, .pinned], laidTests := true, laidLooks := .later }
def SafeStricterCardSaid : Prop := Claim7.holds Tryz.pinned (.plain (OpenSpec.ofChange safeStricterSpec)) safeStricterCard

/-- THE SECOND FORM's CARD OF 'versolaw10.SafeTells'. -/
def safeTellsUptoCard : Claim7 := { stood := { row := safeTellsUptoRow, standIns := [], harness := (true, "ea5670fe3c2ab90cb0b7d62a37a899c5cc3542115b897359b246b823e2f8f184"), looks := false }, kinds := [], alts := [], laidByText := true, laidKinds := [.data, .pinned], laidTests := true, laidLooks := .later }
def SafeTellsUptoCardSaid : Prop := Claim7.holds Tryz.pinned (.plain (OpenSpec.upto safeTellsSpec)) safeTellsUptoCard

/-- THE SECOND FORM's CARD OF 'versolaw10.SafeStricter'. -/
def safeStricterUptoCard : Claim7 := { stood := { row := safeStricterUptoRow, standIns := [], harness := (true, "ea5670fe3c2ab90cb0b7d62a37a899c5cc3542115b897359b246b823e2f8f184"), looks := false }, kinds := [], alts := [], laidByText := true, laidKinds := [.data, .pinned], laidTests := true, laidLooks := .later }
def SafeStricterUptoCardSaid : Prop := Claim7.holds Tryz.pinned (.plain (OpenSpec.upto safeStricterSpec)) safeStricterUptoCard
end Rows
end Go.Proofs.YtbcadeikdmlpoaaGreatDoor
