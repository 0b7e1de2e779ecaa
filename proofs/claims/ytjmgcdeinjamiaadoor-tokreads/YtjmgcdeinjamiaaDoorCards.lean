/-
  DERIVED. GIVEN WITH THE SEED: THE CARDS: each row of YtjmgcdeinjamiaaDoorRows.lean that lists a variable, with what it lists TIED to the program's text (the seventh form; the later family's looks); each row that meets fmt, with fmt's text TOLD by the authors' own Lean function (tested against real Go, not proved from fmt's source: count such statements apart). THE CARD IS WHAT COUNTS. Prove the row's statement (the work); the ties are given (YtjmgcdeinjamiaaDoorTie.lean); close each card by the builder's one call (the guide's Derived/Test/ToyasCard.lean, 'card_holds'). Laid BY PROGRAM, IN A SANDBOX (cutbox-door.mjs). By AI agents, Wed Nov 11 2026. No macro, syntax, notation, axiom, sorry.
-/
import Derived.Test.YtjmgcdeinjamiaaDoorRows
import GoSem.ClaimSeven
namespace Go.Proofs.YtjmgcdeinjamiaaDoor
namespace Rows

/-- THE TIED CARD OF 'versolaw03.TokReads'. -/
def tokReadsCard : Claim7 := { stood := { row := tokReadsRow, standIns := [], harness := (true, "67a592633b611a60383ea543c58d7d5ee692b1b46b22526209366f4f1db57cce"), looks := true }, kinds := [], alts := [], laidByText := true, laidKinds := [.data, .data, .data, .sentinel, .sentinel], laidTests := true, laidLooks := .later }
def TokReadsCardSaid : Prop := Claim7.holds Tryd.pinned (.plain (OpenSpec.ofChange tokReadsSpec)) tokReadsCard

/-- THE TIED CARD OF 'versolaw03.TokRaw'. -/
def tokRawCard : Claim7 := { stood := { row := tokRawRow, standIns := [], harness := (true, "67a592633b611a60383ea543c58d7d5ee692b1b46b22526209366f4f1db57cce"), looks := true }, kinds := [], alts := [], laidByText := true, laidKinds := [.data, .data, .data, .sentinel, .sentinel], laidTests := true, laidLooks := .later }
def TokRawCardSaid : Prop := Claim7.holds Tryd.pinned (.plain (OpenSpec.ofChange tokRawSpec)) tokRawCard

/-- THE TIED CARD OF 'versolaw03.TokText'. -/
def tokTextCard : Claim7 := { stood := { row := tokTextRow, standIns := [], harness := (true, "67a592633b611a60383ea543c58d7d5ee692b1b46b22526209366f4f1db57cce"), looks := true }, kinds := [], alts := [], laidByText := true, laidKinds := [.data, .data, .data, .sentinel, .sentinel], laidTests := true, laidLooks := .later }
def TokTextCardSaid : Prop := Claim7.holds Tryd.pinned (.plain (OpenSpec.ofChange tokTextSpec)) tokTextCard

/-- THE TIED CARD OF 'versolaw03.TokParts'. -/
def tokPartsCard : Claim7 := { stood := { row := tokPartsRow, standIns := [], harness := (true, "67a592633b611a60383ea543c58d7d5ee692b1b46b22526209366f4f1db57cce"), looks := true }, kinds := [], alts := [], laidByText := true, laidKinds := [.data, .data, .data, .sentinel, .sentinel], laidTests := true, laidLooks := .later }
def TokPartsCardSaid : Prop := Claim7.holds Tryd.pinned (.plain (OpenSpec.ofChange tokPartsSpec)) tokPartsCard

/-- THE TIED CARD OF 'versolaw03.TokTag'. -/
def tokTagCard : Claim7 := { stood := { row := tokTagRow, standIns := [], harness := (true, "67a592633b611a60383ea543c58d7d5ee692b1b46b22526209366f4f1db57cce"), looks := true }, kinds := [], alts := [], laidByText := true, laidKinds := [.data, .data, .data, .sentinel, .sentinel], laidTests := true, laidLooks := .later }
def TokTagCardSaid : Prop := Claim7.holds Tryd.pinned (.plain (OpenSpec.ofChange tokTagSpec)) tokTagCard

/-- THE TIED CARD OF 'versolaw03.TokJoins'. -/
def tokJoinsCard : Claim7 := { stood := { row := tokJoinsRow, standIns := [], harness := (true, "67a592633b611a60383ea543c58d7d5ee692b1b46b22526209366f4f1db57cce"), looks := true }, kinds := [], alts := [], laidByText := true, laidKinds := [.data, .data, .data, .sentinel, .sentinel], laidTests := true, laidLooks := .later }
def TokJoinsCardSaid : Prop := Claim7.holds Tryd.pinned (.plain (OpenSpec.ofChange tokJoinsSpec)) tokJoinsCard

/-- THE SECOND FORM's CARD OF 'versolaw03.TokReads'. -/
def tokReadsUptoCard : Claim7 := { stood := { row := tokReadsUptoRow, standIns := [], harness := (true, "67a592633b611a60383ea543c58d7d5ee692b1b46b22526209366f4f1db57cce"), looks := true }, kinds := [], alts := [], laidByText := true, laidKinds := [.data, .data, .data, .sentinel, .sentinel], laidTests := true, laidLooks := .later }
def TokReadsUptoCardSaid : Prop := Claim7.holds Tryd.pinned (.plain (OpenSpec.upto tokReadsSpec)) tokReadsUptoCard

/-- THE SECOND FORM's CARD OF 'versolaw03.TokRaw'. -/
def tokRawUptoCard : Claim7 := { stood := { row := tokRawUptoRow, standIns := [], harness := (true, "67a592633b611a60383ea543c58d7d5ee692b1b46b22526209366f4f1db57cce"), looks := true }, kinds := [], alts := [], laidByText := true, laidKinds := [.data, .data, .data, .sentinel, .sentinel], laidTests := true, laidLooks := .later }
def TokRawUptoCardSaid : Prop := Claim7.holds Tryd.pinned (.plain (OpenSpec.upto tokRawSpec)) tokRawUptoCard

/-- THE SECOND FORM's CARD OF 'versolaw03.TokText'. -/
def tokTextUptoCard : Claim7 := { stood := { row := tokTextUptoRow, standIns := [], harness := (true, "67a592633b611a60383ea543c58d7d5ee692b1b46b22526209366f4f1db57cce"), looks := true }, kinds := [], alts := [], laidByText := true, laidKinds := [.data, .data, .data, .sentinel, .sentinel], laidTests := true, laidLooks := .later }
def TokTextUptoCardSaid : Prop := Claim7.holds Tryd.pinned (.plain (OpenSpec.upto tokTextSpec)) tokTextUptoCard

/-- THE SECOND FORM's CARD OF 'versolaw03.TokParts'. -/
def tokPartsUptoCard : Claim7 := { stood := { row := tokPartsUptoRow, standIns := [], harness := (true, "67a592633b611a60383ea543c58d7d5ee692b1b46b22526209366f4f1db57cce"), looks := true }, kinds := [], alts := [], laidByText := true, laidKinds := [.data, .data, .data, .sentinel, .sentinel], laidTests := true, laidLooks := .later }
def TokPartsUptoCardSaid : Prop := Claim7.holds Tryd.pinned (.plain (OpenSpec.upto tokPartsSpec)) tokPartsUptoCard

/-- THE SECOND FORM's CARD OF 'versolaw03.TokTag'. -/
def tokTagUptoCard : Claim7 := { stood := { row := tokTagUptoRow, standIns := [], harness := (true, "67a592633b611a60383ea543c58d7d5ee692b1b46b22526209366f4f1db57cce"), looks := true }, kinds := [], alts := [], laidByText := true, laidKinds := [.data, .data, .data, .sentinel, .sentinel], laidTests := true, laidLooks := .later }
def TokTagUptoCardSaid : Prop := Claim7.holds Tryd.pinned (.plain (OpenSpec.upto tokTagSpec)) tokTagUptoCard

/-- THE SECOND FORM's CARD OF 'versolaw03.TokJoins'. -/
def tokJoinsUptoCard : Claim7 := { stood := { row := tokJoinsUptoRow, standIns := [], harness := (true, "67a592633b611a60383ea543c58d7d5ee692b1b46b22526209366f4f1db57cce"), looks := true }, kinds := [], alts := [], laidByText := true, laidKinds := [.data, .data, .data, .sentinel, .sentinel], laidTests := true, laidLooks := .later }
def TokJoinsUptoCardSaid : Prop := Claim7.holds Tryd.pinned (.plain (OpenSpec.upto tokJoinsSpec)) tokJoinsUptoCard
end Rows
end Go.Proofs.YtjmgcdeinjamiaaDoor
