/-
  DERIVED. GIVEN WITH THE SEED: THE CARDS: each row of YtlcmdgodpedimaaDoorRows.lean that lists a variable, with what it lists TIED to the program's text (the seventh form; the later family's looks); each row that meets fmt, with fmt's text TOLD by the authors' own Lean function (tested against real Go, not proved from fmt's source: count such statements apart). THE CARD IS WHAT COUNTS. Prove the row's statement (the work); the ties are given (YtlcmdgodpedimaaDoorTie.lean); close each card by the builder's one call (the guide's Derived/Test/ToyasCard.lean, 'card_holds'). Laid BY PROGRAM, IN A SANDBOX (cutbox-door.mjs). By AI agents, Wed Nov 11 2026. No macro, syntax, notation, axiom, sorry.
-/
import Derived.Test.YtlcmdgodpedimaaDoorRows
import GoSem.ClaimSeven
namespace Go.Proofs.YtlcmdgodpedimaaDoor
namespace Rows

/-- THE TIED CARD OF 'versolaw02.RefsNames'. -/
def refsNamesCard : Claim7 := { stood := { row := refsNamesRow, standIns := [], harness := (true, "44896933e9639f7a8a9536457a3d69d706d7ad8e1493a676be2a7e85f4b8c0c5"), looks := true }, kinds := [], alts := [], laidByText := true, laidKinds := [.data, .data, .data, .sentinel, .sentinel], laidTests := true, laidLooks := .later }
def RefsNamesCardSaid : Prop := Claim7.holds Tryd.pinned (.plain (OpenSpec.ofChange refsNamesSpec)) refsNamesCard

/-- THE TIED CARD OF 'versolaw02.RefsResolves'. -/
def refsResolvesCard : Claim7 := { stood := { row := refsResolvesRow, standIns := [], harness := (true, "44896933e9639f7a8a9536457a3d69d706d7ad8e1493a676be2a7e85f4b8c0c5"), looks := true }, kinds := [], alts := [], laidByText := true, laidKinds := [.data, .data, .data, .sentinel, .sentinel], laidTests := true, laidLooks := .later }
def RefsResolvesCardSaid : Prop := Claim7.holds Tryd.pinned (.plain (OpenSpec.ofChange refsResolvesSpec)) refsResolvesCard

/-- THE TIED CARD OF 'versolaw02.RefsEscapes'. -/
def refsEscapesCard : Claim7 := { stood := { row := refsEscapesRow, standIns := [], harness := (true, "44896933e9639f7a8a9536457a3d69d706d7ad8e1493a676be2a7e85f4b8c0c5"), looks := true }, kinds := [], alts := [], laidByText := true, laidKinds := [.data, .data, .data, .sentinel, .sentinel], laidTests := true, laidLooks := .later }
def RefsEscapesCardSaid : Prop := Claim7.holds Tryd.pinned (.plain (OpenSpec.ofChange refsEscapesSpec)) refsEscapesCard

/-- THE TIED CARD OF 'versolaw02.RefsBack'. -/
def refsBackCard : Claim7 := { stood := { row := refsBackRow, standIns := [], harness := (true, "44896933e9639f7a8a9536457a3d69d706d7ad8e1493a676be2a7e85f4b8c0c5"), looks := true }, kinds := [], alts := [], laidByText := true, laidKinds := [.data, .data, .data, .sentinel, .sentinel], laidTests := true, laidLooks := .later }
def RefsBackCardSaid : Prop := Claim7.holds Tryd.pinned (.plain (OpenSpec.ofChange refsBackSpec)) refsBackCard

/-- THE TIED CARD OF 'versolaw02.RefsPlain'. -/
def refsPlainCard : Claim7 := { stood := { row := refsPlainRow, standIns := [], harness := (true, "44896933e9639f7a8a9536457a3d69d706d7ad8e1493a676be2a7e85f4b8c0c5"), looks := true }, kinds := [], alts := [], laidByText := true, laidKinds := [.data, .data, .data, .sentinel, .sentinel], laidTests := true, laidLooks := .later }
def RefsPlainCardSaid : Prop := Claim7.holds Tryd.pinned (.plain (OpenSpec.ofChange refsPlainSpec)) refsPlainCard

/-- THE TIED CARD OF 'versolaw02.RefsParts'. -/
def refsPartsCard : Claim7 := { stood := { row := refsPartsRow, standIns := [], harness := (true, "44896933e9639f7a8a9536457a3d69d706d7ad8e1493a676be2a7e85f4b8c0c5"), looks := true }, kinds := [], alts := [], laidByText := true, laidKinds := [.data, .data, .data, .sentinel, .sentinel], laidTests := true, laidLooks := .later }
def RefsPartsCardSaid : Prop := Claim7.holds Tryd.pinned (.plain (OpenSpec.ofChange refsPartsSpec)) refsPartsCard

/-- THE SECOND FORM's CARD OF 'versolaw02.RefsNames'. -/
def refsNamesUptoCard : Claim7 := { stood := { row := refsNamesUptoRow, standIns := [], harness := (true, "44896933e9639f7a8a9536457a3d69d706d7ad8e1493a676be2a7e85f4b8c0c5"), looks := true }, kinds := [], alts := [], laidByText := true, laidKinds := [.data, .data, .data, .sentinel, .sentinel], laidTests := true, laidLooks := .later }
def RefsNamesUptoCardSaid : Prop := Claim7.holds Tryd.pinned (.plain (OpenSpec.upto refsNamesSpec)) refsNamesUptoCard

/-- THE SECOND FORM's CARD OF 'versolaw02.RefsResolves'. -/
def refsResolvesUptoCard : Claim7 := { stood := { row := refsResolvesUptoRow, standIns := [], harness := (true, "44896933e9639f7a8a9536457a3d69d706d7ad8e1493a676be2a7e85f4b8c0c5"), looks := true }, kinds := [], alts := [], laidByText := true, laidKinds := [.data, .data, .data, .sentinel, .sentinel], laidTests := true, laidLooks := .later }
def RefsResolvesUptoCardSaid : Prop := Claim7.holds Tryd.pinned (.plain (OpenSpec.upto refsResolvesSpec)) refsResolvesUptoCard

/-- THE SECOND FORM's CARD OF 'versolaw02.RefsEscapes'. -/
def refsEscapesUptoCard : Claim7 := { stood := { row := refsEscapesUptoRow, standIns := [], harness := (true, "44896933e9639f7a8a9536457a3d69d706d7ad8e1493a676be2a7e85f4b8c0c5"), looks := true }, kinds := [], alts := [], laidByText := true, laidKinds := [.data, .data, .data, .sentinel, .sentinel], laidTests := true, laidLooks := .later }
def RefsEscapesUptoCardSaid : Prop := Claim7.holds Tryd.pinned (.plain (OpenSpec.upto refsEscapesSpec)) refsEscapesUptoCard

/-- THE SECOND FORM's CARD OF 'versolaw02.RefsBack'. -/
def refsBackUptoCard : Claim7 := { stood := { row := refsBackUptoRow, standIns := [], harness := (true, "44896933e9639f7a8a9536457a3d69d706d7ad8e1493a676be2a7e85f4b8c0c5"), looks := true }, kinds := [], alts := [], laidByText := true, laidKinds := [.data, .data, .data, .sentinel, .sentinel], laidTests := true, laidLooks := .later }
def RefsBackUptoCardSaid : Prop := Claim7.holds Tryd.pinned (.plain (OpenSpec.upto refsBackSpec)) refsBackUptoCard

/-- THE SECOND FORM's CARD OF 'versolaw02.RefsPlain'. -/
def refsPlainUptoCard : Claim7 := { stood := { row := refsPlainUptoRow, standIns := [], harness := (true, "44896933e9639f7a8a9536457a3d69d706d7ad8e1493a676be2a7e85f4b8c0c5"), looks := true }, kinds := [], alts := [], laidByText := true, laidKinds := [.data, .data, .data, .sentinel, .sentinel], laidTests := true, laidLooks := .later }
def RefsPlainUptoCardSaid : Prop := Claim7.holds Tryd.pinned (.plain (OpenSpec.upto refsPlainSpec)) refsPlainUptoCard

/-- THE SECOND FORM's CARD OF 'versolaw02.RefsParts'. -/
def refsPartsUptoCard : Claim7 := { stood := { row := refsPartsUptoRow, standIns := [], harness := (true, "44896933e9639f7a8a9536457a3d69d706d7ad8e1493a676be2a7e85f4b8c0c5"), looks := true }, kinds := [], alts := [], laidByText := true, laidKinds := [.data, .data, .data, .sentinel, .sentinel], laidTests := true, laidLooks := .later }
def RefsPartsUptoCardSaid : Prop := Claim7.holds Tryd.pinned (.plain (OpenSpec.upto refsPartsSpec)) refsPartsUptoCard
end Rows
end Go.Proofs.YtlcmdgodpedimaaDoor
