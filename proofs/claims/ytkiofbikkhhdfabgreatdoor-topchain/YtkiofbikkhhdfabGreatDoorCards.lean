/-
  DERIVED. GIVEN WITH THE SEED: THE CARDS: each row of YtkiofbikkhhdfabGreatDoorRows.lean that lists a variable, with what it lists TIED to the program's text (the seventh form; the later family's looks); each row that meets fmt, with fmt's text TOLD by the authors' own Lean function (tested against real Go, not proved from fmt's source: count such statements apart). THE CARD IS WHAT COUNTS. Prove the row's statement (the work); the ties are given (YtkiofbikkhhdfabGreatDoorTie.lean); close each card by the builder's one call (the guide's Derived/Test/ToyasCard.lean, 'card_holds'). Laid BY PROGRAM, IN A SANDBOX (cutbox-door.mjs). By AI agents, Wed Nov 11 2026. No macro, syntax, notation, axiom, sorry.
-/
import Derived.Test.YtkiofbikkhhdfabGreatDoorRows
import GoSem.ClaimSeven
namespace Go.Proofs.YtkiofbikkhhdfabGreatDoor
namespace Rows

/-- THE TIED CARD OF 'versolaw11.SanStricter'. -/
def sanStricterCard : Claim7 := { stood := { row := sanStricterRow, standIns := [], harness := (true, "c219bf311317c3e3f2cdef2500393375a72a5b4e29bf8b2134ba14dc53675905"), looks := true }, kinds := [], alts := [], laidByText := true, laidKinds := [.data, .data, .data, .data, .sentinel, .sentinel, .pinned], laidTests := true, laidLooks := .later }
def SanStricterCardSaid : Prop := Claim7.holds Tryz.pinned (.plain (OpenSpec.ofChange sanStricterSpec)) sanStricterCard

/-- THE TIED CARD OF 'versolaw11.SanPlain'. -/
def sanPlainCard : Claim7 := { stood := { row := sanPlainRow, standIns := [], harness := (true, "c219bf311317c3e3f2cdef2500393375a72a5b4e29bf8b2134ba14dc53675905"), looks := true }, kinds := [], alts := [], laidByText := true, laidKinds := [.data, .data, .data, .data, .sentinel, .sentinel, .pinned], laidTests := true, laidLooks := .later }
def SanPlainCardSaid : Prop := Claim7.holds Tryz.pinned (.plain (OpenSpec.ofChange sanPlainSpec)) sanPlainCard

/-- THE TIED CARD OF 'versolaw11.SanNothing'. -/
def sanNothingCard : Claim7 := { stood := { row := sanNothingRow, standIns := [], harness := (true, "c219bf311317c3e3f2cdef2500393375a72a5b4e29bf8b2134ba14dc53675905"), looks := true }, kinds := [], alts := [], laidByText := true, laidKinds := [.data, .data, .data, .data, .sentinel, .sentinel, .pinned], laidTests := true, laidLooks := .later }
def SanNothingCardSaid : Prop := Claim7.holds Tryz.pinned (.plain (OpenSpec.ofChange sanNothingSpec)) sanNothingCard

/-- THE TIED CARD OF 'versotop.TopRounds'. -/
def topRoundsCard : Claim7 := { stood := { row := topRoundsRow, standIns := [], harness := (true, "c219bf311317c3e3f2cdef2500393375a72a5b4e29bf8b2134ba14dc53675905"), looks := true }, kinds := [], alts := [], laidByText := true, laidKinds := [.data, .data, .data, .data, .sentinel, .sentinel, .pinned], laidTests := true, laidLooks := .later }
def TopRoundsCardSaid : Prop := Claim7.holds Tryz.pinned (.plain (OpenSpec.ofChange topRoundsSpec)) topRoundsCard

/-- THE TIED CARD OF 'versotop.TopHarm'. -/
def topHarmCard : Claim7 := { stood := { row := topHarmRow, standIns := [], harness := (true, "c219bf311317c3e3f2cdef2500393375a72a5b4e29bf8b2134ba14dc53675905"), looks := true }, kinds := [], alts := [], laidByText := true, laidKinds := [.data, .data, .data, .data, .sentinel, .sentinel, .pinned], laidTests := true, laidLooks := .later }
def TopHarmCardSaid : Prop := Claim7.holds Tryz.pinned (.plain (OpenSpec.ofChange topHarmSpec)) topHarmCard

/-- THE TIED CARD OF 'versotop.TopChain'. -/
def topChainCard : Claim7 := { stood := { row := topChainRow, standIns := [], harness := (true, "c219bf311317c3e3f2cdef2500393375a72a5b4e29bf8b2134ba14dc53675905"), looks := true }, kinds := [], alts := [], laidByText := true, laidKinds := [.data, .data, .data, .data, .sentinel, .sentinel, .pinned], laidTests := true, laidLooks := .later }
def TopChainCardSaid : Prop := Claim7.holds Tryz.pinned (.plain (OpenSpec.ofChange topChainSpec)) topChainCard

/-- THE SECOND FORM's CARD OF 'versolaw11.SanStricter'. -/
def sanStricterUptoCard : Claim7 := { stood := { row := sanStricterUptoRow, standIns := [], harness := (true, "c219bf311317c3e3f2cdef2500393375a72a5b4e29bf8b2134ba14dc53675905"), looks := true }, kinds := [], alts := [], laidByText := true, laidKinds := [.data, .data, .data, .data, .sentinel, .sentinel, .pinned], laidTests := true, laidLooks := .later }
def SanStricterUptoCardSaid : Prop := Claim7.holds Tryz.pinned (.plain (OpenSpec.upto sanStricterSpec)) sanStricterUptoCard

/-- THE SECOND FORM's CARD OF 'versolaw11.SanPlain'. -/
def sanPlainUptoCard : Claim7 := { stood := { row := sanPlainUptoRow, standIns := [], harness := (true, "c219bf311317c3e3f2cdef2500393375a72a5b4e29bf8b2134ba14dc53675905"), looks := true }, kinds := [], alts := [], laidByText := true, laidKinds := [.data, .data, .data, .data, .sentinel, .sentinel, .pinned], laidTests := true, laidLooks := .later }
def SanPlainUptoCardSaid : Prop := Claim7.holds Tryz.pinned (.plain (OpenSpec.upto sanPlainSpec)) sanPlainUptoCard

/-- THE SECOND FORM's CARD OF 'versolaw11.SanNothing'. -/
def sanNothingUptoCard : Claim7 := { stood := { row := sanNothingUptoRow, standIns := [], harness := (true, "c219bf311317c3e3f2cdef2500393375a72a5b4e29bf8b2134ba14dc53675905"), looks := true }, kinds := [], alts := [], laidByText := true, laidKinds := [.data, .data, .data, .data, .sentinel, .sentinel, .pinned], laidTests := true, laidLooks := .later }
def SanNothingUptoCardSaid : Prop := Claim7.holds Tryz.pinned (.plain (OpenSpec.upto sanNothingSpec)) sanNothingUptoCard

/-- THE SECOND FORM's CARD OF 'versotop.TopRounds'. -/
def topRoundsUptoCard : Claim7 := { stood := { row := topRoundsUptoRow, standIns := [], harness := (true, "c219bf311317c3e3f2cdef2500393375a72a5b4e29bf8b2134ba14dc53675905"), looks := true }, kinds := [], alts := [], laidByText := true, laidKinds := [.data, .data, .data, .data, .sentinel, .sentinel, .pinned], laidTests := true, laidLooks := .later }
def TopRoundsUptoCardSaid : Prop := Claim7.holds Tryz.pinned (.plain (OpenSpec.upto topRoundsSpec)) topRoundsUptoCard

/-- THE SECOND FORM's CARD OF 'versotop.TopHarm'. -/
def topHarmUptoCard : Claim7 := { stood := { row := topHarmUptoRow, standIns := [], harness := (true, "c219bf311317c3e3f2cdef2500393375a72a5b4e29bf8b2134ba14dc53675905"), looks := true }, kinds := [], alts := [], laidByText := true, laidKinds := [.data, .data, .data, .data, .sentinel, .sentinel, .pinned], laidTests := true, laidLooks := .later }
def TopHarmUptoCardSaid : Prop := Claim7.holds Tryz.pinned (.plain (OpenSpec.upto topHarmSpec)) topHarmUptoCard

/-- THE SECOND FORM's CARD OF 'versotop.TopChain'. -/
def topChainUptoCard : Claim7 := { stood := { row := topChainUptoRow, standIns := [], harness := (true, "c219bf311317c3e3f2cdef2500393375a72a5b4e29bf8b2134ba14dc53675905"), looks := true }, kinds := [], alts := [], laidByText := true, laidKinds := [.data, .data, .data, .data, .sentinel, .sentinel, .pinned], laidTests := true, laidLooks := .later }
def TopChainUptoCardSaid : Prop := Claim7.holds Tryz.pinned (.plain (OpenSpec.upto topChainSpec)) topChainUptoCard
end Rows
end Go.Proofs.YtkiofbikkhhdfabGreatDoor
