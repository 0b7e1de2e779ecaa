/-
  DERIVED. GIVEN WITH THE SEED: THE CARDS: each row of YtmogplecohkjcaaGreatDoorRows.lean that lists a variable, with what it lists TIED to the program's text (the seventh form; the later family's looks); each row that meets fmt, with fmt's text TOLD by the authors' own Lean function (tested against real Go, not proved from fmt's source: count such statements apart). THE CARD IS WHAT COUNTS. Prove the row's statement (the work); the ties are given (YtmogplecohkjcaaGreatDoorTie.lean); close each card by the builder's one call (the guide's Derived/Test/ToyasCard.lean, 'card_holds'). Laid BY PROGRAM, IN A SANDBOX (cutbox-door.mjs). By AI agents, Wed Nov 11 2026. No macro, syntax, notation, axiom, sorry.
-/
import Derived.Test.YtmogplecohkjcaaGreatDoorRows
import GoSem.ClaimSeven
namespace Go.Proofs.YtmogplecohkjcaaGreatDoor
namespace Rows

/-- THE TIED CARD OF 'versolaw17.MailPlays'. -/
def mailPlaysCard : Claim7 := { stood := { row := mailPlaysRow, standIns := [], harness := (true, "3988773bd63f284e5b9ef4b48dd16690e802a8f21da84b21e2423fc2c61fd476"), looks := true }, kinds := [], alts := [], laidByText := true, laidKinds := [.data, .data, .data, .sentinel, .sentinel], laidTests := true, laidLooks := .later }
def MailPlaysCardSaid : Prop := Claim7.holds Tryz.pinned (.plain (OpenSpec.ofChange mailPlaysSpec)) mailPlaysCard

/-- THE TIED CARD OF 'versolaw17.MailMost'. -/
def mailMostCard : Claim7 := { stood := { row := mailMostRow, standIns := [], harness := (true, "3988773bd63f284e5b9ef4b48dd16690e802a8f21da84b21e2423fc2c61fd476"), looks := true }, kinds := [], alts := [], laidByText := true, laidKinds := [.data, .data, .data, .sentinel, .sentinel], laidTests := true, laidLooks := .later }
def MailMostCardSaid : Prop := Claim7.holds Tryz.pinned (.plain (OpenSpec.ofChange mailMostSpec)) mailMostCard

/-- THE TIED CARD OF 'versolaw17.MailOrder'. -/
def mailOrderCard : Claim7 := { stood := { row := mailOrderRow, standIns := [], harness := (true, "3988773bd63f284e5b9ef4b48dd16690e802a8f21da84b21e2423fc2c61fd476"), looks := true }, kinds := [], alts := [], laidByText := true, laidKinds := [.data, .data, .data, .sentinel, .sentinel], laidTests := true, laidLooks := .later }
def MailOrderCardSaid : Prop := Claim7.holds Tryz.pinned (.plain (OpenSpec.ofChange mailOrderSpec)) mailOrderCard

/-- THE TIED CARD OF 'versolaw17.MailOwn'. -/
def mailOwnCard : Claim7 := { stood := { row := mailOwnRow, standIns := [], harness := (true, "3988773bd63f284e5b9ef4b48dd16690e802a8f21da84b21e2423fc2c61fd476"), looks := true }, kinds := [], alts := [], laidByText := true, laidKinds := [.data, .data, .data, .sentinel, .sentinel], laidTests := true, laidLooks := .later }
def MailOwnCardSaid : Prop := Claim7.holds Tryz.pinned (.plain (OpenSpec.ofChange mailOwnSpec)) mailOwnCard

/-- THE TIED CARD OF 'versolaw17.MailTwice'. -/
def mailTwiceCard : Claim7 := { stood := { row := mailTwiceRow, standIns := [], harness := (true, "3988773bd63f284e5b9ef4b48dd16690e802a8f21da84b21e2423fc2c61fd476"), looks := true }, kinds := [], alts := [], laidByText := true, laidKinds := [.data, .data, .data, .sentinel, .sentinel], laidTests := true, laidLooks := .later }
def MailTwiceCardSaid : Prop := Claim7.holds Tryz.pinned (.plain (OpenSpec.ofChange mailTwiceSpec)) mailTwiceCard

/-- THE SECOND FORM's CARD OF 'versolaw17.MailPlays'. -/
def mailPlaysUptoCard : Claim7 := { stood := { row := mailPlaysUptoRow, standIns := [], harness := (true, "3988773bd63f284e5b9ef4b48dd16690e802a8f21da84b21e2423fc2c61fd476"), looks := true }, kinds := [], alts := [], laidByText := true, laidKinds := [.data, .data, .data, .sentinel, .sentinel], laidTests := true, laidLooks := .later }
def MailPlaysUptoCardSaid : Prop := Claim7.holds Tryz.pinned (.plain (OpenSpec.upto mailPlaysSpec)) mailPlaysUptoCard

/-- THE SECOND FORM's CARD OF 'versolaw17.MailMost'. -/
def mailMostUptoCard : Claim7 := { stood := { row := mailMostUptoRow, standIns := [], harness := (true, "3988773bd63f284e5b9ef4b48dd16690e802a8f21da84b21e2423fc2c61fd476"), looks := true }, kinds := [], alts := [], laidByText := true, laidKinds := [.data, .data, .data, .sentinel, .sentinel], laidTests := true, laidLooks := .later }
def MailMostUptoCardSaid : Prop := Claim7.holds Tryz.pinned (.plain (OpenSpec.upto mailMostSpec)) mailMostUptoCard

/-- THE SECOND FORM's CARD OF 'versolaw17.MailOrder'. -/
def mailOrderUptoCard : Claim7 := { stood := { row := mailOrderUptoRow, standIns := [], harness := (true, "3988773bd63f284e5b9ef4b48dd16690e802a8f21da84b21e2423fc2c61fd476"), looks := true }, kinds := [], alts := [], laidByText := true, laidKinds := [.data, .data, .data, .sentinel, .sentinel], laidTests := true, laidLooks := .later }
def MailOrderUptoCardSaid : Prop := Claim7.holds Tryz.pinned (.plain (OpenSpec.upto mailOrderSpec)) mailOrderUptoCard

/-- THE SECOND FORM's CARD OF 'versolaw17.MailOwn'. -/
def mailOwnUptoCard : Claim7 := { stood := { row := mailOwnUptoRow, standIns := [], harness := (true, "3988773bd63f284e5b9ef4b48dd16690e802a8f21da84b21e2423fc2c61fd476"), looks := true }, kinds := [], alts := [], laidByText := true, laidKinds := [.data, .data, .data, .sentinel, .sentinel], laidTests := true, laidLooks := .later }
def MailOwnUptoCardSaid : Prop := Claim7.holds Tryz.pinned (.plain (OpenSpec.upto mailOwnSpec)) mailOwnUptoCard

/-- THE SECOND FORM's CARD OF 'versolaw17.MailTwice'. -/
def mailTwiceUptoCard : Claim7 := { stood := { row := mailTwiceUptoRow, standIns := [], harness := (true, "3988773bd63f284e5b9ef4b48dd16690e802a8f21da84b21e2423fc2c61fd476"), looks := true }, kinds := [], alts := [], laidByText := true, laidKinds := [.data, .data, .data, .sentinel, .sentinel], laidTests := true, laidLooks := .later }
def MailTwiceUptoCardSaid : Prop := Claim7.holds Tryz.pinned (.plain (OpenSpec.upto mailTwiceSpec)) mailTwiceUptoCard
end Rows
end Go.Proofs.YtmogplecohkjcaaGreatDoor
