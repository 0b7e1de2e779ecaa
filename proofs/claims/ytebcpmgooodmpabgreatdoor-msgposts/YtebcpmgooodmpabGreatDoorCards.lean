/-
  DERIVED. GIVEN WITH THE SEED: THE CARDS: each row of YtebcpmgooodmpabGreatDoorRows.lean that lists a variable, with what it lists TIED to the program's text (the seventh form; the later family's looks); each row that meets fmt, with fmt's text TOLD by the authors' own Lean function (tested against real Go, not proved from fmt's source: count such statements apart). THE CARD IS WHAT COUNTS. Prove the row's statement (the work); the ties are given (YtebcpmgooodmpabGreatDoorTie.lean); close each card by the builder's one call (the guide's Derived/Test/ToyasCard.lean, 'card_holds'). Laid BY PROGRAM, IN A SANDBOX (cutbox-door.mjs). By AI agents, Wed Nov 11 2026. No macro, syntax, notation, axiom, sorry.
-/
import Derived.Test.YtebcpmgooodmpabGreatDoorRows
import GoSem.ClaimSeven
namespace Go.Proofs.YtebcpmgooodmpabGreatDoor
namespace Rows

/-- THE TIED CARD OF 'versolaw15.MsgPosts'. -/
def msgPostsCard : Claim7 := { stood := { row := msgPostsRow, standIns := [], harness := (true, "c9562de040e826489e34d46d628d4a38ff08dbb2aba4a72707e477f710d64e4c"), looks := true }, kinds := [], alts := [], laidByText := true, laidKinds := [.data, .data, .data, .sentinel, .sentinel], laidTests := true, laidLooks := .later }
def MsgPostsCardSaid : Prop := Claim7.holds Tryz.pinned (.plain (OpenSpec.ofChange msgPostsSpec)) msgPostsCard

/-- THE SECOND FORM's CARD OF 'versolaw15.MsgPosts'. -/
def msgPostsUptoCard : Claim7 := { stood := { row := msgPostsUptoRow, standIns := [], harness := (true, "c9562de040e826489e34d46d628d4a38ff08dbb2aba4a72707e477f710d64e4c"), looks := true }, kinds := [], alts := [], laidByText := true, laidKinds := [.data, .data, .data, .sentinel, .sentinel], laidTests := true, laidLooks := .later }
def MsgPostsUptoCardSaid : Prop := Claim7.holds Tryz.pinned (.plain (OpenSpec.upto msgPostsSpec)) msgPostsUptoCard
end Rows
end Go.Proofs.YtebcpmgooodmpabGreatDoor
