/-
  DERIVED. GIVEN WITH THE SEED: THE CARDS: each row of YtebcpmgooodmpaaGreatDoorRows.lean that lists a variable, with what it lists TIED to the program's text (the seventh form; the later family's looks); each row that meets fmt, with fmt's text TOLD by the authors' own Lean function (tested against real Go, not proved from fmt's source: count such statements apart). THE CARD IS WHAT COUNTS. Prove the row's statement (the work); the ties are given (YtebcpmgooodmpaaGreatDoorTie.lean); close each card by the builder's one call (the guide's Derived/Test/ToyasCard.lean, 'card_holds'). Laid BY PROGRAM, IN A SANDBOX (cutbox-door.mjs). By AI agents, Wed Nov 11 2026. No macro, syntax, notation, axiom, sorry.
-/
import Derived.Test.YtebcpmgooodmpaaGreatDoorRows
import GoSem.ClaimSeven
namespace Go.Proofs.YtebcpmgooodmpaaGreatDoor
namespace Rows

/-- THE TIED CARD OF 'versolaw15.MsgTexts'. -/
def msgTextsCard : Claim7 := { stood := { row := msgTextsRow, standIns := [], harness := (true, "08effa29e031866384fb65b77e9a2e8d33ac3e1a75afb0ded95362cb7a4439c7"), looks := true }, kinds := [], alts := [], laidByText := true, laidKinds := [.data, .data, .data, .sentinel, .sentinel], laidTests := true, laidLooks := .later }
def MsgTextsCardSaid : Prop := Claim7.holds Tryz.pinned (.plain (OpenSpec.ofChange msgTextsSpec)) msgTextsCard

/-- THE TIED CARD OF 'versolaw15.MsgReads'. -/
def msgReadsCard : Claim7 := { stood := { row := msgReadsRow, standIns := [], harness := (true, "08effa29e031866384fb65b77e9a2e8d33ac3e1a75afb0ded95362cb7a4439c7"), looks := true }, kinds := [], alts := [], laidByText := true, laidKinds := [.data, .data, .data, .sentinel, .sentinel], laidTests := true, laidLooks := .later }
def MsgReadsCardSaid : Prop := Claim7.holds Tryz.pinned (.plain (OpenSpec.ofChange msgReadsSpec)) msgReadsCard

/-- THE TIED CARD OF 'versolaw15.MsgBack'. -/
def msgBackCard : Claim7 := { stood := { row := msgBackRow, standIns := [], harness := (true, "08effa29e031866384fb65b77e9a2e8d33ac3e1a75afb0ded95362cb7a4439c7"), looks := true }, kinds := [], alts := [], laidByText := true, laidKinds := [.data, .data, .data, .sentinel, .sentinel], laidTests := true, laidLooks := .later }
def MsgBackCardSaid : Prop := Claim7.holds Tryz.pinned (.plain (OpenSpec.ofChange msgBackSpec)) msgBackCard

/-- THE TIED CARD OF 'versolaw15.MsgCut'. -/
def msgCutCard : Claim7 := { stood := { row := msgCutRow, standIns := [], harness := (true, "08effa29e031866384fb65b77e9a2e8d33ac3e1a75afb0ded95362cb7a4439c7"), looks := true }, kinds := [], alts := [], laidByText := true, laidKinds := [.data, .data, .data, .sentinel, .sentinel], laidTests := true, laidLooks := .later }
def MsgCutCardSaid : Prop := Claim7.holds Tryz.pinned (.plain (OpenSpec.ofChange msgCutSpec)) msgCutCard

/-- THE TIED CARD OF 'versolaw15.MsgUnlike'. -/
def msgUnlikeCard : Claim7 := { stood := { row := msgUnlikeRow, standIns := [], harness := (true, "08effa29e031866384fb65b77e9a2e8d33ac3e1a75afb0ded95362cb7a4439c7"), looks := true }, kinds := [], alts := [], laidByText := true, laidKinds := [.data, .data, .data, .sentinel, .sentinel], laidTests := true, laidLooks := .later }
def MsgUnlikeCardSaid : Prop := Claim7.holds Tryz.pinned (.plain (OpenSpec.ofChange msgUnlikeSpec)) msgUnlikeCard

/-- THE TIED CARD OF 'versolaw15.MsgAcks'. -/
def msgAcksCard : Claim7 := { stood := { row := msgAcksRow, standIns := [], harness := (true, "08effa29e031866384fb65b77e9a2e8d33ac3e1a75afb0ded95362cb7a4439c7"), looks := true }, kinds := [], alts := [], laidByText := true, laidKinds := [.data, .data, .data, .sentinel, .sentinel], laidTests := true, laidLooks := .later }
def MsgAcksCardSaid : Prop := Claim7.holds Tryz.pinned (.plain (OpenSpec.ofChange msgAcksSpec)) msgAcksCard

/-- THE SECOND FORM's CARD OF 'versolaw15.MsgTexts'. -/
def msgTextsUptoCard : Claim7 := { stood := { row := msgTextsUptoRow, standIns := [], harness := (true, "08effa29e031866384fb65b77e9a2e8d33ac3e1a75afb0ded95362cb7a4439c7"), looks := true }, kinds := [], alts := [], laidByText := true, laidKinds := [.data, .data, .data, .sentinel, .sentinel], laidTests := true, laidLooks := .later }
def MsgTextsUptoCardSaid : Prop := Claim7.holds Tryz.pinned (.plain (OpenSpec.upto msgTextsSpec)) msgTextsUptoCard

/-- THE SECOND FORM's CARD OF 'versolaw15.MsgReads'. -/
def msgReadsUptoCard : Claim7 := { stood := { row := msgReadsUptoRow, standIns := [], harness := (true, "08effa29e031866384fb65b77e9a2e8d33ac3e1a75afb0ded95362cb7a4439c7"), looks := true }, kinds := [], alts := [], laidByText := true, laidKinds := [.data, .data, .data, .sentinel, .sentinel], laidTests := true, laidLooks := .later }
def MsgReadsUptoCardSaid : Prop := Claim7.holds Tryz.pinned (.plain (OpenSpec.upto msgReadsSpec)) msgReadsUptoCard

/-- THE SECOND FORM's CARD OF 'versolaw15.MsgBack'. -/
def msgBackUptoCard : Claim7 := { stood := { row := msgBackUptoRow, standIns := [], harness := (true, "08effa29e031866384fb65b77e9a2e8d33ac3e1a75afb0ded95362cb7a4439c7"), looks := true }, kinds := [], alts := [], laidByText := true, laidKinds := [.data, .data, .data, .sentinel, .sentinel], laidTests := true, laidLooks := .later }
def MsgBackUptoCardSaid : Prop := Claim7.holds Tryz.pinned (.plain (OpenSpec.upto msgBackSpec)) msgBackUptoCard

/-- THE SECOND FORM's CARD OF 'versolaw15.MsgCut'. -/
def msgCutUptoCard : Claim7 := { stood := { row := msgCutUptoRow, standIns := [], harness := (true, "08effa29e031866384fb65b77e9a2e8d33ac3e1a75afb0ded95362cb7a4439c7"), looks := true }, kinds := [], alts := [], laidByText := true, laidKinds := [.data, .data, .data, .sentinel, .sentinel], laidTests := true, laidLooks := .later }
def MsgCutUptoCardSaid : Prop := Claim7.holds Tryz.pinned (.plain (OpenSpec.upto msgCutSpec)) msgCutUptoCard

/-- THE SECOND FORM's CARD OF 'versolaw15.MsgUnlike'. -/
def msgUnlikeUptoCard : Claim7 := { stood := { row := msgUnlikeUptoRow, standIns := [], harness := (true, "08effa29e031866384fb65b77e9a2e8d33ac3e1a75afb0ded95362cb7a4439c7"), looks := true }, kinds := [], alts := [], laidByText := true, laidKinds := [.data, .data, .data, .sentinel, .sentinel], laidTests := true, laidLooks := .later }
def MsgUnlikeUptoCardSaid : Prop := Claim7.holds Tryz.pinned (.plain (OpenSpec.upto msgUnlikeSpec)) msgUnlikeUptoCard

/-- THE SECOND FORM's CARD OF 'versolaw15.MsgAcks'. -/
def msgAcksUptoCard : Claim7 := { stood := { row := msgAcksUptoRow, standIns := [], harness := (true, "08effa29e031866384fb65b77e9a2e8d33ac3e1a75afb0ded95362cb7a4439c7"), looks := true }, kinds := [], alts := [], laidByText := true, laidKinds := [.data, .data, .data, .sentinel, .sentinel], laidTests := true, laidLooks := .later }
def MsgAcksUptoCardSaid : Prop := Claim7.holds Tryz.pinned (.plain (OpenSpec.upto msgAcksSpec)) msgAcksUptoCard
end Rows
end Go.Proofs.YtebcpmgooodmpaaGreatDoor
