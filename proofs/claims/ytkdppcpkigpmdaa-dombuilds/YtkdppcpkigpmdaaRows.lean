/-
  No cell of these rows narrows 'for every input' (looked for: loops, veiled, ifaces, maps, wideKeys, modest, calm, conditions, laid).
  DERIVED. THE GIVEN ROWS OF THIS SEAT. 5 by the template 'for every input the law returns true; each argument reads behind the call as it read before'; 0 by the template 'total and deterministic' (their statements: YtkdppcpkigpmdaaTotals.lean).
  GIVEN WITH THE SEED: the statements are not yours to turn. If you find one false, say at which input.
  Laid BY PROGRAM, IN A SANDBOX (cutbox-rows.mjs): the forced cells as the released guide's own fill.sh prints them over the translation cfdc6a46751d679e… (all of the seat's roots in one cut). By AI agents, Wed Nov 11 2026. No macro, syntax, notation, axiom, sorry.
-/
import Derived.Test.YtkdppcpkigpmdaaChecked
import GoSem.Claim
import GoSem.ClaimJoined
import GoSem.ClaimMapViews
import Derived.JoinedTies
import Derived.KernelRfl
namespace Go.Proofs.Ytkdppcpkigpmdaa
/- THE CELL 'sum', in the pinned program and in every row, IS THE sha256 OF THE DUMP (.gsa) THAT YtkdppcpkigpmdaaProg.lean LOADS. Nothing in Lean hashes anything: it is a label: what it is worth is what the hold of that sum in a sandbox is worth. -/
noncomputable def Try.pinned : Pinned := { name := "ytkdppcpkigpmdaa", sum := "cfdc6a46751d679e538ac086fb258cb432926e565b8684e00a2608bab3236b06", checked := Try.checked }
namespace Rows
def none {H : Type} : Left H := { results := [], args := [] }

/-- 'versolaw04.DomBuilds': WHATEVER THE INPUT: true; the input reads as it did. -/
def domBuildsSpec : ChangeSpec := { name := "domBuilds", fn := fun _ => fun
  | [d] => { results := [.lit (.bool true)], args := [d] }
  | _ => none }
def domBuildsRow : OpenClaim := { program := "ytkdppcpkigpmdaa", sum := "cfdc6a46751d679e538ac086fb258cb432926e565b8684e00a2608bab3236b06", func := "verso/versolaw04.DomBuilds", spec := "domBuilds", inPlace := ["internal/abi.NoEscape"], recurses := true, apart := false }
def DomBuildsSaid : Prop := domBuildsRow.holds Try.pinned (OpenSpec.ofChange domBuildsSpec)

/-- ITS FALSE NEIGHBOUR: 'it returns false'. Refute it at one input. -/
def domBuildsWrong : ChangeSpec := { name := "domBuilds", fn := fun _ => fun
  | [d] => { results := [.lit (.bool false)], args := [d] }
  | _ => none }
def DomBuildsWrongFalsely : Prop := domBuildsRow.holds Try.pinned (OpenSpec.ofChange domBuildsWrong)

/-- 'versolaw04.DomNames': WHATEVER THE INPUT: true; the input reads as it did. -/
def domNamesSpec : ChangeSpec := { name := "domNames", fn := fun _ => fun
  | [d] => { results := [.lit (.bool true)], args := [d] }
  | _ => none }
def domNamesRow : OpenClaim := { program := "ytkdppcpkigpmdaa", sum := "cfdc6a46751d679e538ac086fb258cb432926e565b8684e00a2608bab3236b06", func := "verso/versolaw04.DomNames", spec := "domNames", inPlace := ["internal/abi.NoEscape"], recurses := true, apart := false }
def DomNamesSaid : Prop := domNamesRow.holds Try.pinned (OpenSpec.ofChange domNamesSpec)

/-- ITS FALSE NEIGHBOUR: 'it returns false'. Refute it at one input. -/
def domNamesWrong : ChangeSpec := { name := "domNames", fn := fun _ => fun
  | [d] => { results := [.lit (.bool false)], args := [d] }
  | _ => none }
def DomNamesWrongFalsely : Prop := domNamesRow.holds Try.pinned (OpenSpec.ofChange domNamesWrong)

/-- 'versolaw04.DomFine': WHATEVER THE INPUT: true; the input reads as it did. -/
def domFineSpec : ChangeSpec := { name := "domFine", fn := fun _ => fun
  | [d] => { results := [.lit (.bool true)], args := [d] }
  | _ => none }
def domFineRow : OpenClaim := { program := "ytkdppcpkigpmdaa", sum := "cfdc6a46751d679e538ac086fb258cb432926e565b8684e00a2608bab3236b06", func := "verso/versolaw04.DomFine", spec := "domFine", inPlace := ["internal/abi.NoEscape"], recurses := true, apart := false }
def DomFineSaid : Prop := domFineRow.holds Try.pinned (OpenSpec.ofChange domFineSpec)

/-- ITS FALSE NEIGHBOUR: 'it returns false'. Refute it at one input. -/
def domFineWrong : ChangeSpec := { name := "domFine", fn := fun _ => fun
  | [d] => { results := [.lit (.bool false)], args := [d] }
  | _ => none }
def DomFineWrongFalsely : Prop := domFineRow.holds Try.pinned (OpenSpec.ofChange domFineWrong)

/-- 'versolaw04.DomText': WHATEVER THE INPUT: true; the input reads as it did. -/
def domTextSpec : ChangeSpec := { name := "domText", fn := fun _ => fun
  | [d] => { results := [.lit (.bool true)], args := [d] }
  | _ => none }
def domTextRow : OpenClaim := { program := "ytkdppcpkigpmdaa", sum := "cfdc6a46751d679e538ac086fb258cb432926e565b8684e00a2608bab3236b06", func := "verso/versolaw04.DomText", spec := "domText", inPlace := ["internal/abi.NoEscape"], recurses := true, apart := false }
def DomTextSaid : Prop := domTextRow.holds Try.pinned (OpenSpec.ofChange domTextSpec)

/-- ITS FALSE NEIGHBOUR: 'it returns false'. Refute it at one input. -/
def domTextWrong : ChangeSpec := { name := "domText", fn := fun _ => fun
  | [d] => { results := [.lit (.bool false)], args := [d] }
  | _ => none }
def DomTextWrongFalsely : Prop := domTextRow.holds Try.pinned (OpenSpec.ofChange domTextWrong)

/-- 'versolaw04.DomDeep': WHATEVER THE INPUT: true; the input reads as it did. -/
def domDeepSpec : ChangeSpec := { name := "domDeep", fn := fun _ => fun
  | [d1, d2] => { results := [.lit (.bool true)], args := [d1, d2] }
  | _ => none }
def domDeepRow : OpenClaim := { program := "ytkdppcpkigpmdaa", sum := "cfdc6a46751d679e538ac086fb258cb432926e565b8684e00a2608bab3236b06", func := "verso/versolaw04.DomDeep", spec := "domDeep", inPlace := ["internal/abi.NoEscape"], recurses := true, apart := false }
def DomDeepSaid : Prop := domDeepRow.holds Try.pinned (OpenSpec.ofChange domDeepSpec)

/-- ITS FALSE NEIGHBOUR: 'it returns false'. Refute it at one input. -/
def domDeepWrong : ChangeSpec := { name := "domDeep", fn := fun _ => fun
  | [d1, d2] => { results := [.lit (.bool false)], args := [d1, d2] }
  | _ => none }
def DomDeepWrongFalsely : Prop := domDeepRow.holds Try.pinned (OpenSpec.ofChange domDeepWrong)

/- THE SECOND FORM. 'bulk': how many values and letters a reading holds, each counted each time it is reached (what is shared counts as often as it is met; a slice's spare places count too). A statement '..UptoSaid' is the law's where the arguments, and the package variables that the reading takes, are together of bulk at most 1048576: NARROWER than '..Said'. Prove '..Said' where nothing that the law and all that it calls make is longer than what came in: it says more and counts as full. Else prove '..UptoSaid'. A law counts once. -/
mutual
def uptoBulk {H : Type} : DataW H → Nat
  | .lit (.string bytes) => bytes.length + 1
  | .lit _ => 1
  | .nil => 1
  | .ptr d => uptoBulk d + 1
  | .slice elems spare => uptoBulkAll elems + uptoBulkAll spare + 1
  | .agg parts => uptoBulkAll parts + 1
  | .iface _ d => uptoBulk d + 1
  | .map entries => uptoBulkEntries entries + 1
  | .held _ => 1
def uptoBulkAll {H : Type} : List (DataW H) → Nat
  | [] => 0
  | d :: r => uptoBulk d + uptoBulkAll r
def uptoBulkEntries {H : Type} : List (Lit × DataW H) → Nat
  | [] => 0
  | x :: r => uptoBulkEntry x + uptoBulkEntries r
def uptoBulkEntry {H : Type} : Lit × DataW H → Nat
  | (.string bytes, d) => bytes.length + uptoBulk d + 1
  | (_, d) => uptoBulk d + 1
 end
def uptoSmall : (H : Type) → List (DataW H) → Bool := fun _ ds => decide (uptoBulkAll ds ≤ 1048576)
def OpenSpec.upto (s : _root_.Go.ChangeSpec) : _root_.Go.OpenSpec := { _root_.Go.OpenSpec.ofChange s with cond := some uptoSmall }

/-- 'versolaw04.DomBuilds', WHERE WHAT IT READS IS OF BULK AT MOST 1048576: true; the input reads as it did. -/
def domBuildsUptoRow : OpenClaim := { program := "ytkdppcpkigpmdaa", sum := "cfdc6a46751d679e538ac086fb258cb432926e565b8684e00a2608bab3236b06", func := "verso/versolaw04.DomBuilds", spec := "domBuilds", inPlace := ["internal/abi.NoEscape"], recurses := true, apart := false, narrowed := true }
def DomBuildsUptoSaid : Prop := domBuildsUptoRow.holds Try.pinned (OpenSpec.upto domBuildsSpec)

/-- 'versolaw04.DomNames', WHERE WHAT IT READS IS OF BULK AT MOST 1048576: true; the input reads as it did. -/
def domNamesUptoRow : OpenClaim := { program := "ytkdppcpkigpmdaa", sum := "cfdc6a46751d679e538ac086fb258cb432926e565b8684e00a2608bab3236b06", func := "verso/versolaw04.DomNames", spec := "domNames", inPlace := ["internal/abi.NoEscape"], recurses := true, apart := false, narrowed := true }
def DomNamesUptoSaid : Prop := domNamesUptoRow.holds Try.pinned (OpenSpec.upto domNamesSpec)

/-- 'versolaw04.DomFine', WHERE WHAT IT READS IS OF BULK AT MOST 1048576: true; the input reads as it did. -/
def domFineUptoRow : OpenClaim := { program := "ytkdppcpkigpmdaa", sum := "cfdc6a46751d679e538ac086fb258cb432926e565b8684e00a2608bab3236b06", func := "verso/versolaw04.DomFine", spec := "domFine", inPlace := ["internal/abi.NoEscape"], recurses := true, apart := false, narrowed := true }
def DomFineUptoSaid : Prop := domFineUptoRow.holds Try.pinned (OpenSpec.upto domFineSpec)

/-- 'versolaw04.DomText', WHERE WHAT IT READS IS OF BULK AT MOST 1048576: true; the input reads as it did. -/
def domTextUptoRow : OpenClaim := { program := "ytkdppcpkigpmdaa", sum := "cfdc6a46751d679e538ac086fb258cb432926e565b8684e00a2608bab3236b06", func := "verso/versolaw04.DomText", spec := "domText", inPlace := ["internal/abi.NoEscape"], recurses := true, apart := false, narrowed := true }
def DomTextUptoSaid : Prop := domTextUptoRow.holds Try.pinned (OpenSpec.upto domTextSpec)

/-- 'versolaw04.DomDeep', WHERE WHAT IT READS IS OF BULK AT MOST 1048576: true; the input reads as it did. -/
def domDeepUptoRow : OpenClaim := { program := "ytkdppcpkigpmdaa", sum := "cfdc6a46751d679e538ac086fb258cb432926e565b8684e00a2608bab3236b06", func := "verso/versolaw04.DomDeep", spec := "domDeep", inPlace := ["internal/abi.NoEscape"], recurses := true, apart := false, narrowed := true }
def DomDeepUptoSaid : Prop := domDeepUptoRow.holds Try.pinned (OpenSpec.upto domDeepSpec)

end Rows
end Go.Proofs.Ytkdppcpkigpmdaa
