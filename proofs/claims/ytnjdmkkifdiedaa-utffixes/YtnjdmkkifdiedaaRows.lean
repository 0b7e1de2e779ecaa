/-
  No cell of these rows narrows 'for every input' (looked for: loops, veiled, ifaces, maps, wideKeys, modest, calm, conditions, laid).
  DERIVED. THE GIVEN ROWS OF THIS SEAT. 6 by the template 'for every input the law returns true; each argument reads behind the call as it read before'; 0 by the template 'total and deterministic' (their statements: YtnjdmkkifdiedaaTotals.lean).
  GIVEN WITH THE SEED: the statements are not yours to turn. If you find one false, say at which input.
  Laid BY PROGRAM, IN A SANDBOX (cutbox-rows.mjs): the forced cells as the released guide's own fill.sh prints them over the translation fd7d770568539560… (all of the seat's roots in one cut). By AI agents, Wed Nov 11 2026. No macro, syntax, notation, axiom, sorry.
-/
import Derived.Test.YtnjdmkkifdiedaaChecked
import GoSem.Claim
import GoSem.ClaimJoined
import GoSem.ClaimMapViews
import Derived.JoinedTies
import Derived.KernelRfl
namespace Go.Proofs.Ytnjdmkkifdiedaa
/- THE CELL 'sum', in the pinned program and in every row, IS THE sha256 OF THE DUMP (.gsa) THAT YtnjdmkkifdiedaaProg.lean LOADS. Nothing in Lean hashes anything: it is a label: what it is worth is what the hold of that sum in a sandbox is worth. -/
noncomputable def Try.pinned : Pinned := { name := "ytnjdmkkifdiedaa", sum := "fd7d770568539560387218395631b4b5f723b32ff66b430708416aab5942d7bc", checked := Try.checked }
namespace Rows
def none {H : Type} : Left H := { results := [], args := [] }

/-- 'versolaw01.UtfFixes': WHATEVER THE INPUT: true; the input reads as it did. -/
def utfFixesSpec : ChangeSpec := { name := "utfFixes", fn := fun _ => fun
  | [d] => { results := [.lit (.bool true)], args := [d] }
  | _ => none }
def utfFixesRow : OpenClaim := { program := "ytnjdmkkifdiedaa", sum := "fd7d770568539560387218395631b4b5f723b32ff66b430708416aab5942d7bc", func := "verso/versolaw01.UtfFixes", spec := "utfFixes", inPlace := ["internal/abi.NoEscape"], apart := false }
def UtfFixesSaid : Prop := utfFixesRow.holds Try.pinned (OpenSpec.ofChange utfFixesSpec)

/-- ITS FALSE NEIGHBOUR: 'it returns false'. Refute it at one input. -/
def utfFixesWrong : ChangeSpec := { name := "utfFixes", fn := fun _ => fun
  | [d] => { results := [.lit (.bool false)], args := [d] }
  | _ => none }
def UtfFixesWrongFalsely : Prop := utfFixesRow.holds Try.pinned (OpenSpec.ofChange utfFixesWrong)

/-- 'versolaw01.UtfTells': WHATEVER THE INPUT: true; the input reads as it did. -/
def utfTellsSpec : ChangeSpec := { name := "utfTells", fn := fun _ => fun
  | [d] => { results := [.lit (.bool true)], args := [d] }
  | _ => none }
def utfTellsRow : OpenClaim := { program := "ytnjdmkkifdiedaa", sum := "fd7d770568539560387218395631b4b5f723b32ff66b430708416aab5942d7bc", func := "verso/versolaw01.UtfTells", spec := "utfTells", inPlace := ["internal/abi.NoEscape"], apart := false }
def UtfTellsSaid : Prop := utfTellsRow.holds Try.pinned (OpenSpec.ofChange utfTellsSpec)

/-- ITS FALSE NEIGHBOUR: 'it returns false'. Refute it at one input. -/
def utfTellsWrong : ChangeSpec := { name := "utfTells", fn := fun _ => fun
  | [d] => { results := [.lit (.bool false)], args := [d] }
  | _ => none }
def UtfTellsWrongFalsely : Prop := utfTellsRow.holds Try.pinned (OpenSpec.ofChange utfTellsWrong)

/-- 'versolaw01.UtfCuts': WHATEVER THE INPUT: true; the input reads as it did. -/
def utfCutsSpec : ChangeSpec := { name := "utfCuts", fn := fun _ => fun
  | [d1, d2] => { results := [.lit (.bool true)], args := [d1, d2] }
  | _ => none }
def utfCutsRow : OpenClaim := { program := "ytnjdmkkifdiedaa", sum := "fd7d770568539560387218395631b4b5f723b32ff66b430708416aab5942d7bc", func := "verso/versolaw01.UtfCuts", spec := "utfCuts", inPlace := ["internal/abi.NoEscape"], apart := false }
def UtfCutsSaid : Prop := utfCutsRow.holds Try.pinned (OpenSpec.ofChange utfCutsSpec)

/-- ITS FALSE NEIGHBOUR: 'it returns false'. Refute it at one input. -/
def utfCutsWrong : ChangeSpec := { name := "utfCuts", fn := fun _ => fun
  | [d1, d2] => { results := [.lit (.bool false)], args := [d1, d2] }
  | _ => none }
def UtfCutsWrongFalsely : Prop := utfCutsRow.holds Try.pinned (OpenSpec.ofChange utfCutsWrong)

/-- 'versolaw01.UtfAgain': WHATEVER THE INPUT: true; the input reads as it did. -/
def utfAgainSpec : ChangeSpec := { name := "utfAgain", fn := fun _ => fun
  | [d] => { results := [.lit (.bool true)], args := [d] }
  | _ => none }
def utfAgainRow : OpenClaim := { program := "ytnjdmkkifdiedaa", sum := "fd7d770568539560387218395631b4b5f723b32ff66b430708416aab5942d7bc", func := "verso/versolaw01.UtfAgain", spec := "utfAgain", inPlace := ["internal/abi.NoEscape"], apart := false }
def UtfAgainSaid : Prop := utfAgainRow.holds Try.pinned (OpenSpec.ofChange utfAgainSpec)

/-- ITS FALSE NEIGHBOUR: 'it returns false'. Refute it at one input. -/
def utfAgainWrong : ChangeSpec := { name := "utfAgain", fn := fun _ => fun
  | [d] => { results := [.lit (.bool false)], args := [d] }
  | _ => none }
def UtfAgainWrongFalsely : Prop := utfAgainRow.holds Try.pinned (OpenSpec.ofChange utfAgainWrong)

/-- 'versolaw01.UtfParts': WHATEVER THE INPUT: true; the input reads as it did. -/
def utfPartsSpec : ChangeSpec := { name := "utfParts", fn := fun _ => fun
  | [d1, d2] => { results := [.lit (.bool true)], args := [d1, d2] }
  | _ => none }
def utfPartsRow : OpenClaim := { program := "ytnjdmkkifdiedaa", sum := "fd7d770568539560387218395631b4b5f723b32ff66b430708416aab5942d7bc", func := "verso/versolaw01.UtfParts", spec := "utfParts", inPlace := ["internal/abi.NoEscape"], apart := false }
def UtfPartsSaid : Prop := utfPartsRow.holds Try.pinned (OpenSpec.ofChange utfPartsSpec)

/-- ITS FALSE NEIGHBOUR: 'it returns false'. Refute it at one input. -/
def utfPartsWrong : ChangeSpec := { name := "utfParts", fn := fun _ => fun
  | [d1, d2] => { results := [.lit (.bool false)], args := [d1, d2] }
  | _ => none }
def UtfPartsWrongFalsely : Prop := utfPartsRow.holds Try.pinned (OpenSpec.ofChange utfPartsWrong)

/-- 'versolaw01.UtfLower': WHATEVER THE INPUT: true; the input reads as it did. -/
def utfLowerSpec : ChangeSpec := { name := "utfLower", fn := fun _ => fun
  | [d] => { results := [.lit (.bool true)], args := [d] }
  | _ => none }
def utfLowerRow : OpenClaim := { program := "ytnjdmkkifdiedaa", sum := "fd7d770568539560387218395631b4b5f723b32ff66b430708416aab5942d7bc", func := "verso/versolaw01.UtfLower", spec := "utfLower", inPlace := ["internal/abi.NoEscape"], apart := false }
def UtfLowerSaid : Prop := utfLowerRow.holds Try.pinned (OpenSpec.ofChange utfLowerSpec)

/-- ITS FALSE NEIGHBOUR: 'it returns false'. Refute it at one input. -/
def utfLowerWrong : ChangeSpec := { name := "utfLower", fn := fun _ => fun
  | [d] => { results := [.lit (.bool false)], args := [d] }
  | _ => none }
def UtfLowerWrongFalsely : Prop := utfLowerRow.holds Try.pinned (OpenSpec.ofChange utfLowerWrong)

/- THE SECOND FORM. 'bulk': how many values and letters a reading holds, each counted each time it is reached (what is shared counts as often as it is met; a slice's spare places count too). A statement '..UptoSaid' is the law's where the arguments, and the package variables that the reading takes, are together of bulk at most 1048576: NARROWER than '..Said'. Prove '..Said' where nothing that the law and all that it calls make is longer than what came in: it says more and counts as full. Else prove '..UptoSaid'. A law counts once. -/
mutual
def uptoBulk {H : Type} : DataW H → Nat
  | .lit (.string bytes) => bytes.length + 1
  | .lit _ => 1
  | .nil => 1
  | .ptr d => uptoBulk d + 1
  | .slice elems spare => uptoBulkAll elems + uptoBulkAll spare + 1
  | .agg parts => uptoBulkAll parts + 1
  | .iface _ d => uptoBulk d + 1
  | .map entries => uptoBulkEntries entries + 1
  | .held _ => 1
def uptoBulkAll {H : Type} : List (DataW H) → Nat
  | [] => 0
  | d :: r => uptoBulk d + uptoBulkAll r
def uptoBulkEntries {H : Type} : List (Lit × DataW H) → Nat
  | [] => 0
  | x :: r => uptoBulkEntry x + uptoBulkEntries r
def uptoBulkEntry {H : Type} : Lit × DataW H → Nat
  | (.string bytes, d) => bytes.length + uptoBulk d + 1
  | (_, d) => uptoBulk d + 1
 end
def uptoSmall : (H : Type) → List (DataW H) → Bool := fun _ ds => decide (uptoBulkAll ds ≤ 1048576)
def OpenSpec.upto (s : _root_.Go.ChangeSpec) : _root_.Go.OpenSpec := { _root_.Go.OpenSpec.ofChange s with cond := some uptoSmall }

/-- 'versolaw01.UtfFixes', WHERE WHAT IT READS IS OF BULK AT MOST 1048576: true; the input reads as it did. -/
def utfFixesUptoRow : OpenClaim := { program := "ytnjdmkkifdiedaa", sum := "fd7d770568539560387218395631b4b5f723b32ff66b430708416aab5942d7bc", func := "verso/versolaw01.UtfFixes", spec := "utfFixes", inPlace := ["internal/abi.NoEscape"], apart := false, narrowed := true }
def UtfFixesUptoSaid : Prop := utfFixesUptoRow.holds Try.pinned (OpenSpec.upto utfFixesSpec)

/-- 'versolaw01.UtfTells', WHERE WHAT IT READS IS OF BULK AT MOST 1048576: true; the input reads as it did. -/
def utfTellsUptoRow : OpenClaim := { program := "ytnjdmkkifdiedaa", sum := "fd7d770568539560387218395631b4b5f723b32ff66b430708416aab5942d7bc", func := "verso/versolaw01.UtfTells", spec := "utfTells", inPlace := ["internal/abi.NoEscape"], apart := false, narrowed := true }
def UtfTellsUptoSaid : Prop := utfTellsUptoRow.holds Try.pinned (OpenSpec.upto utfTellsSpec)

/-- 'versolaw01.UtfCuts', WHERE WHAT IT READS IS OF BULK AT MOST 1048576: true; the input reads as it did. -/
def utfCutsUptoRow : OpenClaim := { program := "ytnjdmkkifdiedaa", sum := "fd7d770568539560387218395631b4b5f723b32ff66b430708416aab5942d7bc", func := "verso/versolaw01.UtfCuts", spec := "utfCuts", inPlace := ["internal/abi.NoEscape"], apart := false, narrowed := true }
def UtfCutsUptoSaid : Prop := utfCutsUptoRow.holds Try.pinned (OpenSpec.upto utfCutsSpec)

/-- 'versolaw01.UtfAgain', WHERE WHAT IT READS IS OF BULK AT MOST 1048576: true; the input reads as it did. -/
def utfAgainUptoRow : OpenClaim := { program := "ytnjdmkkifdiedaa", sum := "fd7d770568539560387218395631b4b5f723b32ff66b430708416aab5942d7bc", func := "verso/versolaw01.UtfAgain", spec := "utfAgain", inPlace := ["internal/abi.NoEscape"], apart := false, narrowed := true }
def UtfAgainUptoSaid : Prop := utfAgainUptoRow.holds Try.pinned (OpenSpec.upto utfAgainSpec)

/-- 'versolaw01.UtfParts', WHERE WHAT IT READS IS OF BULK AT MOST 1048576: true; the input reads as it did. -/
def utfPartsUptoRow : OpenClaim := { program := "ytnjdmkkifdiedaa", sum := "fd7d770568539560387218395631b4b5f723b32ff66b430708416aab5942d7bc", func := "verso/versolaw01.UtfParts", spec := "utfParts", inPlace := ["internal/abi.NoEscape"], apart := false, narrowed := true }
def UtfPartsUptoSaid : Prop := utfPartsUptoRow.holds Try.pinned (OpenSpec.upto utfPartsSpec)

/-- 'versolaw01.UtfLower', WHERE WHAT IT READS IS OF BULK AT MOST 1048576: true; the input reads as it did. -/
def utfLowerUptoRow : OpenClaim := { program := "ytnjdmkkifdiedaa", sum := "fd7d770568539560387218395631b4b5f723b32ff66b430708416aab5942d7bc", func := "verso/versolaw01.UtfLower", spec := "utfLower", inPlace := ["internal/abi.NoEscape"], apart := false, narrowed := true }
def UtfLowerUptoSaid : Prop := utfLowerUptoRow.holds Try.pinned (OpenSpec.upto utfLowerSpec)

end Rows
end Go.Proofs.Ytnjdmkkifdiedaa
