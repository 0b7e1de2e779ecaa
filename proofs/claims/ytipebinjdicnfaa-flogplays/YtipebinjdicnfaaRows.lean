/-
  No cell of these rows narrows 'for every input' (looked for: loops, veiled, ifaces, maps, wideKeys, modest, calm, conditions, laid).
  DERIVED. THE GIVEN ROWS OF THIS SEAT. 6 by the template 'for every input the law returns true; each argument reads behind the call as it read before'; 0 by the template 'total and deterministic' (their statements: YtipebinjdicnfaaTotals.lean).
  GIVEN WITH THE SEED: the statements are not yours to turn. If you find one false, say at which input.
  Laid BY PROGRAM, IN A SANDBOX (cutbox-rows.mjs): the forced cells as the released guide's own fill.sh prints them over the translation a0e674a8599c7b74… (all of the seat's roots in one cut). By AI agents, Wed Nov 11 2026. No macro, syntax, notation, axiom, sorry.
-/
import Derived.Test.YtipebinjdicnfaaChecked
import GoSem.Claim
import GoSem.ClaimJoined
import GoSem.ClaimMapViews
import Derived.JoinedTies
import Derived.KernelRfl
namespace Go.Proofs.Ytipebinjdicnfaa
/- THE CELL 'sum', in the pinned program and in every row, IS THE sha256 OF THE DUMP (.gsa) THAT YtipebinjdicnfaaProg.lean LOADS. Nothing in Lean hashes anything: it is a label: what it is worth is what the hold of that sum in a sandbox is worth. -/
noncomputable def Try.pinned : Pinned := { name := "ytipebinjdicnfaa", sum := "a0e674a8599c7b742b02657e47406ab353b31f6b5d69cfcb9415fe160dd017b6", checked := Try.checked }
namespace Rows
def none {H : Type} : Left H := { results := [], args := [] }

/-- 'versolaw13.FlogPlays': WHATEVER THE INPUT: true; the input reads as it did. -/
def flogPlaysSpec : ChangeSpec := { name := "flogPlays", fn := fun _ => fun
  | [d] => { results := [.lit (.bool true)], args := [d] }
  | _ => none }
def flogPlaysRow : OpenClaim := { program := "ytipebinjdicnfaa", sum := "a0e674a8599c7b742b02657e47406ab353b31f6b5d69cfcb9415fe160dd017b6", func := "verso/versolaw13.FlogPlays", spec := "flogPlays", apart := false }
def FlogPlaysSaid : Prop := flogPlaysRow.holds Try.pinned (OpenSpec.ofChange flogPlaysSpec)

/-- ITS FALSE NEIGHBOUR: 'it returns false'. Refute it at one input. -/
def flogPlaysWrong : ChangeSpec := { name := "flogPlays", fn := fun _ => fun
  | [d] => { results := [.lit (.bool false)], args := [d] }
  | _ => none }
def FlogPlaysWrongFalsely : Prop := flogPlaysRow.holds Try.pinned (OpenSpec.ofChange flogPlaysWrong)

/-- 'versolaw13.FlogBytes': WHATEVER THE INPUT: true; the input reads as it did. -/
def flogBytesSpec : ChangeSpec := { name := "flogBytes", fn := fun _ => fun
  | [d] => { results := [.lit (.bool true)], args := [d] }
  | _ => none }
def flogBytesRow : OpenClaim := { program := "ytipebinjdicnfaa", sum := "a0e674a8599c7b742b02657e47406ab353b31f6b5d69cfcb9415fe160dd017b6", func := "verso/versolaw13.FlogBytes", spec := "flogBytes", apart := false }
def FlogBytesSaid : Prop := flogBytesRow.holds Try.pinned (OpenSpec.ofChange flogBytesSpec)

/-- ITS FALSE NEIGHBOUR: 'it returns false'. Refute it at one input. -/
def flogBytesWrong : ChangeSpec := { name := "flogBytes", fn := fun _ => fun
  | [d] => { results := [.lit (.bool false)], args := [d] }
  | _ => none }
def FlogBytesWrongFalsely : Prop := flogBytesRow.holds Try.pinned (OpenSpec.ofChange flogBytesWrong)

/-- 'versolaw13.FlogLasts': WHATEVER THE INPUT: true; the input reads as it did. -/
def flogLastsSpec : ChangeSpec := { name := "flogLasts", fn := fun _ => fun
  | [d1, d2, d3] => { results := [.lit (.bool true)], args := [d1, d2, d3] }
  | _ => none }
def flogLastsRow : OpenClaim := { program := "ytipebinjdicnfaa", sum := "a0e674a8599c7b742b02657e47406ab353b31f6b5d69cfcb9415fe160dd017b6", func := "verso/versolaw13.FlogLasts", spec := "flogLasts", apart := false }
def FlogLastsSaid : Prop := flogLastsRow.holds Try.pinned (OpenSpec.ofChange flogLastsSpec)

/-- ITS FALSE NEIGHBOUR: 'it returns false'. Refute it at one input. -/
def flogLastsWrong : ChangeSpec := { name := "flogLasts", fn := fun _ => fun
  | [d1, d2, d3] => { results := [.lit (.bool false)], args := [d1, d2, d3] }
  | _ => none }
def FlogLastsWrongFalsely : Prop := flogLastsRow.holds Try.pinned (OpenSpec.ofChange flogLastsWrong)

/-- 'versolaw13.FlogAgain': WHATEVER THE INPUT: true; the input reads as it did. -/
def flogAgainSpec : ChangeSpec := { name := "flogAgain", fn := fun _ => fun
  | [d1, d2] => { results := [.lit (.bool true)], args := [d1, d2] }
  | _ => none }
def flogAgainRow : OpenClaim := { program := "ytipebinjdicnfaa", sum := "a0e674a8599c7b742b02657e47406ab353b31f6b5d69cfcb9415fe160dd017b6", func := "verso/versolaw13.FlogAgain", spec := "flogAgain", apart := false }
def FlogAgainSaid : Prop := flogAgainRow.holds Try.pinned (OpenSpec.ofChange flogAgainSpec)

/-- ITS FALSE NEIGHBOUR: 'it returns false'. Refute it at one input. -/
def flogAgainWrong : ChangeSpec := { name := "flogAgain", fn := fun _ => fun
  | [d1, d2] => { results := [.lit (.bool false)], args := [d1, d2] }
  | _ => none }
def FlogAgainWrongFalsely : Prop := flogAgainRow.holds Try.pinned (OpenSpec.ofChange flogAgainWrong)

/-- 'versolaw13.FlogLong': WHATEVER THE INPUT: true; the input reads as it did. -/
def flogLongSpec : ChangeSpec := { name := "flogLong", fn := fun _ => fun
  | [d] => { results := [.lit (.bool true)], args := [d] }
  | _ => none }
def flogLongRow : OpenClaim := { program := "ytipebinjdicnfaa", sum := "a0e674a8599c7b742b02657e47406ab353b31f6b5d69cfcb9415fe160dd017b6", func := "verso/versolaw13.FlogLong", spec := "flogLong", apart := false }
def FlogLongSaid : Prop := flogLongRow.holds Try.pinned (OpenSpec.ofChange flogLongSpec)

/-- ITS FALSE NEIGHBOUR: 'it returns false'. Refute it at one input. -/
def flogLongWrong : ChangeSpec := { name := "flogLong", fn := fun _ => fun
  | [d] => { results := [.lit (.bool false)], args := [d] }
  | _ => none }
def FlogLongWrongFalsely : Prop := flogLongRow.holds Try.pinned (OpenSpec.ofChange flogLongWrong)

/-- 'versolaw13.FlogMany': WHATEVER THE INPUT: true; the input reads as it did. -/
def flogManySpec : ChangeSpec := { name := "flogMany", fn := fun _ => fun
  | [d] => { results := [.lit (.bool true)], args := [d] }
  | _ => none }
def flogManyRow : OpenClaim := { program := "ytipebinjdicnfaa", sum := "a0e674a8599c7b742b02657e47406ab353b31f6b5d69cfcb9415fe160dd017b6", func := "verso/versolaw13.FlogMany", spec := "flogMany", apart := false }
def FlogManySaid : Prop := flogManyRow.holds Try.pinned (OpenSpec.ofChange flogManySpec)

/-- ITS FALSE NEIGHBOUR: 'it returns false'. Refute it at one input. -/
def flogManyWrong : ChangeSpec := { name := "flogMany", fn := fun _ => fun
  | [d] => { results := [.lit (.bool false)], args := [d] }
  | _ => none }
def FlogManyWrongFalsely : Prop := flogManyRow.holds Try.pinned (OpenSpec.ofChange flogManyWrong)

/- THE SECOND FORM. 'bulk': how many values and letters a reading holds, each counted each time it is reached (what is shared counts as often as it is met; a slice's spare places count too). A statement '..UptoSaid' is the law's where the arguments, and the package variables that the reading takes, are together of bulk at most 1048576: NARROWER than '..Said'. Prove '..Said' where nothing that the law and all that it calls make is longer than what came in: it says more and counts as full. Else prove '..UptoSaid'. A law counts once. -/
mutual
def uptoBulk {H : Type} : DataW H → Nat
  | .lit (.string bytes) => bytes.length + 1
  | .lit _ => 1
  | .nil => 1
  | .ptr d => uptoBulk d + 1
  | .slice elems spare => uptoBulkAll elems + uptoBulkAll spare + 1
  | .agg parts => uptoBulkAll parts + 1
  | .iface _ d => uptoBulk d + 1
  | .map entries => uptoBulkEntries entries + 1
  | .held _ => 1
def uptoBulkAll {H : Type} : List (DataW H) → Nat
  | [] => 0
  | d :: r => uptoBulk d + uptoBulkAll r
def uptoBulkEntries {H : Type} : List (Lit × DataW H) → Nat
  | [] => 0
  | x :: r => uptoBulkEntry x + uptoBulkEntries r
def uptoBulkEntry {H : Type} : Lit × DataW H → Nat
  | (.string bytes, d) => bytes.length + uptoBulk d + 1
  | (_, d) => uptoBulk d + 1
 end
def uptoSmall : (H : Type) → List (DataW H) → Bool := fun _ ds => decide (uptoBulkAll ds ≤ 1048576)
def OpenSpec.upto (s : _root_.Go.ChangeSpec) : _root_.Go.OpenSpec := { _root_.Go.OpenSpec.ofChange s with cond := some uptoSmall }

/-- 'versolaw13.FlogPlays', WHERE WHAT IT READS IS OF BULK AT MOST 1048576: true; the input reads as it did. -/
def flogPlaysUptoRow : OpenClaim := { program := "ytipebinjdicnfaa", sum := "a0e674a8599c7b742b02657e47406ab353b31f6b5d69cfcb9415fe160dd017b6", func := "verso/versolaw13.FlogPlays", spec := "flogPlays", apart := false, narrowed := true }
def FlogPlaysUptoSaid : Prop := flogPlaysUptoRow.holds Try.pinned (OpenSpec.upto flogPlaysSpec)

/-- 'versolaw13.FlogBytes', WHERE WHAT IT READS IS OF BULK AT MOST 1048576: true; the input reads as it did. -/
def flogBytesUptoRow : OpenClaim := { program := "ytipebinjdicnfaa", sum := "a0e674a8599c7b742b02657e47406ab353b31f6b5d69cfcb9415fe160dd017b6", func := "verso/versolaw13.FlogBytes", spec := "flogBytes", apart := false, narrowed := true }
def FlogBytesUptoSaid : Prop := flogBytesUptoRow.holds Try.pinned (OpenSpec.upto flogBytesSpec)

/-- 'versolaw13.FlogLasts', WHERE WHAT IT READS IS OF BULK AT MOST 1048576: true; the input reads as it did. -/
def flogLastsUptoRow : OpenClaim := { program := "ytipebinjdicnfaa", sum := "a0e674a8599c7b742b02657e47406ab353b31f6b5d69cfcb9415fe160dd017b6", func := "verso/versolaw13.FlogLasts", spec := "flogLasts", apart := false, narrowed := true }
def FlogLastsUptoSaid : Prop := flogLastsUptoRow.holds Try.pinned (OpenSpec.upto flogLastsSpec)

/-- 'versolaw13.FlogAgain', WHERE WHAT IT READS IS OF BULK AT MOST 1048576: true; the input reads as it did. -/
def flogAgainUptoRow : OpenClaim := { program := "ytipebinjdicnfaa", sum := "a0e674a8599c7b742b02657e47406ab353b31f6b5d69cfcb9415fe160dd017b6", func := "verso/versolaw13.FlogAgain", spec := "flogAgain", apart := false, narrowed := true }
def FlogAgainUptoSaid : Prop := flogAgainUptoRow.holds Try.pinned (OpenSpec.upto flogAgainSpec)

/-- 'versolaw13.FlogLong', WHERE WHAT IT READS IS OF BULK AT MOST 1048576: true; the input reads as it did. -/
def flogLongUptoRow : OpenClaim := { program := "ytipebinjdicnfaa", sum := "a0e674a8599c7b742b02657e47406ab353b31f6b5d69cfcb9415fe160dd017b6", func := "verso/versolaw13.FlogLong", spec := "flogLong", apart := false, narrowed := true }
def FlogLongUptoSaid : Prop := flogLongUptoRow.holds Try.pinned (OpenSpec.upto flogLongSpec)

/-- 'versolaw13.FlogMany', WHERE WHAT IT READS IS OF BULK AT MOST 1048576: true; the input reads as it did. -/
def flogManyUptoRow : OpenClaim := { program := "ytipebinjdicnfaa", sum := "a0e674a8599c7b742b02657e47406ab353b31f6b5d69cfcb9415fe160dd017b6", func := "verso/versolaw13.FlogMany", spec := "flogMany", apart := false, narrowed := true }
def FlogManyUptoSaid : Prop := flogManyUptoRow.holds Try.pinned (OpenSpec.upto flogManySpec)

end Rows
end Go.Proofs.Ytipebinjdicnfaa
