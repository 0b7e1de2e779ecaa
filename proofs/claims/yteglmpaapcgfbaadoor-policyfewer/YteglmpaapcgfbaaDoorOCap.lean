/-
  A policy among the arguments: its slices' lengths are at most their capacities.
-/
import Derived.Test.YteglmpaapcgfbaaDoorOPol
import Derived.Test.YteglmpaapcgfbaaDoorPL6
namespace Go.Proofs.YteglmpaapcgfbaaDoor
open Go.ChangeShapes Go.WideShapes Go.ChangeAt Go.RowKit
open Utf1 Pol8
section
variable {H : Type} {enc : TypeId × Value → H} {W : World}
theorem cap_cells {n : Nat} {c : Value} {x : DataW H × List MemPlace} (h : DataW.trod enc Tryd.prog W 0 (fun _ => true) true n 22 [c] = some x) : CapOk c := by
  rcases open_strings Tryd.underlying22 Tryd.underlying9 cellsStr h with ⟨hcs, _⟩ | ⟨x, len, cap, ss, hcs, _, hl, hm, hz, _, hcell, hsz⟩
  · simp at hcs
    subst hcs
    intro p n c e
    injection e with _ h1 h2
    omega
  · simp at hcs
    subst hcs
    intro p n c e
    injection e with _ h1 h2
    omega
set_option maxRecDepth 10000 in
theorem caps_pol {p : Pol} {v1 v2 v3 v4 v5 : Value} {d : DataW H} {ps : List MemPlace} (hd : DataW.Trod enc Tryd.prog W 0 (fun _ => true) true 24 (pval p v1 v2 v3 v4 v5) d ps) : CapOk v3 ∧ CapOk v4 ∧ CapOk v5 := by
  obtain ⟨fuel, h⟩ := hd
  have h : DataW.trod enc Tryd.prog W 0 (fun _ => true) true fuel 24 [.int .i64 p.ep, v1, v2, v3, v4, v5, .int .i64 p.dp, .int .i64 p.nd, .int .i64 p.bt] = some (d, ps) := h
  obtain ⟨xs, m, _, -, hl, hlen, hf⟩ := DataW.trod_struct Tryd.underlying24 h
  obtain ⟨y0, y1, y2, y3, y4, y5, y6, y7, y8, rfl⟩ := list9 (show xs.length = 9 from hlen)
  have h3 := hf 3 _ rfl
  have h4 := hf 4 _ rfl
  have h5 := hf 5 _ rfl
  simp only [List.getElem?_cons_zero, List.getElem?_cons_succ] at h3 h4 h5
  exact ⟨cap_cells h3, cap_cells h4, cap_cells h5⟩
end
theorem fewer_go {v1 v2 v3 v4 v5 : Value} {p : Pol} {l1 l2 l3 l4 l5 : List ByteArray} (wh at_ : Int) (w : World) (hv : PolV w v1 v2 v3 v4 v5 p l1 l2 l3 l4 l5) (hc : CapOk v3 ∧ CapOk v4 ∧ CapOk v5) :
    Calls Tryd.prog 8 #[pval p v1 v2 v3 v4 v5, .int .i64 wh, .int .i64 at_] w fun e w' => e = .returned (.bool true) ∧ Below w.heap.size w w' :=
  lawFewer_walk ptext_any pright_any pattrB_any v1 v2 v3 v4 v5 p l1 l2 l3 l4 l5 pstrict_any wh at_ w hv hc.1 hc.2.1 hc.2.2
end Go.Proofs.YteglmpaapcgfbaaDoor
