/-
  The document's number, rises and ids, walked.
-/
import Derived.Test.YtebcpmgooodmpabGreatDoorMD1
import Derived.Deep.MidRow
namespace Go.Proofs.YtebcpmgooodmpabGreatDoor
open Go.RowKit
open Utf1
open Pol8 hiding text right Right
open Msg15

/-- A number of digits; -1: there is none. -/
def numM (s : L) : Int := if s.all dig = true ∧ s.length ≤ 7 then (numTo 0 s : Int) else -1
theorem numM_bad {l : L} {k : Nat} {c : UInt8} (h : l[k]? = some c) (hc : dig c = false) : numM l = -1 := by
  unfold numM
  rw [if_neg]
  rintro ⟨h1, _⟩
  have := List.all_eq_true.1 h1 c (List.mem_of_getElem? h)
  rw [hc] at this
  cases this
theorem numM_long {l : L} (h : 7 < l.length) : numM l = -1 := by
  unfold numM
  rw [if_neg]
  rintro ⟨_, h1⟩
  omega
theorem numM_dec (n : Nat) (h : n ≤ 1000000) : numM (dec n) = (n : Int) := by
  unfold numM
  rw [if_pos ⟨(dec_facts n).1, dec_len n 6 (by omega)⟩, (dec_facts n).2]

/-- A slice of posts that is read. -/
def PostRow (w : World) (v : Value) (ts : List (ByteArray × ByteArray)) : Prop := ∃ p cap, v = .slice p ts.length cap ∧ ts.length ≤ cap ∧ (p = none → cap = 0) ∧ ∀ i a b, ts[i]? = some (a, b) → ∃ g off, p = some ⟨g, off, none⟩ ∧ w.cell? ⟨g, off + i * 2, none⟩ = some (.string a) ∧ w.cell? ⟨g, off + i * 2 + 1, none⟩ = some (.string b)
theorem mcell_keep {w w' : World} {a : Addr} {v : Value} (h : w.cell? a = some v) (hb : Below w.heap.size w w') : w'.cell? a = some v := by
  have hl : a.block < w.heap.size := by
    unfold World.cell? at h
    cases hb2 : w.heap[a.block]? with
    | none => rw [hb2] at h; simp at h
    | some o => exact (Array.getElem?_eq_some_iff.1 hb2).1
  rw [← h]
  exact hb.cell hl
theorem PostRow.below {w w' : World} {v : Value} {ts : List (ByteArray × ByteArray)} (h : PostRow w v ts) (hb : Below w.heap.size w w') : PostRow w' v ts := by
  obtain ⟨p, cap, e, h1, h0, hc⟩ := h
  refine ⟨p, cap, e, h1, h0, fun i a b hi => ?_⟩
  obtain ⟨g, off, hp, x, y⟩ := hc i a b hi
  exact ⟨g, off, hp, mcell_keep x hb, mcell_keep y hb⟩
theorem infoStrM4 : (Tryz.prog.info? 9).map (fun i => (i.zero, i.size, i.bytes)) = some (some (.string ByteArray.empty), 1, 16) := by kernel_rfl

end Go.Proofs.YtebcpmgooodmpabGreatDoor
