/-
  The tree's builder: what making way keeps; what a start leaves open (startR); strings.Clone.
-/
import Derived.Test.YtholfdfjapgfbaaGreatDoorG18
import Derived.Test.YtholfdfjapgfbaaGreatDoorShelf
namespace Go.Proofs.YtholfdfjapgfbaaGreatDoor.Dm
open Go.RowKit
open Utf1

theorem clone_any (s : ByteArray) (w : World) (hlim : s.size ≤ 281474976710656) :
    Calls Tryz.prog 23 #[.string s] w fun e w' => e = .returned (.string s) ∧ Below w.heap.size w w' := by
  go_enter Tryz.func23, Tryz.ntmps23
  go_wp2_with (go_at_call 43; refine (Tryz.stringslite_Clone _ _ hlim).mono ?_; rintro e w' ⟨rfl, hb⟩)
  go_ret
  exact ⟨rfl, hb⟩

theorem wayR_all (name : List UInt8) (r : List Nd) (t : List UInt8) (hr : r ≠ []) (hroot : r.getLast?.map Nd.name = some []) : 1 ≤ (wayR name r t).1.length ∧ (wayR name r t).1.length ≤ r.length ∧ cntL (wayR name r t).1 + tx (wayR name r t).2 = cntL r + tx t ∧ (wayR name r t).2.length ≤ t.length ∧ (wayR name r t).1.getLast?.map Nd.name = r.getLast?.map Nd.name := by
  have c := closeIn_all [[112]] r t hr
  have cr := closeIn_root [[112]] r t hr
  have hself : 1 ≤ r.length := List.length_pos_iff.2 hr
  unfold wayR
  split
  · split
    · split
      · rename_i hh
        have hne : (closeIn [[112]] r t).1 ≠ [] := List.length_pos_iff.1 c.1
        have hlt := innerR_lt [[108, 105], [117, 108], [111, 108]] (closeIn [[112]] r t).1 hne
        by_cases h0 : innerR [[108, 105], [117, 108], [111, 108]] (closeIn [[112]] r t).1 = 0
        · exfalso
          rw [h0, ← List.head?_eq_getElem?, List.head?_reverse, cr, hroot] at hh
          exact absurd hh (by decide)
        · have q := closeR_all ((closeIn [[112]] r t).1.length - innerR [[108, 105], [117, 108], [111, 108]] (closeIn [[112]] r t).1) (closeIn [[112]] r t).1 (closeIn [[112]] r t).2 (by omega)
          have qr := closeR_root ((closeIn [[112]] r t).1.length - innerR [[108, 105], [117, 108], [111, 108]] (closeIn [[112]] r t).1) (closeIn [[112]] r t).1 (closeIn [[112]] r t).2 (by omega)
          exact ⟨by omega, by omega, by omega, by omega, qr.trans cr⟩
      · exact ⟨c.1, c.2.1, c.2.2.1, c.2.2.2, cr⟩
    · exact ⟨c.1, c.2.1, c.2.2.1, c.2.2.2, cr⟩
  · exact ⟨hself, Nat.le_refl _, rfl, Nat.le_refl _, rfl⟩

/-- What stands open, the counts and the waiting text behind a start. -/
def startR (name : List UInt8) (at' : List (List UInt8 × List UInt8)) (r : List Nd) (t : List UInt8) (o n : Nat) : List Nd × List UInt8 × Nat × Nat :=
  if name = [] then (r, t, o, n)
  else match (wayR name r t).1 with
    | [] => (r, t, o, n)
    | nd :: q => if name ∈ voids then (addKid (textIn nd (wayR name r t).2) (.mk name at' [] []) :: q, [], o, n + 1) else (.mk name at' [] [] :: textIn nd (wayR name r t).2 :: q, [], max o (q.length + 1), n + 1)
end Go.Proofs.YtholfdfjapgfbaaGreatDoor.Dm
