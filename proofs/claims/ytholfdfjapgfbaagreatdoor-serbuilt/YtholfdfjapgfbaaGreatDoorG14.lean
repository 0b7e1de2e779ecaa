/-
  What closing keeps; the innermost of literal names; what is closed ahead of an element (wayR).
-/
import Derived.Test.YtholfdfjapgfbaaGreatDoorG13
namespace Go.Proofs.YtholfdfjapgfbaaGreatDoor.Dm
open Go.RowKit
open Utf1

theorem closeR_all : ∀ (n : Nat) (r : List Nd) (t : List UInt8), n < r.length → (closeR n r t).1.length = r.length - n ∧ cntL (closeR n r t).1 + tx (closeR n r t).2 = cntL r + tx t ∧ (closeR n r t).2.length ≤ t.length
  | 0, r, t, _ => by
    have : closeR 0 r t = (r, t) := by cases r <;> rfl
    rw [this]
    exact ⟨rfl, rfl, Nat.le_refl _⟩
  | n + 1, [], t, h => by simp at h
  | n + 1, [_], t, h => by simp at h
  | n + 1, nd :: p :: r, t, h => by
    have ih := closeR_all n (addKid p (textIn nd t) :: r) [] (by simp only [List.length_cons] at h ⊢; omega)
    show (closeR n (addKid p (textIn nd t) :: r) []).1.length = _ ∧ _
    refine ⟨?_, ?_, ?_⟩
    · rw [ih.1]
      simp only [List.length_cons]
      omega
    · show cntL (closeR n (addKid p (textIn nd t) :: r) []).1 + tx (closeR n (addKid p (textIn nd t) :: r) []).2 = _
      rw [ih.2.1]
      simp only [cntL]
      rw [cnt_add, cnt_text]
      show _ + 0 = _
      omega
    · show (closeR n (addKid p (textIn nd t) :: r) []).2.length ≤ _
      have := ih.2.2
      simp only [List.length_nil] at this
      omega
theorem innerR_lt (ns : List (List UInt8)) : ∀ r : List Nd, r ≠ [] → innerR ns r < r.length
  | [], h => absurd rfl h
  | nd :: rest, _ => by
    unfold innerR
    split
    · simp
    · rename_i hr
      split
      · simp
      · have := innerR_lt ns rest hr
        simp only [List.length_cons]
        omega

/-- The innermost one of some names closed, if one is open. -/
def closeIn (ns : List (List UInt8)) (r : List Nd) (t : List UInt8) : List Nd × List UInt8 := if 0 < innerR ns r then closeR (r.length - innerR ns r) r t else (r, t)
theorem closeIn_all (ns : List (List UInt8)) (r : List Nd) (t : List UInt8) (hr : r ≠ []) : 1 ≤ (closeIn ns r t).1.length ∧ (closeIn ns r t).1.length ≤ r.length ∧ cntL (closeIn ns r t).1 + tx (closeIn ns r t).2 = cntL r + tx t ∧ (closeIn ns r t).2.length ≤ t.length := by
  have hl := innerR_lt ns r hr
  unfold closeIn
  split
  · rename_i h
    have := closeR_all (r.length - innerR ns r) r t (by omega)
    refine ⟨by omega, by omega, this.2.1, this.2.2⟩
  · exact ⟨Nat.lt_of_le_of_lt (Nat.zero_le _) hl, Nat.le_refl _, rfl, Nat.le_refl _⟩

theorem St.under {w w' : World} {base B : Nat} {os : List Nd} {t : List UInt8} {o n : Nat} (h : St w base B os t o n) (hb : Below w.heap.size w w') : St w' base B os t o n := by
  obtain ⟨pa, bv, h0, hw⟩ := h
  refine ⟨pa, bv, h0.stays (below_stays hb) (fun k hk => by cases hk) (fun ov hB => (hb.block _ (lt_of_block hB)).trans hB), hw.1, own_below hw.2 hb⟩

/-- What is closed ahead of an element of a name. -/
def wayR (name : List UInt8) (r : List Nd) (t : List UInt8) : List Nd × List UInt8 :=
  if name ∈ blocks then
    (if name = [108, 105] then
      (if ((closeIn [[112]] r t).1.reverse[innerR [[108, 105], [117, 108], [111, 108]] (closeIn [[112]] r t).1]?.map Nd.name) = some [108, 105] then closeR ((closeIn [[112]] r t).1.length - innerR [[108, 105], [117, 108], [111, 108]] (closeIn [[112]] r t).1) (closeIn [[112]] r t).1 (closeIn [[112]] r t).2 else closeIn [[112]] r t)
    else closeIn [[112]] r t)
  else (r, t)

/-- The innermost of some literal names, behind their slice is made. -/
theorem inner_lit (w : World) (base B : Nat) (r : List Nd) (t : List UInt8) (o n : Nat) (names : List ByteArray) (A : Array Value) (ty : TypeId) (hA : A = (names.map Value.string).toArray) (h : St w base B r.reverse t o n) (h1 : 1 ≤ r.length) (hl : r.length ≤ 100000) (hnl : names.length ≤ 100000) :
    Calls Tryz.prog 59 #[.pointer (some ⟨B, 0, none⟩), .slice (some ⟨w.heap.size, 0, none⟩) names.length names.length] (w.alloc (.cells A ty)) fun e w' => e = .returned (.int .i64 (innerR (names.map bl) r : Int)) ∧ w' = w.alloc (.cells A ty) := by
  obtain ⟨pa, bv, h0, hw⟩ := h.under ((Below.refl _ _).alloc (Nat.le_refl _) (.cells A ty))
  refine innermost_st _ base B r pa bv o n names w.heap.size names.length h0 h1 hl hnl ?_
  intro i x hx
  rw [new_cell, hA]
  simp [hx]

end Go.Proofs.YtholfdfjapgfbaaGreatDoor.Dm
