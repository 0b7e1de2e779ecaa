/-
  Which trees are stable: the math, and ser's place.within, text.stable.
-/
import Derived.Test.YtbcadeikdmlpoaaDoorN7
namespace Utf1
/-- Whether the innermost li, ul or ol is a li, behind the start of an element. -/
def itm (i : Bool) (n : List UInt8) : Bool := if n = [108, 105] then true else if n = [117, 108] ∨ n = [111, 108] then false else i
mutual
def stN (p i b : Bool) : Nd → Bool
  | .mk n a t k => if n = [] then !t.isEmpty && !b && a.isEmpty && k.isEmpty else t.isEmpty && mayE n && mayA a && !((p && decide (n ∈ blocks)) || (i && decide (n = [108, 105]))) && (if n ∈ voids then k.isEmpty else stL (p || decide (n = [112])) (itm i n) false k)
def stL (p i b : Bool) : List Nd → Bool
  | [] => true
  | n :: r => stN p i b n && stL p i (decide (n.name = [])) r
end
theorem stN_kids (p i b : Bool) (x : Nd) : stN p i b x = if x.name = [] then !x.text.isEmpty && !b && x.attrs.isEmpty && x.kids.isEmpty else x.text.isEmpty && mayE x.name && mayA x.attrs && !((p && decide (x.name ∈ blocks)) || (i && decide (x.name = [108, 105]))) && (if x.name ∈ voids then x.kids.isEmpty else stL (p || decide (x.name = [112])) (itm i x.name) false x.kids) := by
  cases x
  rw [stN]
  rfl
end Utf1
namespace Go.Proofs.YtbcadeikdmlpoaaDoor.Dm
open Go.RowKit
open Utf1

theorem heap3_mid (w : World) (a b c : Obj) : (((w.alloc a).alloc b).alloc c).heap[w.heap.size + 1]? = some b := by
  show (((w.heap.push a).push b).push c)[w.heap.size + 1]? = _
  rw [Array.getElem?_push, if_neg (by simp), Array.getElem?_push, if_pos (by simp)]
theorem lit_eq (s : ByteArray) (l : List UInt8) : (s.toList == l) = decide (bl s = l) := by
  rw [ByteArray.toList_eq]
  by_cases h : bl s = l
  · rw [decide_eq_true h]
    exact beq_iff_eq.2 h
  · rw [decide_eq_false h]
    exact beq_eq_false_iff_ne.2 h

set_option maxRecDepth 100000 in
set_option maxHeartbeats 8000000 in
theorem within_any (p i b : Bool) (s : ByteArray) (w : World) : Calls Tryd.prog 126 #[.agg #[.bool p, .bool i, .bool b], .string s] w fun e w' => e = .returned (.agg #[.bool (p || decide (bl s = [112])), .bool (itm i (bl s)), .bool false]) ∧ Below w.heap.size w w' := by
  have q1 := lit_eq s [112]
  have q2 := lit_eq s [108, 105]
  have q3 := lit_eq s [117, 108]
  have q4 := lit_eq s [111, 108]
  by_cases h1 : bl s = [112]
  · rw [decide_eq_true h1] at q1
    have HR : Hid (.agg #[.bool (p || decide (bl s = [112])), .bool (itm i (bl s)), .bool false] = Value.agg #[.bool true, .bool i, .bool false]) := hide (by rw [h1]; cases p <;> cases i <;> rfl)
    clear h1 q2 q3 q4
    rw [HR.out]
    go_enter Tryd.func126, Tryd.ntmps126
    go_wp2_with fail
    refine bodyPost_ret (results_cell_row rfl _ _ (w.heap.size + 1) 83 #[.bool true, .bool i, .bool false] (0, 0) _ rfl ?_ Tryd.underlying83 rfl (by kernel_rfl)) rfl ?_
    · exact heap3_mid _ _ _ _
    · exact ⟨rfl, (((Below.refl _ _).alloc (Nat.le_refl _) _).alloc (by simp) _).alloc (by simp; omega) _⟩
  rw [decide_eq_false h1] at q1
  by_cases h2 : bl s = [108, 105]
  · rw [decide_eq_true h2] at q2
    have HR : Hid (.agg #[.bool (p || decide (bl s = [112])), .bool (itm i (bl s)), .bool false] = Value.agg #[.bool p, .bool true, .bool false]) := hide (by rw [h2]; cases p <;> cases i <;> rfl)
    clear h1 h2 q3 q4
    rw [HR.out]
    go_enter Tryd.func126, Tryd.ntmps126
    go_wp2_with fail
    refine bodyPost_ret (results_cell_row rfl _ _ (w.heap.size + 1) 83 #[.bool p, .bool true, .bool false] (0, 0) _ rfl ?_ Tryd.underlying83 rfl (by kernel_rfl)) rfl ?_
    · exact heap3_mid _ _ _ _
    · exact ⟨rfl, (((Below.refl _ _).alloc (Nat.le_refl _) _).alloc (by simp) _).alloc (by simp; omega) _⟩
  rw [decide_eq_false h2] at q2
  by_cases h3 : bl s = [117, 108]
  · rw [decide_eq_true h3] at q3
    have HR : Hid (.agg #[.bool (p || decide (bl s = [112])), .bool (itm i (bl s)), .bool false] = Value.agg #[.bool p, .bool false, .bool false]) := hide (by rw [h3]; cases p <;> cases i <;> rfl)
    clear h1 h2 h3 q4
    rw [HR.out]
    go_enter Tryd.func126, Tryd.ntmps126
    go_wp2_with fail
    refine bodyPost_ret (results_cell_row rfl _ _ (w.heap.size + 1) 83 #[.bool p, .bool false, .bool false] (0, 0) _ rfl ?_ Tryd.underlying83 rfl (by kernel_rfl)) rfl ?_
    · exact heap3_mid _ _ _ _
    · exact ⟨rfl, (((Below.refl _ _).alloc (Nat.le_refl _) _).alloc (by simp) _).alloc (by simp; omega) _⟩
  rw [decide_eq_false h3] at q3
  by_cases h4 : bl s = [111, 108]
  · rw [decide_eq_true h4] at q4
    have HR : Hid (.agg #[.bool (p || decide (bl s = [112])), .bool (itm i (bl s)), .bool false] = Value.agg #[.bool p, .bool false, .bool false]) := hide (by rw [h4]; cases p <;> cases i <;> rfl)
    clear h1 h2 h3 h4
    rw [HR.out]
    go_enter Tryd.func126, Tryd.ntmps126
    go_wp2_with fail
    refine bodyPost_ret (results_cell_row rfl _ _ (w.heap.size + 1) 83 #[.bool p, .bool false, .bool false] (0, 0) _ rfl ?_ Tryd.underlying83 rfl (by kernel_rfl)) rfl ?_
    · exact heap3_mid _ _ _ _
    · exact ⟨rfl, (((Below.refl _ _).alloc (Nat.le_refl _) _).alloc (by simp) _).alloc (by simp; omega) _⟩
  rw [decide_eq_false h4] at q4
  have HR : Hid (.agg #[.bool (p || decide (bl s = [112])), .bool (itm i (bl s)), .bool false] = Value.agg #[.bool p, .bool i, .bool false]) := hide (by unfold itm; rw [if_neg h2, if_neg (fun h => h.elim h3 h4), decide_eq_false h1, Bool.or_false])
  clear h1 h2 h3 h4
  rw [HR.out]
  go_enter Tryd.func126, Tryd.ntmps126
  go_wp2_with fail
  refine bodyPost_ret (results_cell_row rfl _ _ (w.heap.size + 1) 83 #[.bool p, .bool i, .bool false] (0, 0) _ rfl ?_ Tryd.underlying83 rfl (by kernel_rfl)) rfl ?_
  · exact heap3_mid _ _ _ _
  · exact ⟨rfl, (((Below.refl _ _).alloc (Nat.le_refl _) _).alloc (by simp) _).alloc (by simp; omega) _⟩

set_option maxRecDepth 100000 in
set_option maxHeartbeats 8000000 in
theorem text_stable (w : World) (ap : Option Addr) (am ac : Nat) (XN XT : ByteArray) (kp : Option Addr) (km kc : Nat) (p i b : Bool) (ham : am ≤ 9223372036854775807) (hkm : km ≤ 9223372036854775807) :
    Calls Tryd.prog 127 #[.agg #[.string XN, .slice ap am ac, .string XT, .slice kp km kc], .agg #[.bool p, .bool i, .bool b]] w fun e w' => e = .returned (.bool (!decide (bl XT = []) && !b && decide (am = 0) && decide (km = 0))) ∧ Below w.heap.size w w' := by
  have q1 : XT.toList.isEmpty = decide (bl XT = []) := by
    have := nm_empty (bl XT)
    rwa [bl_eta] at this
  have hbel : ∀ o1 o2 : Obj, Below w.heap.size w ((w.alloc o1).alloc o2) := fun o1 o2 => ((Below.refl _ _).alloc (Nat.le_refl _) _).alloc (by simp) _
  have HBEL := hide hbel
  clear hbel
  by_cases h1 : bl XT = []
  · rw [decide_eq_true h1] at q1 ⊢
    clear h1
    go_enter Tryd.func127, Tryd.ntmps127
    go_wp2_with fail
    go_ret
    exact ⟨rfl, HBEL.out _ _⟩
  rw [decide_eq_false h1] at q1 ⊢
  clear h1
  cases b with
  | true =>
    go_enter Tryd.func127, Tryd.ntmps127
    go_wp2_with fail
    go_ret
    exact ⟨rfl, HBEL.out _ _⟩
  | false =>
    by_cases h2 : am = 0
    · subst h2
      go_enter Tryd.func127, Tryd.ntmps127
      go_wp2_with fail
      go_ret
      refine ⟨ret_bool ?_, HBEL.out _ _⟩
      by_cases h : km = 0
      · subst h
        rfl
      · rw [decide_eq_false h]
        simp
        omega
    · rw [decide_eq_false h2]
      have h3 : ((am : Int) == 0) = false := beq_eq_false_iff_ne.2 (by omega)
      clear h2
      go_enter Tryd.func127, Tryd.ntmps127
      go_wp2_with fail
      go_ret
      exact ⟨rfl, HBEL.out _ _⟩
end Go.Proofs.YtbcadeikdmlpoaaDoor.Dm
