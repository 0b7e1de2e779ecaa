/-
  Regions that draw their order, in which all reading comes ahead of one operation: till that one has come up a condition on the world is held; what yields in every such world may be taken first.
-/
import Derived.Test.YtmogplecohkjcaaGreatDoorDVH
import Derived.Deep.RegionHeld
namespace Go.Proofs.YtmogplecohkjcaaGreatDoor
open Go.RowKit

section
variable {P : Program} {ops : Array Oper} {Q : Exit → Act → World → Prop} {md : Region.Mode} {S : World → Prop} {m : Nat}
/-- Whatever order is picked: till number m comes up S holds behind each operation. -/
def wpU (P : Program) (md : Region.Mode) (ops : Array Oper) (Q : Exit → Act → World → Prop) (m : Nat) (S : World → Prop) : Nat → Array Bool → Act → World → Prop
  | 0, listed, a, w => Region.ready md ops listed = [] ∧ Q .normal a w
  | fuel + 1, listed, a, w => (Region.ready md ops listed = [] → Q .normal a w) ∧ ∀ i ∈ Region.ready md ops listed, wpOp P ops Q i (fun a' w' => if i = m then wpAny P md ops Q fuel (listed.setIfInBounds i true) a' w' else S w' ∧ wpU P md ops Q m S fuel (listed.setIfInBounds i true) a' w') a w
theorem wpU_any : ∀ (fuel : Nat) (listed : Array Bool) (a : Act) (w : World), wpU P md ops Q m S fuel listed a w → wpAny P md ops Q fuel listed a w
  | 0, _, _, _, h => h
  | fuel + 1, _, _, _, h => ⟨h.1, fun i hi => wpOp_mono (fun a' w' h' => by
      by_cases e : i = m
      · rw [if_pos e] at h'
        exact h'
      · rw [if_neg e] at h'
        exact wpU_any fuel _ a' w' h'.2) (h.2 i hi)⟩
/-- Number m waits for number i. -/
def waitsFor (md : Region.Mode) (ops : Array Oper) (m i : Nat) : Bool := match ops[m]? with
  | some o => o.after.any fun e => Region.binds md e && decide (e.on = i)
  | none => false
theorem not_up {i : Nat} (hw : waitsFor md ops m i = true) {listed : Array Bool} (hi : i ∈ Region.ready md ops listed) : m ∉ Region.ready md ops listed := by
  intro hm
  obtain ⟨_, o, ho, hall⟩ := mem_ready.1 hm
  have h0 := (mem_ready.1 hi).1
  unfold waitsFor at hw
  rw [ho] at hw
  obtain ⟨e, he, hb⟩ := Array.any_eq_true'.1 hw
  rw [Bool.and_eq_true, decide_eq_true_eq] at hb
  have h1 := hall e he hb.1
  rw [hb.2] at h1
  rcases Nat.lt_or_ge i listed.size with h | h
  · simp [h] at h0 h1
    rw [h0] at h1
    cases h1
  · simp [Array.getElem?_eq_none h] at h1
theorem wpU_first {i : Nat} {oi : Oper} {v : Value} (hi : ops[i]? = some oi) (hsel : ∀ (j : Nat) (o : Oper) cs b, ops[j]? = some o → o.op ≠ .select cs b) (hQ : ∀ c a w, Q (.panic c) (a.put oi.dst v) w → Q (.panic c) a w) (hw : waitsFor md ops m i = true) :
    ∀ (fuel : Nat) (listed : Array Bool) (a : Act) (w : World), (∀ j oj, ops[j]? = some oj → j ≠ i → listed.getD j true = false → (∀ e ∈ oj.after, Region.binds md e = true → e.on ≠ i) → oi.apart ops oj = true) →
      i ∈ Region.ready md ops listed → YieldsIf P ops S oi v a → S w → wpU P md ops Q m S fuel (listed.setIfInBounds i true) (a.put oi.dst v) w → wpU P md ops Q m S (fuel + 1) listed a w
  | 0, listed, a, w, _, hr, hy, hS, H => by
    have him : i ≠ m := fun e => not_up hw hr (e ▸ hr)
    refine ⟨fun h => (by rw [h] at hr; cases hr), fun j hj => ?_⟩
    by_cases hji : j = i
    · subst hji
      exact hy.wpOp hi hS (by rw [if_neg him]; exact ⟨hS, H⟩)
    · have h := ready_mono hj hji
      rw [H.1] at h
      cases h
  | fuel + 1, listed, a, w, hfree, hr, hy, hS, H => by
    have him : i ≠ m := fun e => not_up hw hr (e ▸ hr)
    refine ⟨fun h => (by rw [h] at hr; cases hr), fun j hj => ?_⟩
    by_cases hji : j = i
    · subst hji
      exact hy.wpOp hi hS (by rw [if_neg him]; exact ⟨hS, H⟩)
    have hjm : j ≠ m := fun e => not_up hw hr (e ▸ hj)
    obtain ⟨hjun, oj, hoj, hall⟩ := mem_ready.1 hj
    have hnot : ∀ e ∈ oj.after, Region.binds md e = true → e.on ≠ i := fun e he hb heq => by
      have h1 := hall e he hb
      have h0 := (mem_ready.1 hr).1
      rw [heq] at h1
      rcases Nat.lt_or_ge i listed.size with h' | h'
      · simp [h'] at h0 h1
        rw [h0] at h1
        cases h1
      · simp [Array.getElem?_eq_none h'] at h1
    have h2 := wpOp_putIf hoj (hfree j oj hoj hji hjun hnot) (fun cs b => hsel i oi cs b hi) (fun cs b => hsel j oj cs b hoj) hQ hy (H.2 j (ready_mono hj hji))
    refine wpOp_mono (fun a' w' h3 => ?_) h2
    obtain ⟨h4, h5⟩ := h3
    rw [if_neg hjm] at h5 ⊢
    refine ⟨h5.1, wpU_first hi hsel hQ hw fuel _ a' w' (fun k ok hk hki hun hno => hfree k ok hk hki ?_ hno) (ready_mono hr (Ne.symm hji)) h4 h5.1 ?_⟩
    · by_cases hjk : j = k
      · subst hjk
        exact hjun
      · rw [getD_set_ne true hjk] at hun
        exact hun
    · rw [Array.setIfInBounds_comm _ _ hji]
      exact h5.2
/-- Number i is taken first. -/
theorem wpU_at {i : Nat} {oi : Oper} {v : Value} {fuel : Nat} {listed : Array Bool} {a a1 : Act} {w : World} (hi : ops[i]? = some oi) (hs : Region.noSelect ops = true) (hf : Region.free md ops listed i = true) (hr : (Region.ready md ops listed).contains i = true)
    (hw : waitsFor md ops m i = true) (hQ : ∀ c a w, Q (.panic c) (a.put oi.dst v) w → Q (.panic c) a w) (hy : YieldsIf P ops S oi v a) (hS : S w) (ha : a.put oi.dst v = a1) (h : wpU P md ops Q m S fuel (listed.setIfInBounds i true) a1 w) : wpU P md ops Q m S (fuel + 1) listed a w :=
  wpU_first hi (Region.noSelect_spec hs) hQ hw fuel listed a w (Region.free_spec hi hf) (by simpa using hr) hy hS (ha ▸ h)
def AllU (P : Program) (md : Region.Mode) (ops : Array Oper) (Q : Exit → Act → World → Prop) (m : Nat) (S : World → Prop) (fuel : Nat) (listed : Array Bool) (a : Act) (w : World) (rs : List Nat) : Prop :=
  ∀ i ∈ rs, wpOp P ops Q i (fun a' w' => if i = m then wpAny P md ops Q fuel (listed.setIfInBounds i true) a' w' else S w' ∧ wpU P md ops Q m S fuel (listed.setIfInBounds i true) a' w') a w
theorem AllU.nil {fuel : Nat} {listed : Array Bool} {a : Act} {w : World} : AllU P md ops Q m S fuel listed a w [] := fun _ h => by cases h
theorem AllU.cons {fuel : Nat} {listed : Array Bool} {a : Act} {w : World} {i : Nat} {o : Oper} {rs : List Nat} (hm : i ≠ m) (ho : ops[i]? = some o)
    (h : ∀ K' : Act → World → Prop, Shut (∀ a w, S w → (S w → wpU P md ops Q m S fuel (listed.setIfInBounds i true) a w) → K' a w) → if Region.wanted o (yielded ops a.tmps) = true then Oper.wp P o a w K' Q else K' (a.put o.dst undef) w)
    (hs : AllU P md ops Q m S fuel listed a w rs) : AllU P md ops Q m S fuel listed a w (i :: rs) := fun j hj => by
  rcases List.mem_cons.1 hj with rfl | hj
  · exact wpOp_step ho (fun K' hK => h K' (fun a w hS hW => hK a w (by rw [if_neg hm]; exact ⟨hS, hW hS⟩)))
  · exact hs j hj
/-- Number m comes up: from here on in whatever order. -/
theorem AllU.last {fuel : Nat} {listed : Array Bool} {a : Act} {w : World} {o : Oper} (ho : ops[m]? = some o)
    (h : ∀ K' : Act → World → Prop, Shut (∀ a w, wpAny P md ops Q fuel (listed.setIfInBounds m true) a w → K' a w) → if Region.wanted o (yielded ops a.tmps) = true then Oper.wp P o a w K' Q else K' (a.put o.dst undef) w) : AllU P md ops Q m S fuel listed a w [m] := fun j hj => by
  rw [List.mem_singleton.1 hj]
  exact wpOp_step ho (fun K' hK => h K' (fun a w hW => hK a w (by rw [if_pos rfl]; exact hW)))
theorem wpU_ready {rs : List Nat} {fuel : Nat} {listed : Array Bool} {a : Act} {w : World} (hr : Region.ready md ops listed = rs) (hne : rs ≠ []) (h : AllU P md ops Q m S fuel listed a w rs) : wpU P md ops Q m S (fuel + 1) listed a w :=
  ⟨fun h0 => absurd (hr ▸ h0) hne, hr ▸ h⟩
theorem wp_region_until {id : Nat} {a : Act} {w : World} (hm : P.follows .mixedOrders = true) (hS : S w.drew) (h : S w.drew → wpU P .any ops Q m S ops.size (Array.replicate ops.size false) a w.drew) : (Code.region id ops true).wp P Q a w :=
  wp_region_any hm (wpU_any _ _ _ _ (h hS))
end
end Go.Proofs.YtmogplecohkjcaaGreatDoor
