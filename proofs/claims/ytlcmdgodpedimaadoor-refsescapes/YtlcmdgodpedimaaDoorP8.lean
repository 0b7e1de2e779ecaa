/-
  versolaw02.awake: it is true.
-/
import Derived.Test.YtlcmdgodpedimaaDoorP7
namespace Go.Proofs.YtlcmdgodpedimaaDoor
open Go.RowKit
open Utf1

theorem aw_res : res [97, 38, 108, 116, 59, 98, 38, 35, 54, 53, 59, 38, 35, 120, 52, 49, 59, 38, 110, 111, 59, 38] = [97, 60, 98, 65, 65, 38, 110, 111, 59, 38] := by decide +kernel
theorem aw_esc : esc true [97, 60, 34, 98, 34, 38] = [97, 38, 108, 116, 59, 38, 113, 117, 111, 116, 59, 98, 38, 113, 117, 111, 116, 59, 38, 97, 109, 112, 59] := by decide +kernel
theorem aw_named : named [108, 116] = some 60 := by decide
theorem aw_er : er 60 = [60] := by decide

theorem aw1 (w : World) : Calls Tryd.prog 10 #[.string ⟨#[108, 116]⟩] w fun e w' => e = .returned (.tuple #[.string ⟨#[60]⟩, .bool true]) ∧ Below w.heap.size w w' := by
  have h := named_any ⟨#[108, 116]⟩ w
  have e : named (bl ⟨#[108, 116]⟩) = some 60 := aw_named
  rw [e] at h
  have e2 : optS (some 60) = .tuple #[.string ⟨#[60]⟩, .bool true] := by
    have e3 : oT (some 60) = ⟨#[60]⟩ := by
      show (⟨(er 60).toArray⟩ : ByteArray) = _
      rw [aw_er]
    unfold optS
    rw [e3]
    rfl
  rw [e2] at h
  exact h
theorem aw2 (w : World) (hg : Glob w) : Calls Tryd.prog 12 #[.string ⟨#[97, 38, 108, 116, 59, 98, 38, 35, 54, 53, 59, 38, 35, 120, 52, 49, 59, 38, 110, 111, 59, 38]⟩] w fun e w' => e = .returned (.string ⟨#[97, 60, 98, 65, 65, 38, 110, 111, 59, 38]⟩) ∧ Below w.heap.size w w' := by
  have h := resolve_any ⟨#[97, 38, 108, 116, 59, 98, 38, 35, 54, 53, 59, 38, 35, 120, 52, 49, 59, 38, 110, 111, 59, 38]⟩ (by decide) w hg
  rw [aw_res] at h
  exact h
theorem aw3 (w : World) : Calls Tryd.prog 14 #[.string ⟨#[97, 60, 34, 98, 34, 38]⟩, .bool true] w fun e w' => e = .returned (.string ⟨#[97, 38, 108, 116, 59, 38, 113, 117, 111, 116, 59, 98, 38, 113, 117, 111, 116, 59, 38, 97, 109, 112, 59]⟩) ∧ Below w.heap.size w w' := by
  have h := escape_any ⟨#[97, 60, 34, 98, 34, 38]⟩ true w (by decide)
  rw [aw_esc] at h
  exact h

set_option maxHeartbeats 1000000 in
theorem awake_any (w : World) (hg : Glob w) : Calls Tryd.prog 9 #[] w fun e w' => e = .returned (.bool true) ∧ Below w.heap.size w w' := by
  go_enter Tryd.func9, Tryd.ntmps9
  go_wp2_with fail
  refine (aw1 _).mono ?_
  rintro e w1 ⟨rfl, hb1⟩
  go_wp2_with fail
  refine (aw2 _ (hg.below hb1)).mono ?_
  rintro e w2 ⟨rfl, hb2⟩
  go_wp2_with fail
  refine (aw3 _).mono ?_
  rintro e w3 ⟨rfl, hb3⟩
  go_wp2_with fail
  go_ret
  exact ⟨rfl, (hb1.trans (hb2.mono hb1.size)).trans (hb3.mono (Nat.le_trans hb1.size hb2.size))⟩
end Go.Proofs.YtlcmdgodpedimaaDoor
