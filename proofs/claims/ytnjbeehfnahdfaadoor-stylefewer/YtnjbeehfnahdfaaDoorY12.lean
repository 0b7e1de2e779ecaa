/-
  awake, and the laws StyleFilters and StyleValues.
-/
import Derived.Test.YtnjbeehfnahdfaaDoorY10
import Derived.Test.YtnjbeehfnahdfaaDoorY11
namespace Go.Proofs.YtnjbeehfnahdfaaDoor
open Go.RowKit
open Utf1 Sty

theorem strArg_nil (w : World) : StrArg w (.slice none 0 0) [] := ⟨none, 0, rfl, fun _ => rfl, fun i s h => by simp at h⟩
theorem strArg_one (w : World) (x : ByteArray) (t : TypeId) : StrArg (w.alloc (.cells #[.string x] t)) (.slice (some ⟨w.heap.size, 0, none⟩) 1 1) [x] := by
  refine ⟨some ⟨w.heap.size, 0, none⟩, 1, rfl, fun h => (by cases h), fun i s h => ?_⟩
  match i, h with
  | 0, h =>
    have : x = s := by simpa using h
    subst this
    exact ⟨_, _, rfl, by simp⟩
  | i + 1, h => simp at h
theorem strArg_two (w : World) (x y : ByteArray) (t : TypeId) : StrArg (w.alloc (.cells #[.string x, .string y] t)) (.slice (some ⟨w.heap.size, 0, none⟩) 2 2) [x, y] := by
  refine ⟨some ⟨w.heap.size, 0, none⟩, 2, rfl, fun h => (by cases h), fun i s h => ?_⟩
  match i, h with
  | 0, h =>
    have : x = s := by simpa using h
    subst this
    exact ⟨_, _, rfl, by simp⟩
  | 1, h =>
    have : y = s := by simpa using h
    subst this
    exact ⟨_, _, rfl, by simp⟩
  | i + 2, h => simp at h
theorem bel_alloc {w w1 : World} (h : Below w.heap.size w w1) (o : Obj) : Below w.heap.size w (w1.alloc o) := h.alloc h.size o

theorem aw_filt : filt [[99, 111, 108, 111, 114], [119, 105, 100, 116, 104]] [67, 111, 108, 111, 114, 32, 58, 32, 82, 69, 68, 59, 32, 119, 105, 100, 116, 104, 58, 49, 112, 120, 59, 59, 120, 59, 32, 99, 111, 108, 111, 114, 58, 32, 98, 108, 117, 101] = [119, 105, 100, 116, 104, 58, 32, 49, 112, 120, 59, 32, 99, 111, 108, 111, 114, 58, 32, 98, 108, 117, 101] := by kernel_rfl
theorem aw_v1 : okv [49, 112, 120] = true := by kernel_rfl
theorem aw_v2 : okv [117, 114, 108, 40, 120, 41] = false := by kernel_rfl

set_option maxHeartbeats 4000000 in
theorem awake_any (w : World) :
    Calls Tryd.prog 9 #[] w fun e w' => e = .returned (.bool true) ∧ Below w.heap.size w w' := by
  have c1 : ∀ w v, StrArg w v [⟨#[99, 111, 108, 111, 114]⟩, ⟨#[119, 105, 100, 116, 104]⟩] → Calls Tryd.prog 10 #[.string ⟨#[67, 111, 108, 111, 114, 32, 58, 32, 82, 69, 68, 59, 32, 119, 105, 100, 116, 104, 58, 49, 112, 120, 59, 59, 120, 59, 32, 99, 111, 108, 111, 114, 58, 32, 98, 108, 117, 101]⟩, v] w fun e w' => e = .returned (.string ⟨#[119, 105, 100, 116, 104, 58, 32, 49, 112, 120, 59, 32, 99, 111, 108, 111, 114, 58, 32, 98, 108, 117, 101]⟩) ∧ Below w.heap.size w w' := fun w v h => by
    have := filter_any ⟨#[67, 111, 108, 111, 114, 32, 58, 32, 82, 69, 68, 59, 32, 119, 105, 100, 116, 104, 58, 49, 112, 120, 59, 59, 120, 59, 32, 99, 111, 108, 111, 114, 58, 32, 98, 108, 117, 101]⟩ v _ (by decide) (by simp) w h
    rw [show filt (List.map bl [⟨#[99, 111, 108, 111, 114]⟩, ⟨#[119, 105, 100, 116, 104]⟩]) (bl ⟨#[67, 111, 108, 111, 114, 32, 58, 32, 82, 69, 68, 59, 32, 119, 105, 100, 116, 104, 58, 49, 112, 120, 59, 59, 120, 59, 32, 99, 111, 108, 111, 114, 58, 32, 98, 108, 117, 101]⟩) = [119, 105, 100, 116, 104, 58, 32, 49, 112, 120, 59, 32, 99, 111, 108, 111, 114, 58, 32, 98, 108, 117, 101] from aw_filt] at this
    exact this
  have c2 : ∀ w, Calls Tryd.prog 12 #[.string ⟨#[49, 112, 120]⟩] w fun e w' => e = .returned (.bool true) ∧ w' = w := fun w => by
    have := value_any ⟨#[49, 112, 120]⟩ (by decide) w
    rw [show okv (bl ⟨#[49, 112, 120]⟩) = true from aw_v1] at this
    exact this
  have c3 : ∀ w, Calls Tryd.prog 12 #[.string ⟨#[117, 114, 108, 40, 120, 41]⟩] w fun e w' => e = .returned (.bool false) ∧ w' = w := fun w => by
    have := value_any ⟨#[117, 114, 108, 40, 120, 41]⟩ (by decide) w
    rw [show okv (bl ⟨#[117, 114, 108, 40, 120, 41]⟩) = false from aw_v2] at this
    exact this
  have HC1 := hide c1
  have HC2 := hide c2
  have HC3 := hide c3
  clear c1 c2 c3
  go_enter Tryd.func9, Tryd.ntmps9
  go_wp2_with fail
  refine (HC1.out _ _ (strArg_two _ _ _ _)).mono ?_
  rintro e w1 ⟨rfl, hb1⟩
  go_wp2_with fail
  refine (HC2.out _).mono ?_
  rintro e w2 ⟨rfl, rfl⟩
  go_wp2_with fail
  refine (HC3.out _).mono ?_
  rintro e w3 ⟨rfl, rfl⟩
  go_wp2_with fail
  go_ret
  exact ⟨rfl, bel2 (bel_alloc (Below.refl _ _) _) hb1⟩

set_option maxHeartbeats 4000000 in
theorem lawFilters_walk (s : ByteArray) (v : Value) (ss : List ByteArray) (w : World) (hv : StrArg w v ss) :
    Calls Tryd.prog 3 #[.string s, v] w fun e w' => e = .returned (.bool true) ∧ Below w.heap.size w w' := by
  have ca := awake_any
  by_cases hs : s.size ≤ 2000
  · by_cases hl : ss.length ≤ 50
    · have HC1 := hide (fun w (h : StrArg w v ss) => filter_any s v ss (by omega) (by omega) w h)
      have HC2 := hide (fun w (h : StrArg w v ss) => rfilter_any s v ss (by omega) (by omega) w h)
      have HV := hide hv
      obtain ⟨p, cap, rfl, -, -⟩ := hv
      generalize (⟨(filt (ss.map bl) (bl s)).toArray⟩ : ByteArray) = A at HC1 HC2
      have q1 : (A.toList == A.toList) = true := beq_same rfl
      generalize ss.length = N at *
      go_enter Tryd.func3, Tryd.ntmps3
      go_wp2_with fail
      refine (ca _).mono ?_
      rintro e w1 ⟨rfl, hb1⟩
      go_wp2_with fail
      refine (HC1.out _ (HV.out.below hb1)).mono ?_
      rintro e w2 ⟨rfl, hb2⟩
      go_wp2_with fail
      refine (HC2.out _ (HV.out.below (bel2 hb1 hb2))).mono ?_
      rintro e w3 ⟨rfl, hb3⟩
      go_wp2_with fail
      go_ret
      exact ⟨rfl, bel2 (bel2 hb1 hb2) hb3⟩
    · obtain ⟨p, cap, rfl, -, -⟩ := hv
      generalize ss.length = N at *
      go_enter Tryd.func3, Tryd.ntmps3
      go_wp2_with fail
      refine (ca _).mono ?_
      rintro e w1 ⟨rfl, hb1⟩
      go_wp2_with fail
      go_ret
      exact ⟨rfl, hb1⟩
  · obtain ⟨p, cap, rfl, -, -⟩ := hv
    go_enter Tryd.func3, Tryd.ntmps3
    go_wp2_with fail
    refine (ca _).mono ?_
    rintro e w1 ⟨rfl, hb1⟩
    go_wp2_with fail
    go_ret
    exact ⟨rfl, hb1⟩

set_option maxHeartbeats 4000000 in
theorem lawValues_walk (s : ByteArray) (w : World) :
    Calls Tryd.prog 4 #[.string s] w fun e w' => e = .returned (.bool true) ∧ Below w.heap.size w w' := by
  have ca := awake_any
  by_cases hs : s.size ≤ 1000
  · have c1 := fun w => value_any s (by omega) w
    have c2 := fun w => rvalue_any s (by omega) w
    generalize okv (bl s) = b at c1 c2
    have q3 : (b == b) = true := by cases b <;> rfl
    go_enter Tryd.func4, Tryd.ntmps4
    go_wp2_with fail
    refine (ca _).mono ?_
    rintro e w1 ⟨rfl, hb1⟩
    go_wp2_with fail
    refine (c1 _).mono ?_
    rintro e w2 ⟨rfl, rfl⟩
    go_wp2_with fail
    refine (c2 _).mono ?_
    rintro e w2 ⟨rfl, rfl⟩
    go_wp2_with fail
    go_ret
    exact ⟨rfl, hb1⟩
  · go_enter Tryd.func4, Tryd.ntmps4
    go_wp2_with fail
    refine (ca _).mono ?_
    rintro e w1 ⟨rfl, hb1⟩
    go_wp2_with fail
    go_ret
    exact ⟨rfl, hb1⟩
end Go.Proofs.YtnjbeehfnahdfaaDoor
