/-
  What is asked of the functions of package url, and awake.
-/
import Derived.Test.YtclbkemfgmnfcaaUR3
import Derived.KernelRfl
namespace Go.Proofs.Ytclbkemfgmnfcaa
open Go.RowKit
open Utf1

def BareC : Prop := ∀ (s : ByteArray) (w : World), s.size ≤ 100000 → Calls Try.prog 12 #[.string s] w fun e w' => e = .returned (.string ⟨(bare (bl s)).toArray⟩) ∧ Below w.heap.size w w'
def SchemeC : Prop := ∀ (s : ByteArray) (w : World), s.size ≤ 100000 → Calls Try.prog 10 #[.string s] w fun e w' => e = .returned (.tuple #[.string (schS (scheme (bl s))), .bool (scheme (bl s)).isSome]) ∧ Below w.heap.size w w'
def AllowedC : Prop := ∀ (s : ByteArray) (v : Value) (ss : List ByteArray) (w : World), s.size ≤ 100000 → ss.length ≤ 100000 → StrArg w v ss → Calls Try.prog 14 #[.string s, v] w fun e w' => e = .returned (.bool (allowed (bl s) (ss.map bl))) ∧ Below w.heap.size w w'

theorem bel2 {w w1 w2 : World} (h1 : Below w.heap.size w w1) (h2 : Below w1.heap.size w1 w2) : Below w.heap.size w w2 := h1.trans (h2.mono h1.size)
theorem strArg_nil (w : World) : StrArg w (.slice none 0 0) [] := ⟨none, 0, rfl, fun _ => rfl, fun i s h => by simp at h⟩
theorem strArg_one (w : World) (x : ByteArray) (t : TypeId) : StrArg (w.alloc (.cells #[.string x] t)) (.slice (some ⟨w.heap.size, 0, none⟩) 1 1) [x] := by
  refine ⟨some ⟨w.heap.size, 0, none⟩, 1, rfl, fun h => (by cases h), fun i s h => ?_⟩
  match i, h with
  | 0, h =>
    have : x = s := by simpa using h
    subst this
    exact ⟨_, _, rfl, by simp⟩
  | i + 1, h => simp at h
theorem bel_alloc {w w1 : World} (h : Below w.heap.size w w1) (o : Obj) : Below w.heap.size w (w1.alloc o) := h.alloc h.size o

theorem sch_js : scheme [32, 74, 97, 118, 97, 9, 83, 99, 114, 105, 112, 116, 58, 120] = some [106, 97, 118, 97, 115, 99, 114, 105, 112, 116] := by kernel_rfl
theorem all_a : allowed [47, 97] [[104, 116, 116, 112, 115]] = true := by kernel_rfl
theorem all_x : allowed [47, 47, 120] [] = false := by kernel_rfl

set_option maxHeartbeats 4000000 in
theorem awake_any (hS : SchemeC) (hA : AllowedC) (w : World) :
    Calls Try.prog 9 #[] w fun e w' => e = .returned (.bool true) ∧ Below w.heap.size w w' := by
  have c1 := fun w => hS ⟨#[32, 74, 97, 118, 97, 9, 83, 99, 114, 105, 112, 116, 58, 120]⟩ w (by decide)
  rw [show scheme (bl ⟨#[32, 74, 97, 118, 97, 9, 83, 99, 114, 105, 112, 116, 58, 120]⟩) = some [106, 97, 118, 97, 115, 99, 114, 105, 112, 116] from sch_js] at c1
  have c1 : ∀ w, Calls Try.prog 10 #[.string ⟨#[32, 74, 97, 118, 97, 9, 83, 99, 114, 105, 112, 116, 58, 120]⟩] w fun e w' => e = .returned (.tuple #[.string ⟨#[106, 97, 118, 97, 115, 99, 114, 105, 112, 116]⟩, .bool true]) ∧ Below w.heap.size w w' := c1
  have c2 : ∀ w v, StrArg w v [⟨#[104, 116, 116, 112, 115]⟩] → Calls Try.prog 14 #[.string ⟨#[47, 97]⟩, v] w fun e w' => e = .returned (.bool true) ∧ Below w.heap.size w w' := fun w v h => by
    have := hA ⟨#[47, 97]⟩ v _ w (by decide) (by simp) h
    rw [show allowed (bl ⟨#[47, 97]⟩) (List.map bl [⟨#[104, 116, 116, 112, 115]⟩]) = true from all_a] at this
    exact this
  have c3 : ∀ w, Calls Try.prog 14 #[.string ⟨#[47, 47, 120]⟩, .slice none 0 0] w fun e w' => e = .returned (.bool false) ∧ Below w.heap.size w w' := fun w => by
    have := hA ⟨#[47, 47, 120]⟩ _ [] w (by decide) (by simp) (strArg_nil w)
    rw [show allowed (bl ⟨#[47, 47, 120]⟩) (List.map bl []) = false from all_x] at this
    exact this
  clear hS hA
  have HC2 := hide c2
  clear c2
  go_enter Try.func9, Try.ntmps9
  go_wp2_with fail
  refine (c1 _).mono ?_
  rintro e w1 ⟨rfl, hb1⟩
  go_wp2_with fail
  refine (HC2.out _ _ (strArg_one _ _ _)).mono ?_
  rintro e w2 ⟨rfl, hb2⟩
  go_wp2_with fail
  refine (c3 _).mono ?_
  rintro e w3 ⟨rfl, hb3⟩
  go_wp2_with fail
  go_ret
  exact ⟨rfl, bel2 (bel2 (bel_alloc hb1 _) hb2) hb3⟩

set_option maxHeartbeats 4000000 in
theorem lawSchemes_walk (hB : BareC) (hS : SchemeC) (hA : AllowedC) (s : ByteArray) (w : World) :
    Calls Try.prog 3 #[.string s] w fun e w' => e = .returned (.bool true) ∧ Below w.heap.size w w' := by
  have ca := awake_any hS hA
  by_cases hs : s.size ≤ 2000
  · have c1 := fun w => hS s w (by omega)
    have c2 := fun w => rscheme_any s (by omega) w
    have c3 := fun w => hB s w (by omega)
    have c4 := fun w => rbare_any s (by omega) w
    generalize schS (scheme (bl s)) = A at c1 c2
    generalize (scheme (bl s)).isSome = b at c1 c2
    generalize (⟨(bare (bl s)).toArray⟩ : ByteArray) = C at c3 c4
    have q1 : (A.toList == A.toList) = true := beq_same rfl
    have q2 : (C.toList == C.toList) = true := beq_same rfl
    have q3 : (b == b) = true := by cases b <;> rfl
    clear hB hS hA
    go_enter Try.func3, Try.ntmps3
    go_wp2_with fail
    refine (ca _).mono ?_
    rintro e w1 ⟨rfl, hb1⟩
    go_wp2_with fail
    refine (c1 _).mono ?_
    rintro e w2 ⟨rfl, hb2⟩
    go_wp2_with fail
    refine (c2 _).mono ?_
    rintro e w3 ⟨rfl, hb3⟩
    go_wp2_with fail
    refine (c3 _).mono ?_
    rintro e w4 ⟨rfl, hb4⟩
    go_wp2_with fail
    refine (c4 _).mono ?_
    rintro e w5 ⟨rfl, rfl⟩
    go_wp2_with fail
    go_ret
    exact ⟨rfl, bel2 (bel2 (bel2 hb1 hb2) hb3) hb4⟩
  · clear hB hS hA
    go_enter Try.func3, Try.ntmps3
    go_wp2_with fail
    refine (ca _).mono ?_
    rintro e w1 ⟨rfl, hb1⟩
    go_wp2_with fail
    go_ret
    exact ⟨rfl, hb1⟩

set_option maxHeartbeats 4000000 in
theorem lawAllows_walk (hS : SchemeC) (hA : AllowedC) (s : ByteArray) (v : Value) (ss : List ByteArray) (w : World) (hv : StrArg w v ss) :
    Calls Try.prog 4 #[.string s, v] w fun e w' => e = .returned (.bool true) ∧ Below w.heap.size w w' := by
  have ca := awake_any hS hA
  by_cases hs : s.size ≤ 2000
  · by_cases hl : ss.length ≤ 100
    · have HC1 := hide (fun w (h : StrArg w v ss) => hA s v ss w (by omega) (by omega) h)
      have HC2 := hide (fun w (h : StrArg w v ss) => rallowed_any s v ss (by omega) (by omega) w h)
      have HV := hide hv
      obtain ⟨p, cap, rfl, -, -⟩ := hv
      generalize allowed (bl s) (ss.map bl) = b at HC1 HC2
      have q3 : (b == b) = true := by cases b <;> rfl
      clear hS hA
      generalize ss.length = N at *
      go_enter Try.func4, Try.ntmps4
      go_wp2_with fail
      refine (ca _).mono ?_
      rintro e w1 ⟨rfl, hb1⟩
      go_wp2_with fail
      refine (HC1.out _ (HV.out.below hb1)).mono ?_
      rintro e w2 ⟨rfl, hb2⟩
      go_wp2_with fail
      refine (HC2.out _ (HV.out.below (bel2 hb1 hb2))).mono ?_
      rintro e w3 ⟨rfl, hb3⟩
      go_wp2_with fail
      go_ret
      exact ⟨rfl, bel2 (bel2 hb1 hb2) hb3⟩
    · obtain ⟨p, cap, rfl, -, -⟩ := hv
      clear hS hA
      generalize ss.length = N at *
      go_enter Try.func4, Try.ntmps4
      go_wp2_with fail
      refine (ca _).mono ?_
      rintro e w1 ⟨rfl, hb1⟩
      go_wp2_with fail
      go_ret
      exact ⟨rfl, hb1⟩
  · obtain ⟨p, cap, rfl, -, -⟩ := hv
    clear hS hA
    go_enter Try.func4, Try.ntmps4
    go_wp2_with fail
    refine (ca _).mono ?_
    rintro e w1 ⟨rfl, hb1⟩
    go_wp2_with fail
    go_ret
    exact ⟨rfl, hb1⟩
end Go.Proofs.Ytclbkemfgmnfcaa
