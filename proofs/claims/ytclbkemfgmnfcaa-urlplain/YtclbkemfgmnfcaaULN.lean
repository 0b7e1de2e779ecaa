/-
  The law UrlNone, walked: it answers true at every place.
-/
import Derived.Test.YtclbkemfgmnfcaaUC
namespace Go.Proofs.Ytclbkemfgmnfcaa
open Go.RowKit
open Utf1

set_option maxHeartbeats 8000000 in
theorem lawNone_walk (hS : SchemeC) (hA : AllowedC) (s : ByteArray) (w : World) :
    Calls Try.prog 8 #[.string s] w fun e w' => e = .returned (.bool true) ∧ Below w.heap.size w w' := by
  have ca := awake_any hS hA
  by_cases hs : s.size ≤ 2000
  · have c1 := fun w => hS s w (by omega)
    have c2 : ∀ w, Calls Try.prog 14 #[.string s, .slice none 0 0] w fun e w' => e = .returned (.bool (allowed (bl s) [])) ∧ Below w.heap.size w w' := fun w => hA s _ [] w (by omega) (by simp) (strArg_nil w)
    cases hsc : scheme (bl s) with
    | none =>
      rw [hsc] at c1
      have c1 : ∀ w, Calls Try.prog 10 #[.string s] w fun e w' => e = .returned (.tuple #[.string ⟨#[]⟩, .bool false]) ∧ Below w.heap.size w w' := c1
      generalize allowed (bl s) [] = b at c2
      clear hS hA hsc
      cases b with
      | true =>
        go_enter Try.func8, Try.ntmps8
        go_wp2_with fail
        refine (ca _).mono ?_
        rintro e w1 ⟨rfl, hb1⟩
        go_wp2_with fail
        refine (c1 _).mono ?_
        rintro e w2 ⟨rfl, hb2⟩
        go_wp2_with fail
        refine (c2 _).mono ?_
        rintro e w3 ⟨rfl, hb3⟩
        go_wp2_with fail
        go_ret
        refine ⟨ret_bool (by first | rfl | simp | (simp; omega)), bel2 (bel2 hb1 hb2) hb3⟩
      | false =>
        go_enter Try.func8, Try.ntmps8
        go_wp2_with fail
        refine (ca _).mono ?_
        rintro e w1 ⟨rfl, hb1⟩
        go_wp2_with fail
        refine (c1 _).mono ?_
        rintro e w2 ⟨rfl, hb2⟩
        go_wp2_with fail
        refine (c2 _).mono ?_
        rintro e w3 ⟨rfl, hb3⟩
        go_wp2_with fail
        go_ret
        refine ⟨ret_bool (by first | rfl | simp | (simp; omega)), bel2 (bel2 hb1 hb2) hb3⟩
    | some x =>
      have hxl := scheme_len _ _ hsc
      rw [bl_len] at hxl
      rw [hsc] at c1
      have c1 : ∀ w, Calls Try.prog 10 #[.string s] w fun e w' => e = .returned (.tuple #[.string ⟨x.toArray⟩, .bool true]) ∧ Below w.heap.size w w' := c1
      have hno : allowed (bl s) [] = false := by
        cases h : allowed (bl s) [] with
        | false => rfl
        | true =>
          have := allowed_none _ h
          rw [hsc] at this
          cases this
      rw [hno] at c2
      have HX : Hid (bl ⟨x.toArray⟩ = x) := hide rfl
      have hxs : (⟨x.toArray⟩ : ByteArray).size ≤ s.size := by rw [size_mk]; exact hxl
      generalize (⟨x.toArray⟩ : ByteArray) = X at c1 HX hxs
      have HC3 : Hid (∀ w v, StrArg w v [X] → Calls Try.prog 14 #[.string s, v] w fun e w' => e = .returned (.bool true) ∧ Below w.heap.size w w') := hide fun w v h => by
        have := hA s v [X] w (by omega) (by simp) h
        rw [List.map_singleton, allowed_one _ _ _ hsc, HX.out, decide_eq_true rfl] at this
        exact this
      have HC4 : Hid (∀ w v, StrArg w v [X ++ ⟨#[120]⟩] → Calls Try.prog 14 #[.string s, v] w fun e w' => e = .returned (.bool false) ∧ Below w.heap.size w w') := hide fun w v h => by
        have := hA s v [X ++ ⟨#[120]⟩] w (by omega) (by simp) h
        rw [List.map_singleton, allowed_one _ _ _ hsc, app_bl, HX.out, decide_eq_false] at this
        · exact this
        · intro e
          have := congrArg List.length e
          simp at this
      have hd : decide ((X.size : Int) < (s.size : Int) + 1) = true := decide_eq_true (by omega)
      have hxm : X.size ≤ 2000 := by omega
      clear hS hA hsc hno hxl HX
      go_enter Try.func8, Try.ntmps8
      go_wp2_with fail
      refine (ca _).mono ?_
      rintro e w1 ⟨rfl, hb1⟩
      go_wp2_with fail
      refine (c1 _).mono ?_
      rintro e w2 ⟨rfl, hb2⟩
      go_wp2_with fail
      refine (c2 _).mono ?_
      rintro e w3 ⟨rfl, hb3⟩
      go_wp2_with fail
      refine (HC3.out _ _ (strArg_one _ _ _)).mono ?_
      rintro e w4 ⟨rfl, hb4⟩
      go_wp2_with fail
      refine (HC4.out _ _ (strArg_one _ _ _)).mono ?_
      rintro e w5 ⟨rfl, hb5⟩
      go_wp2_with fail
      go_ret
      exact ⟨rfl, bel2 (bel_alloc (bel2 (bel_alloc (bel2 (bel2 hb1 hb2) hb3) _) hb4) _) hb5⟩
  · clear hS hA
    go_enter Try.func8, Try.ntmps8
    go_wp2_with fail
    refine (ca _).mono ?_
    rintro e w1 ⟨rfl, hb1⟩
    go_wp2_with fail
    go_ret
    exact ⟨rfl, hb1⟩
end Go.Proofs.Ytclbkemfgmnfcaa
