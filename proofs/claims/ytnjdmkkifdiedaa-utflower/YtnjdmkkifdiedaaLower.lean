/-
  The law UtfLower, walked: it answers true at every text.
-/
import Derived.Test.YtnjdmkkifdiedaaW5
namespace Go.Proofs.Ytnjdmkkifdiedaa
open Go.RowKit
open Utf1

theorem low_size (s : ByteArray) : (⟨(lower (bl s)).toArray⟩ : ByteArray).size = s.size := by
  show (lower (bl s)).toArray.size = _
  rw [List.size_toArray]
  unfold lower
  rw [List.length_map, bl_len]
theorem low_no (s T : ByteArray) (hT : T = ⟨(lower (bl s)).toArray⟩) (k : Nat) (h : k < T.size) : ¬ (65 ≤ (T[k].toNat : Int) ∧ (T[k].toNat : Int) ≤ 90) := by
  subst hT
  have := lower_no (bl s) _ (List.getElem_mem (l := lower (bl s)) (n := k) (by simpa [ByteArray.size] using h))
  intro hh
  apply this
  have e : (⟨(lower (bl s)).toArray⟩ : ByteArray)[k] = (lower (bl s))[k]'(by simpa [ByteArray.size] using h) := rfl
  rw [e] at hh
  omega

set_option maxHeartbeats 1000000 in
theorem lawLower_walk (s : ByteArray) (w : World) (hs : s.size ≤ maxLen) :
    Calls Try.prog 8 #[.string s] w fun e w' => e = .returned (.bool true) ∧ Below w.heap.size w w' := by
  unfold maxLen at hs
  by_cases hbig : 10000 < s.size
  · go_enter Try.func8, Try.ntmps8
    go_wp2_with (go_at_call 9; refine (awake_any _).mono ?_; rintro e w1 ⟨rfl, hb1⟩)
    go_ret
    exact ⟨rfl, hb1⟩
  · obtain ⟨T, hT⟩ : ∃ T : ByteArray, T = ⟨(lower (bl s)).toArray⟩ := ⟨_, rfl⟩
    have hTs : T.size = s.size := by rw [hT, low_size]
    have hno := low_no s T hT
    have cl : ∀ w, Calls Try.prog 16 #[.string s] w fun e w' => e = .returned (.string T) ∧ Below w.heap.size w w' := fun w => by rw [hT]; exact lower_any s w
    have hblT : bl T = lower (bl s) := by rw [hT]
    have cT : ∀ w, Calls Try.prog 16 #[.string T] w fun e w' => e = .returned (.string T) ∧ Below w.heap.size w w' := fun w => by
      have := lower_any T w
      rw [hblT, lower_lower, ← hT] at this
      exact this
    have vT : ∀ w, Calls Try.prog 12 #[.string T] w fun e w' => e = .returned (.bool (valid (bl s))) ∧ Below w.heap.size w w' := fun w => by
      have := valid_any T w
      rw [hblT, valid_lower] at this
      exact this
    have vS := fun w => valid_any s w
    generalize valid (bl s) = V at *
    have HTS := hide hTs
    have hTm : T.size ≤ 10000 := by omega
    clear hblT hT hTs
    have CL := hide cl
    have CT := hide cT
    have VT := hide vT
    have VS := hide vS
    clear cl cT vT vS
    have hbI : decide ((10000 : Int) < (s.size : Int)) = false := by simp; omega
    go_enter Try.func8, Try.ntmps8
    go_wp2_with fail
    refine (awake_any _).mono ?_
    rintro e w1 ⟨rfl, hb1⟩
    go_wp2_with fail
    refine (CL.out _).mono ?_
    rintro e w2 ⟨rfl, hb2⟩
    go_wp2_with fail
    go_loop [5] (fun i => ∃ k : Nat, k ≤ T.size ∧ i = .int .i64 k) (fun i => T.size - (intOf i).toNat)
    case atStart => exact ⟨0, Nat.zero_le _, rfl⟩
    case round =>
      obtain ⟨k, hk, rfl⟩ := hrel
      by_cases hlt : k < T.size
      · have hnk := hno k hlt
        by_cases h65 : 65 ≤ (T[k].toNat : Int)
        · have h90 : ¬ (T[k].toNat : Int) ≤ 90 := fun h => hnk ⟨h65, h⟩
          go_wp2
          go_round
          case rel => exact ⟨k + 1, by omega, by go_num⟩
          case measure => simp [intOf]; omega
        · go_wp2
          go_round
          case rel => exact ⟨k + 1, by omega, by go_num⟩
          case measure => simp [intOf]; omega
      · have hTs := HTS.out
        have hE : ((T.size : Int) == (s.size : Int)) = true := by rw [hTs]; simp
        clear hTs
        go_wp2_with fail
        refine (CT.out _).mono ?_
        rintro e w3 ⟨rfl, hb3⟩
        go_wp2_with fail
        refine (VT.out _).mono ?_
        rintro e w4 ⟨rfl, hb4⟩
        go_wp2_with fail
        refine (VS.out _).mono ?_
        rintro e w5 ⟨rfl, hb5⟩
        go_wp2_with fail
        go_ret
        exact ⟨ret_bool (by simp), ((((hb1.trans (hb2.mono hb1.size)).trans (hb3.mono (Nat.le_trans hb1.size hb2.size))).trans (hb4.mono (Nat.le_trans (Nat.le_trans hb1.size hb2.size) hb3.size))).trans (hb5.mono (Nat.le_trans (Nat.le_trans (Nat.le_trans hb1.size hb2.size) hb3.size) hb4.size)))⟩
end Go.Proofs.Ytnjdmkkifdiedaa
