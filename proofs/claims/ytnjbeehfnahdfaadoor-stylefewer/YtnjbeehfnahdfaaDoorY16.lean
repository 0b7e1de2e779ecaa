/-
  The law StyleTwo.
-/
import Derived.Test.YtnjbeehfnahdfaaDoorY14
namespace Go.Proofs.YtnjbeehfnahdfaaDoor
open Go.RowKit
open Utf1 Sty

set_option maxRecDepth 100000 in
set_option maxHeartbeats 8000000 in
theorem lawTwo_walk (a b : ByteArray) (w : World) :
    Calls Tryd.prog 8 #[.string a, .string b] w fun e w' => e = .returned (.bool true) ∧ Below w.heap.size w w' := by
  have ca := awake_any
  by_cases h1 : a.size ≤ 200
  · by_cases h2 : b.size ≤ 200
    · have c1 := fun w => value_any a (by omega) w
      have c2 := fun w => value_any b (by omega) w
      cases ha : okv (bl a) with
      | false =>
        rw [ha] at c1
        clear ha c2
        go_enter Tryd.func8, Tryd.ntmps8
        go_wp2_with fail
        refine (ca _).mono ?_
        rintro e w1 ⟨rfl, hb1⟩
        go_wp2_with fail
        refine (c1 _).mono ?_
        rintro e w2 ⟨rfl, rfl⟩
        go_wp2_with fail
        go_ret
        exact ⟨rfl, hb1⟩
      | true =>
        rw [ha] at c1
        cases hb : okv (bl b) with
        | false =>
          rw [hb] at c2
          clear ha hb
          go_enter Tryd.func8, Tryd.ntmps8
          go_wp2_with fail
          refine (ca _).mono ?_
          rintro e w1 ⟨rfl, hb1⟩
          go_wp2_with fail
          refine (c1 _).mono ?_
          rintro e w2 ⟨rfl, rfl⟩
          go_wp2_with fail
          refine (c2 _).mono ?_
          rintro e w2 ⟨rfl, rfl⟩
          go_wp2_with fail
          go_ret
          exact ⟨rfl, hb1⟩
        | true =>
          rw [hb] at c2
          obtain ⟨Z, hZ⟩ : ∃ Z : ByteArray, Z = ⟨#[119, 105, 100, 116, 104, 58]⟩ ++ a ++ ⟨#[59, 99, 111, 108, 111, 114, 58]⟩ ++ b := ⟨_, rfl⟩
          obtain ⟨Y, hY⟩ : ∃ Y : ByteArray, Y = ⟨#[99, 111, 108, 111, 114, 58]⟩ ++ a ++ ⟨#[59, 99, 111, 108, 111, 114, 58]⟩ ++ b := ⟨_, rfl⟩
          have eZ : bl Z = wid ++ [58] ++ bl a ++ [59] ++ col ++ [58] ++ bl b := by
            rw [hZ, app_bl, app_bl, app_bl]
            show [119, 105, 100, 116, 104, 58] ++ bl a ++ [59, 99, 111, 108, 111, 114, 58] ++ bl b = _
            simp [wid, col]
          have eY : bl Y = col ++ [58] ++ bl a ++ [59] ++ col ++ [58] ++ bl b := by
            rw [hY, app_bl, app_bl, app_bl]
            show [99, 111, 108, 111, 114, 58] ++ bl a ++ [59, 99, 111, 108, 111, 114, 58] ++ bl b = _
            simp [col]
          have sZ : Z.size ≤ 90000 := by
            rw [← bl_len, eZ]
            simp only [List.length_append, bl_len, List.length_cons, List.length_nil, wid, col]
            omega
          have sY : Y.size ≤ 90000 := by
            rw [← bl_len, eY]
            simp only [List.length_append, bl_len, List.length_cons, List.length_nil, col]
            omega
          have HC1 := hide (fun w v (h : StrArg w v [⟨#[99, 111, 108, 111, 114]⟩, ⟨#[119, 105, 100, 116, 104]⟩]) => filter_any Z v _ sZ (by simp) w h)
          have HC2 := hide (fun w v (h : StrArg w v [⟨#[99, 111, 108, 111, 114]⟩, ⟨#[119, 105, 100, 116, 104]⟩]) => filter_any Y v _ sY (by simp) w h)
          have r1 : (⟨(filt (List.map bl [⟨#[99, 111, 108, 111, 114]⟩, ⟨#[119, 105, 100, 116, 104]⟩]) (bl Z)).toArray⟩ : ByteArray) = ⟨#[119, 105, 100, 116, 104, 58, 32]⟩ ++ a ++ ⟨#[59, 32, 99, 111, 108, 111, 114, 58, 32]⟩ ++ b := by
            apply ba_ext
            show filt [col, wid] (bl Z) = _
            rw [eZ, filt_two _ _ ha hb, app_bl, app_bl, app_bl]
            show _ = [119, 105, 100, 116, 104, 58, 32] ++ bl a ++ [59, 32, 99, 111, 108, 111, 114, 58, 32] ++ bl b
            simp [wid, col]
          have r2 : (⟨(filt (List.map bl [⟨#[99, 111, 108, 111, 114]⟩, ⟨#[119, 105, 100, 116, 104]⟩]) (bl Y)).toArray⟩ : ByteArray) = ⟨#[99, 111, 108, 111, 114, 58, 32]⟩ ++ b := by
            apply ba_ext
            show filt [col, wid] (bl Y) = _
            rw [eY, filt_twice _ _ ha hb, app_bl]
            show _ = [99, 111, 108, 111, 114, 58, 32] ++ bl b
            simp [col]
          rw [r1, hZ] at HC1
          rw [r2, hY] at HC2
          have q1 : ((⟨#[119, 105, 100, 116, 104, 58, 32]⟩ ++ a ++ ⟨#[59, 32, 99, 111, 108, 111, 114, 58, 32]⟩ ++ b : ByteArray).toList == (⟨#[119, 105, 100, 116, 104, 58, 32]⟩ ++ a ++ ⟨#[59, 32, 99, 111, 108, 111, 114, 58, 32]⟩ ++ b : ByteArray).toList) = true := beq_same rfl
          have q2 : ((⟨#[99, 111, 108, 111, 114, 58, 32]⟩ ++ b : ByteArray).toList == (⟨#[99, 111, 108, 111, 114, 58, 32]⟩ ++ b : ByteArray).toList) = true := beq_same rfl
          clear ha hb hZ hY eZ eY sZ sY r1 r2
          go_enter Tryd.func8, Tryd.ntmps8
          go_wp2_with fail
          refine (ca _).mono ?_
          rintro e w1 ⟨rfl, hb1⟩
          go_wp2_with fail
          refine (c1 _).mono ?_
          rintro e w2 ⟨rfl, rfl⟩
          go_wp2_with fail
          refine (c2 _).mono ?_
          rintro e w2 ⟨rfl, rfl⟩
          clear c1 c2 ca
          go_wp2_with fail
          refine (HC1.out _ _ (strArg_two _ _ _ _)).mono ?_
          rintro e w3 ⟨rfl, hb3⟩
          go_wp2_with fail
          refine (HC2.out _ _ ((strArg_two _ _ _ _).below hb3)).mono ?_
          rintro e w4 ⟨rfl, hb4⟩
          have HB4 := hide (bel2 (bel2 (bel_alloc hb1 _) hb3) hb4)
          clear hb4 hb3 hb1
          go_wp2_with fail
          go_ret
          exact ⟨rfl, HB4.out⟩
    · go_enter Tryd.func8, Tryd.ntmps8
      go_wp2_with fail
      refine (ca _).mono ?_
      rintro e w1 ⟨rfl, hb1⟩
      go_wp2_with fail
      go_ret
      exact ⟨rfl, hb1⟩
  · go_enter Tryd.func8, Tryd.ntmps8
    go_wp2_with fail
    refine (ca _).mono ?_
    rintro e w1 ⟨rfl, hb1⟩
    go_wp2_with fail
    go_ret
    exact ⟨rfl, hb1⟩
end Go.Proofs.YtnjbeehfnahdfaaDoor
