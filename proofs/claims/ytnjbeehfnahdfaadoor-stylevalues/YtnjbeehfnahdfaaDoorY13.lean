/-
  The law StyleAgain.
-/
import Derived.Test.YtnjbeehfnahdfaaDoorY12
namespace Go.Proofs.YtnjbeehfnahdfaaDoor
open Go.RowKit
open Utf1 Sty

theorem allN_names {ss : List ByteArray} (h : allN ss = true) : ∀ n ∈ ss.map bl, isName n = true := by
  intro n hn
  obtain ⟨y, hy, rfl⟩ := List.mem_map.1 hn
  exact List.all_eq_true.1 h y hy

set_option maxRecDepth 100000 in
set_option maxHeartbeats 8000000 in
theorem lawAgain_walk (s : ByteArray) (v : Value) (ss : List ByteArray) (w : World) (hv : PArg w v ss) :
    Calls Tryd.prog 5 #[.string s, v] w fun e w' => e = .returned (.bool true) ∧ Below w.heap.size w w' := by
  have ca := awake_any
  have HV := hide hv
  obtain ⟨p, cap, rfl, -, -⟩ := hv.arg
  clear hv
  by_cases hs : s.size ≤ 3000
  · by_cases hl : ss.length ≤ 50
    · have HCN := hide (fun w (h : PArg w (.slice p ss.length cap) ss) => names_any (.slice p ss.length cap) ss (by omega) w h)
      have HC1 := hide (fun w (h : StrArg w (.slice p ss.length cap) ss) => filter_any s (.slice p ss.length cap) ss (by omega) (by omega) w h)
      obtain ⟨T, hT⟩ : ∃ T : ByteArray, T = ⟨(filt (ss.map bl) (bl s)).toArray⟩ := ⟨_, rfl⟩
      have hTb : bl T = filt (ss.map bl) (bl s) := by rw [hT]
      have hTs : T.size ≤ 9003 := by
        rw [← bl_len, hTb]
        have := filt_len (ss.map bl) (bl s)
        rw [bl_len] at this
        omega
      rw [← hT] at HC1
      have HC2 := hide (fun w (h : StrArg w (.slice p ss.length cap) ss) => filter_any T (.slice p ss.length cap) ss (by omega) (by omega) w h)
      cases hn : allN ss with
      | false =>
        rw [hn] at HCN
        clear hn HC1 HC2 hT hTb hTs
        generalize ss.length = N at *
        go_enter Tryd.func5, Tryd.ntmps5
        go_wp2_with fail
        refine (ca _).mono ?_
        rintro e w1 ⟨rfl, hb1⟩
        go_wp2_with fail
        refine (HCN.out _ (HV.out.below hb1)).mono ?_
        rintro e w2 ⟨rfl, rfl⟩
        go_wp2_with fail
        go_ret
        exact ⟨rfl, hb1⟩
      | true =>
        rw [hn] at HCN
        have hnm := allN_names hn
        have HSAFE : Hid (∀ j c, (bl T)[j]? = some c → safe c = true) := hide (fun j c h => filt_safe hnm (bl s) c (by rw [← hTb]; exact List.mem_of_getElem? h))
        have hag : (⟨(filt (ss.map bl) (bl T)).toArray⟩ : ByteArray) = T := by
          rw [hTb, filt_again hnm, ← hTb]
        rw [hag] at HC2
        have q1 : (T.toList == T.toList) = true := beq_same rfl
        clear hn hnm hag hT hTb
        generalize ss.length = N at *
        go_enter Tryd.func5, Tryd.ntmps5
        go_wp2_with fail
        refine (ca _).mono ?_
        rintro e w1 ⟨rfl, hb1⟩
        go_wp2_with fail
        refine (HCN.out _ (HV.out.below hb1)).mono ?_
        rintro e w2 ⟨rfl, rfl⟩
        go_wp2_with fail
        refine (HC1.out _ (HV.out.below hb1).arg).mono ?_
        rintro e w3 ⟨rfl, hb3⟩
        have HB3 := hide (bel2 hb1 hb3)
        clear hb1 hb3 HC1 HCN ca
        go_wp2_with fail
        go_loopg [8] T.size (fun g v8 wx => wx = w3 ∧ ∃ k : Nat, k + g = T.size ∧ v8 = .int .i64 (k : Int))
        case atStart => exact ⟨rfl, 0, by omega, rfl⟩
        case round =>
          obtain ⟨rfl, k, hk, rfl⟩ := hrel
          by_cases hkT : k < T.size
          · obtain ⟨c, hc⟩ := getK T k hkT
            have ik := fun w => idxK hc w
            have hsf := of_decide_eq_true (HSAFE.out k c hc)
            have e60 : ((c.toNat : Int) == 60) = false := beq_eq_false_iff_ne.2 (by omega)
            have e34 : ((c.toNat : Int) == 34) = false := beq_eq_false_iff_ne.2 (by omega)
            have e39 : ((c.toNat : Int) == 39) = false := beq_eq_false_iff_ne.2 (by omega)
            have e40 : ((c.toNat : Int) == 40) = false := beq_eq_false_iff_ne.2 (by omega)
            have e92 : ((c.toNat : Int) == 92) = false := beq_eq_false_iff_ne.2 (by omega)
            have e47 : ((c.toNat : Int) == 47) = false := beq_eq_false_iff_ne.2 (by omega)
            have e64 : ((c.toNat : Int) == 64) = false := beq_eq_false_iff_ne.2 (by omega)
            have e38 : ((c.toNat : Int) == 38) = false := beq_eq_false_iff_ne.2 (by omega)
            clear hsf hc
            generalize (c.toNat : Int) = z at *
            go_wp2_with fail
            go_roundg (T.size - k - 1)
            case measure => omega
            case rel => exact ⟨rfl, k + 1, by omega, by first | rfl | simp⟩
          · go_wp2_with fail
            refine (HC2.out _ (HV.out.below HB3.out).arg).mono ?_
            rintro e w4 ⟨rfl, hb4⟩
            have HB4 := hide (bel2 HB3.out hb4)
            clear hb4
            go_wp2_with fail
            go_ret
            exact ⟨rfl, HB4.out⟩
    · generalize ss.length = N at *
      go_enter Tryd.func5, Tryd.ntmps5
      go_wp2_with fail
      refine (ca _).mono ?_
      rintro e w1 ⟨rfl, hb1⟩
      go_wp2_with fail
      go_ret
      exact ⟨rfl, hb1⟩
  · go_enter Tryd.func5, Tryd.ntmps5
    go_wp2_with fail
    refine (ca _).mono ?_
    rintro e w1 ⟨rfl, hb1⟩
    go_wp2_with fail
    go_ret
    exact ⟨rfl, hb1⟩
end Go.Proofs.YtnjbeehfnahdfaaDoor
