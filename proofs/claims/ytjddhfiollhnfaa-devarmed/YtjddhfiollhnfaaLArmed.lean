/-
  The law DevArmed, walked.
-/
import Derived.Test.YtjddhfiollhnfaaDV4
import Derived.Deep.LoopGhost
namespace Go.Proofs.Ytjddhfiollhnfaa
open Go.RowKit

/-- A device that was armed for n calls, behind i Appends of one byte. -/
def ArmS (n i : Nat) : Dv := if i ≤ n then ⟨List.replicate i 120, i, (n : Int) - (i : Int), false⟩ else ⟨List.replicate n 120, n, 0, true⟩
theorem arm_le {n i : Nat} (h : i ≤ n) : ArmS n i = ⟨List.replicate i 120, i, (n : Int) - (i : Int), false⟩ := by unfold ArmS; rw [if_pos h]
theorem arm_gt {n i : Nat} (h : n < i) : ArmS n i = ⟨List.replicate n 120, n, 0, true⟩ := by unfold ArmS; rw [if_neg (by omega)]
theorem arm_go {n i : Nat} (h : i < n) (hn : n ≤ 50) : (ArmS n i).app [120] = (ArmS n (i + 1), 0) := by
  rw [arm_le (by omega), arm_le (by omega)]
  unfold Dv.app
  rw [if_neg (show ¬ (false = true) by decide), if_neg (by show ¬ 60000 < (List.replicate i (120 : UInt8)).length + 1; rw [List.length_replicate]; omega)]
  have hg : Dv.goes ⟨List.replicate i 120, i, (n : Int) - (i : Int), false⟩ = ⟨List.replicate i 120, i, (n : Int) - (i : Int) - 1, false⟩ := by
    unfold Dv.goes
    rw [if_neg (by show ¬ (n : Int) - (i : Int) = 0; omega), if_pos (by show 0 < (n : Int) - (i : Int); omega)]
  rw [hg, if_neg (show ¬ (false = true) by decide)]
  congr 1
  show (⟨List.replicate i 120 ++ [120], i + 1, (n : Int) - (i : Int) - 1, false⟩ : Dv) = _
  rw [← List.replicate_succ']
  congr 1
  omega
theorem arm_stop {n i : Nat} (h : ¬ i < n) (hn : n ≤ 50) : (ArmS n i).app [120] = (ArmS n (i + 1), 11) := by
  rw [arm_gt (show n < i + 1 by omega)]
  rcases Nat.lt_or_ge n i with h2 | h2
  · rw [arm_gt h2]
    rfl
  · have : i = n := by omega
    subst this
    rw [arm_le (Nat.le_refl _)]
    unfold Dv.app
    rw [if_neg (show ¬ (false = true) by decide), if_neg (by show ¬ 60000 < (List.replicate i (120 : UInt8)).length + 1; rw [List.length_replicate]; omega)]
    have hg : Dv.goes ⟨List.replicate i 120, i, (i : Int) - (i : Int), false⟩ = ⟨List.replicate i 120, i, 0, true⟩ := by
      unfold Dv.goes
      rw [if_pos (by show (i : Int) - (i : Int) = 0; omega)]
      show (⟨_, _, (i : Int) - (i : Int), true⟩ : Dv) = _
      rw [Int.sub_self]
    rw [hg, if_pos rfl]

set_option maxHeartbeats 4000000 in
theorem armed_walk (n many : Int) (w : World) (_hn : (Lit.int .i64 n).wf = true) (_hm : (Lit.int .i64 many).wf = true) :
    Calls Try.prog 5 #[.int .i64 n, .int .i64 many] w fun e w' => e = .returned (.bool true) ∧ Below w.heap.size w w' := by
  clear _hn _hm
  by_cases h2 : n < 0
  · have e2 : decide (n < 0) = true := by simpa using h2
    clear h2 
    go_enter Try.func5, Try.ntmps5
    go_wp2_with fail
    refine (awake_any w).mono ?_
    rintro e w1 ⟨rfl, hb1⟩
    have HB1 := hide hb1
    clear hb1
    go_wp2_with fail
    refine (dnew w1).mono ?_
    rintro e w2 ⟨rfl, hd2, hb2⟩
    have HD2 : Hid (Dev w2 w1.heap.size w2.heap.size w1.heap.size ⟨[], 0, -1, false⟩) := hide hd2
    have HB2 := hide (HB1.out.trans (hb2.mono HB1.out.size))
    clear hd2 hb2
    go_wp2_with fail
    go_ret
    exact ⟨rfl, HB2.out⟩
  have e2 : decide (n < 0) = false := by simpa using h2
  by_cases h3 : 50 < n
  · have e3 : decide (50 < n) = true := by simpa using h3
    clear h3 h2
    go_enter Try.func5, Try.ntmps5
    go_wp2_with fail
    refine (awake_any w).mono ?_
    rintro e w1 ⟨rfl, hb1⟩
    have HB1 := hide hb1
    clear hb1
    go_wp2_with fail
    refine (dnew w1).mono ?_
    rintro e w2 ⟨rfl, hd2, hb2⟩
    have HD2 : Hid (Dev w2 w1.heap.size w2.heap.size w1.heap.size ⟨[], 0, -1, false⟩) := hide hd2
    have HB2 := hide (HB1.out.trans (hb2.mono HB1.out.size))
    clear hd2 hb2
    go_wp2_with fail
    go_ret
    exact ⟨rfl, HB2.out⟩
  have e3 : decide (50 < n) = false := by simpa using h3
  by_cases h4 : many < 0
  · have e4 : decide (many < 0) = true := by simpa using h4
    clear h4 h2 h3
    go_enter Try.func5, Try.ntmps5
    go_wp2_with fail
    refine (awake_any w).mono ?_
    rintro e w1 ⟨rfl, hb1⟩
    have HB1 := hide hb1
    clear hb1
    go_wp2_with fail
    refine (dnew w1).mono ?_
    rintro e w2 ⟨rfl, hd2, hb2⟩
    have HD2 : Hid (Dev w2 w1.heap.size w2.heap.size w1.heap.size ⟨[], 0, -1, false⟩) := hide hd2
    have HB2 := hide (HB1.out.trans (hb2.mono HB1.out.size))
    clear hd2 hb2
    go_wp2_with fail
    go_ret
    exact ⟨rfl, HB2.out⟩
  have e4 : decide (many < 0) = false := by simpa using h4
  by_cases h5 : 60 < many
  · have e5 : decide (60 < many) = true := by simpa using h5
    clear h5 h2 h3 h4
    go_enter Try.func5, Try.ntmps5
    go_wp2_with fail
    refine (awake_any w).mono ?_
    rintro e w1 ⟨rfl, hb1⟩
    have HB1 := hide hb1
    clear hb1
    go_wp2_with fail
    refine (dnew w1).mono ?_
    rintro e w2 ⟨rfl, hd2, hb2⟩
    have HD2 : Hid (Dev w2 w1.heap.size w2.heap.size w1.heap.size ⟨[], 0, -1, false⟩) := hide hd2
    have HB2 := hide (HB1.out.trans (hb2.mono HB1.out.size))
    clear hd2 hb2
    go_wp2_with fail
    go_ret
    exact ⟨rfl, HB2.out⟩
  have e5 : decide (60 < many) = false := by simpa using h5
  obtain ⟨n, rfl⟩ : ∃ k : Nat, n = (k : Int) := ⟨n.toNat, by omega⟩
  obtain ⟨M, rfl⟩ : ∃ k : Nat, many = (k : Int) := ⟨many.toNat, by omega⟩
  have hN : n ≤ 50 := by omega
  have hM : M ≤ 60 := by omega
  clear h2 h3 h4 h5
  have hc1 : ∀ wx : World, (convert 28 28 (.slice (some ⟨wx.heap.size, 0, none⟩) 1 1)).run Try.prog (wx.alloc (.cells #[.int .u8 120] 5)) = .ok (.slice (some ⟨wx.heap.size, 0, none⟩) 1 1) (wx.alloc (.cells #[.int .u8 120] 5 (1, 2))) := fun wx => lit_conv wx _ 1 rfl
  go_enter Try.func5, Try.ntmps5
  go_wp2_with fail
  refine (awake_any w).mono ?_
  rintro e w1 ⟨rfl, hb1⟩
  have HB1 := hide hb1
  clear hb1
  go_wp2_with fail
  refine (dnew w1).mono ?_
  rintro e w2 ⟨rfl, hd2, hb2⟩
  have HD2 : Hid (Dev w2 w1.heap.size w2.heap.size w1.heap.size ⟨[], 0, -1, false⟩) := hide hd2
  have HB2 := hide (HB1.out.trans (hb2.mono HB1.out.size))
  clear hd2 hb2
  go_wp2_with fail
  refine (darm HD2.out (n : Int) (by omega)).mono ?_
  rintro e w3 ⟨rfl, hd3, hb3⟩
  have HD3 : Hid (Dev w3 w1.heap.size w3.heap.size w1.heap.size (ArmS n 0)) := hide (by
    rw [arm_le (Nat.zero_le _)]
    have h : Dv.arm ⟨[], 0, -1, false⟩ (n : Int) = ⟨List.replicate 0 120, 0, (n : Int) - ((0 : Nat) : Int), false⟩ := by
      unfold Dv.arm
      rw [if_neg (show ¬ (false = true) by decide)]
      show (⟨[], 0, (n : Int), false⟩ : Dv) = _
      simp
    rw [← h]
    exact hd3)
  have HB3 := hide (HB2.out.trans (hb3.mono HB1.out.size))
  clear hd3 hb3
  go_wp2_with fail
  go_loopg [7] M (fun k v7 wr => ∃ i : Nat, i + k = M ∧ v7 = .int .i64 (i : Int) ∧ Hid (Dev wr w1.heap.size wr.heap.size w1.heap.size (ArmS n i)) ∧ Hid (Below w.heap.size w wr))
  case atStart => exact ⟨0, by omega, rfl, HD3, HB3⟩
  case round =>
    obtain ⟨i, hik, rfl, HD, HB⟩ := hrel
    by_cases hlt : i < M
    · have hd : decide ((i : Int) < (M : Int)) = true := decide_eq_true (by omega)
      by_cases hn : i < n
      · have hdn : decide ((i : Int) < (n : Int)) = true := decide_eq_true (by omega)
        have HA := hide (arm_go hn hN)
        go_wp2_with fail
        refine (dlit HD.out [120] (by decide) 1 rfl _ rfl (ArmS n (i + 1), 0) HA.out).mono ?_
        rintro e w5 ⟨rfl, hd5, hb5⟩
        have HD5 := hide hd5
        have HB5 := hide (HB.out.trans (hb5.mono HB1.out.size))
        clear hd5 hb5 HD HB
        go_wp2_with fail
        go_roundg (gk - 1)
        case measure => omega
        case rel => exact ⟨i + 1, by omega, by first | rfl | simp, HD5, HB5⟩
      · have hdn : decide ((i : Int) < (n : Int)) = false := decide_eq_false (by omega)
        have HA := hide (arm_stop hn hN)
        go_wp2_with fail
        refine (dlit HD.out [120] (by decide) 1 rfl _ rfl (ArmS n (i + 1), 11) HA.out).mono ?_
        rintro e w5 ⟨rfl, hd5, hb5⟩
        have HD5 := hide hd5
        have HB5 := hide (HB.out.trans (hb5.mono HB1.out.size))
        clear hd5 hb5 HD HB
        go_wp2_with fail
        go_roundg (gk - 1)
        case measure => omega
        case rel => exact ⟨i + 1, by omega, by first | rfl | simp, HD5, HB5⟩
    · have hd : decide ((i : Int) < (M : Int)) = false := decide_eq_false (by omega)
      have e : i = M := by omega
      subst e
      obtain ⟨w4, hw4⟩ : ∃ w4, w4 = wr := ⟨_, rfl⟩
      rw [← hw4] at HD HB ⊢
      clear hw4 hik hlt
      by_cases hle : i ≤ n
      · have hg : decide ((n : Int) < (i : Int)) = false := decide_eq_false (by omega)
        have HS : Hid (Dev w4 w1.heap.size w4.heap.size w1.heap.size ⟨List.replicate i 120, i, (n : Int) - (i : Int), false⟩) := hide (by rw [← arm_le hle]; exact HD.out)
        have hleI : (i : Int) ≤ (n : Int) := by omega
        have hnn : ¬ n < i := by omega
        clear HD hle
        go_wp2_with fail
        refine (doff HS.out).mono ?_
        rintro e w5 ⟨rfl, rfl⟩
        go_wp2_with fail
        refine (dbytes HS.out).mono ?_
        rintro e w6 ⟨rfl, _, _, _, hb6⟩
        simp only [List.length_replicate]
        have HB6 := hide (HB.out.trans (hb6.mono HB.out.size))
        clear hb6
        rcases Int.lt_or_le (i : Int) (n : Int) with hq | hq
        · go_wp2_with fail
          go_ret
          exact ⟨rfl, HB6.out⟩
        · obtain rfl : i = n := by omega
          go_wp2_with fail
          go_ret
          exact ⟨rfl, HB6.out⟩
      · have hg : decide ((n : Int) < (i : Int)) = true := decide_eq_true (by omega)
        have HS : Hid (Dev w4 w1.heap.size w4.heap.size w1.heap.size ⟨List.replicate n 120, n, 0, true⟩) := hide (by rw [← arm_gt (Nat.lt_of_not_ge hle)]; exact HD.out)
        have hltI : (n : Int) < (i : Int) := by omega
        have hltN : n < i := by omega
        have hltQ : ¬ i < n := by omega
        have hltJ : ¬ (i : Int) < (n : Int) := by omega
        clear HD hle
        go_wp2_with fail
        refine (doff HS.out).mono ?_
        rintro e w5 ⟨rfl, rfl⟩
        go_wp2_with fail
        refine (dbytes HS.out).mono ?_
        rintro e w6 ⟨rfl, _, _, _, hb6⟩
        simp only [List.length_replicate]
        have HB6 := hide (HB.out.trans (hb6.mono HB.out.size))
        clear hb6
        go_wp2_with fail
        go_ret
        exact ⟨rfl, HB6.out⟩
end Go.Proofs.Ytjddhfiollhnfaa
