/-
  The law FlogLong, walked.
-/
import Derived.Test.YtipebinjdicnfaaFW4
import Derived.OpenShut
namespace Go.Proofs.Ytipebinjdicnfaa
open Go.RowKit

theorem made_bytes (w : World) (m : Nat) : IsBytes (w.alloc (.cells (madeCells #[.int .u8 0] m) 5)) (.slice (some ⟨w.heap.size, 0, none⟩) m m) (List.replicate m 0) := by
  refine .inr ⟨⟨w.heap.size, 0, none⟩, m, by rw [List.length_replicate], fun j hj => ?_⟩
  rw [List.length_replicate] at hj
  rw [add_zero_at]
  refine tag_cell (heap_alloc_new w _) j _ ?_
  have h : (madeCells #[Value.int .u8 0] m).toList = List.replicate m (Value.int .u8 0) := toList_madeCells_one _ _
  rw [← Array.getElem?_toList, h, List.getElem?_replicate, if_pos hj, List.getElem_replicate]
  rfl

set_option maxHeartbeats 2000000 in
theorem long_walk (n : Int) (w : World) (hn : (Lit.int .i64 n).wf = true) :
    Calls Try.prog 7 #[.int .i64 n] w fun e w' => e = .returned (.bool true) ∧ Below w.heap.size w w' := by
  have hwn := Go.bounds_i64 hn
  clear hn
  by_cases h2 : n < 0
  · have e2 : decide (n < 0) = true := by simpa using h2
    clear h2 hwn
    go_enter Try.func7, Try.ntmps7
    go_wp2_with fail
    refine (awake_any w).mono ?_
    rintro e w1 ⟨rfl, hb1⟩
    have HB1 := hide hb1
    clear hb1
    go_wp2_with fail
    refine (fnew w1 w.heap.size HB1.out.size).mono ?_
    rintro e w2 ⟨rfl, -, ha2⟩
    have HB2 := hide (HB1.out.trans ha2.below)
    clear ha2
    go_wp2_with fail
    go_ret
    exact ⟨rfl, HB2.out⟩
  have e2 : decide (n < 0) = false := by simpa using h2
  by_cases h3 : 25000 < n
  · have e3 : decide (25000 < n) = true := by simpa using h3
    clear h3 h2 hwn
    go_enter Try.func7, Try.ntmps7
    go_wp2_with fail
    refine (awake_any w).mono ?_
    rintro e w1 ⟨rfl, hb1⟩
    have HB1 := hide hb1
    clear hb1
    go_wp2_with fail
    refine (fnew w1 w.heap.size HB1.out.size).mono ?_
    rintro e w2 ⟨rfl, -, ha2⟩
    have HB2 := hide (HB1.out.trans ha2.below)
    clear ha2
    go_wp2_with fail
    go_ret
    exact ⟨rfl, HB2.out⟩
  have e3 : decide (25000 < n) = false := by simpa using h3
  obtain ⟨m, rfl⟩ : ∃ m : Nat, n = (m : Int) := ⟨n.toNat, by omega⟩
  have hm : m ≤ 25000 := by omega
  obtain ⟨i0, hi, hz0, hz1, hz2⟩ := info_parts infoByte
  obtain ⟨Z, hZ⟩ : ∃ Z : ByteArray, Z = ⟨(List.replicate m (0 : UInt8)).toArray⟩ := ⟨_, rfl⟩
  have hcv : ∀ wx : World, (convert 38 9 (.slice (some ⟨wx.heap.size, 0, none⟩) m m)).run Try.prog (wx.alloc (.cells (madeCells #[.int .u8 0] m) 5)) = .ok (.string Z) (wx.alloc (.cells (madeCells #[.int .u8 0] m) 5)) := fun wx => by rw [hZ]; exact (made_bytes wx m).conv
  have HZS : Hid (Z.size = m) := hide (by rw [← bl_len, hZ]; simp [bl])
  clear h2 h3 hwn hZ
  obtain ⟨SP, hSP⟩ : ∃ SP, SP = Dv.put ⟨[], 0, -1, false⟩ Z := ⟨_, rfl⟩
  have HSP := hide hSP
  clear hSP
  go_enter Try.func7, Try.ntmps7
  go_wp2_with fail
  refine (awake_any w).mono ?_
  rintro e w1 ⟨rfl, hb1⟩
  have HB1 := hide hb1
  clear hb1
  go_wp2_with fail
  refine (fnew w1 w.heap.size HB1.out.size).mono ?_
  rintro e w2 ⟨rfl, hd2, ha2⟩
  have HD2 := hide hd2
  have HA2 := hide ((Aft.of HB1.out (Nat.le_refl _)).trans ha2)
  clear ha2 hd2
  go_wp2_with fail
  refine (fopen HD2.out [] ⟨[], 0, -1, false⟩ (opn_all rfl Rd.nil)).mono ?_
  rintro e w3 ⟨⟨L, vp, vc, rfl, hl3, _⟩, hd3, ha3⟩
  have HD3 := hide hd3
  have HL3 := hide hl3
  have HA3 := hide (HA2.out.trans ha3)
  clear hd3 ha3 hl3
  go_wp2_with (refine wpList_make_row _ rfl _ _ 38 rfl 5 i0 (.int .u8 0) Try.underlying38 hi hz0 hz1 rfl .i64 .i64 m rfl rfl (by rw [hz2]; omega) (by omega) ?_)
  have hb4 : Below w3.heap.size w3 (w3.alloc (.cells (madeCells #[.int .u8 0] m) 5)) := (Below.refl _ _).alloc (Nat.le_refl _) _
  have HD4 := hide (HD3.out.below hb4)
  have HL4 := hide (log_below HL3.out hb4)
  have HA4 := hide (HA3.out.trans (Aft.of hb4 HD3.out.size))
  clear hb4
  go_wp2_with fail
  refine (fput HD4.out HL4.out Z SP HSP.out.symm).mono ?_
  rintro e w5 ⟨rfl, hd5, ha5⟩
  have HD5 := hide hd5
  have HL5 := hide (ha5.log _ _ HL4.out)
  have HA5 := hide (HA4.out.trans ha5)
  clear hd5 ha5 hcv
  by_cases h4 : m ≤ 20000
  · have e4 : decide ((20000 : Int) < (m : Int)) = false := decide_eq_false (by omega)
    have hsp : SP = (⟨fr Z, 0, -1, false⟩, 0) := by rw [HSP.out, put_ok [] 0 Z (by rw [HZS.out]; exact h4) (by rw [HZS.out]; simp; omega)]; rfl
    subst hsp
    clear h4
    go_wp2_with fail
    refine (fsize HD5.out HL5.out).mono ?_
    rintro e w6 ⟨rfl, hd6, hb6⟩
    have HB6 := hide (HA5.out.below.trans (hb6.mono HD5.out.size))
    have hz : ((fr Z).length : Int) = (m : Int) + 3 := by rw [fr_len, HZS.out]; omega
    rw [hz]
    clear hd6 hb6 hz
    go_wp2_with fail
    go_ret
    exact ⟨rfl, HB6.out⟩
  · have e4 : decide ((20000 : Int) < (m : Int)) = true := decide_eq_true (by omega)
    have hsp : SP = (⟨[], 0, -1, false⟩, 4) := by rw [HSP.out]; unfold Dv.put; rw [if_pos (by rw [HZS.out]; omega)]
    subst hsp
    clear h4
    go_wp2_with fail
    refine (fsize HD5.out HL5.out).mono ?_
    rintro e w6 ⟨rfl, hd6, hb6⟩
    have HB6 := hide (HA5.out.below.trans (hb6.mono HD5.out.size))
    clear hd6 hb6
    go_wp2_with fail
    go_ret
    exact ⟨rfl, HB6.out⟩
end Go.Proofs.Ytipebinjdicnfaa
