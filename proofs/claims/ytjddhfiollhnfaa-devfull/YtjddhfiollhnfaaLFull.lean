/-
  The law DevFull, walked.
-/
import Derived.Test.YtjddhfiollhnfaaDV4
import Derived.Deep.RegionWith
import Derived.OpenShut
namespace Go.Proofs.Ytjddhfiollhnfaa
open Go.RowKit

/-- Bytes 0. -/
def Z0 (n : Nat) : List UInt8 := List.replicate n 0
theorem z0_len (n : Nat) : (Z0 n).length = n := by unfold Z0; simp
theorem made_z0 (n : Nat) : madeCells #[.int .u8 0] n = (Lib.byteCells (Z0 n)).toArray := by
  apply Array.ext
  · simp [madeCells, Z0, Lib.byteCells]
  · intro i h1 h2
    simp [madeCells, Z0, Lib.byteCells]
    rw [Nat.mod_one]
    rfl
theorem made_bytes (w : World) (n : Nat) : IsBytes (w.alloc (.cells (madeCells #[.int .u8 0] n) 5)) (.slice (some ⟨w.heap.size, 0, none⟩) n n) (Z0 n) := by
  have h := NewBytes.bytes (w := w) (w' := w.alloc (.cells (madeCells #[.int .u8 0] n) 5)) (l := Z0 n) ⟨by rw [heap_alloc_new, made_z0], (Below.refl _ w).alloc (Nat.le_refl _) _⟩ n
  rw [z0_len] at h
  exact h
theorem dmade {w : World} {base B : Nat} {s : Dv} (h : Dev w base w.heap.size B s) (n : Nat) (hl : n ≤ 100000) (s' : Dv × Int) (hs : s.app (Z0 n) = s') :
    Calls Try.prog 12 #[.pointer (some ⟨B, 0, none⟩), .slice (some ⟨w.heap.size, 0, none⟩) n n] (w.alloc (.cells (madeCells #[.int .u8 0] n) 5)) fun e w' => e = .returned (.int .i64 s'.2) ∧ Dev w' base w'.heap.size B s'.1 ∧ Below base w w' := by
  have hb : base ≤ w.heap.size := by obtain ⟨_, _, _, h3⟩ := h; exact h3
  exact (dapp (h.below ((Below.refl _ w).alloc (Nat.le_refl _) _)) _ (Z0 n) (made_bytes w n) (fun _ k hk => .inr (by cases hk; exact Nat.le_refl _)) (by rw [z0_len]; omega) s' hs).mono fun e w' ⟨h1, h2, h3⟩ => ⟨h1, h2, ((Below.refl _ w).alloc hb _).trans h3⟩

set_option maxHeartbeats 4000000 in
theorem full_walk (n more : Int) (w : World) (_hn : (Lit.int .i64 n).wf = true) (_hm : (Lit.int .i64 more).wf = true) :
    Calls Try.prog 6 #[.int .i64 n, .int .i64 more] w fun e w' => e = .returned (.bool true) ∧ Below w.heap.size w w' := by
  clear _hn _hm
  obtain ⟨i0, hi, hz0, hz1, hz2⟩ := info_parts infoByte
  by_cases h2 : n < 0
  · have e2 : decide (n < 0) = true := by simpa using h2
    clear h2 
    go_enter Try.func6, Try.ntmps6
    go_wp2_with fail
    refine (awake_any w).mono ?_
    rintro e w1 ⟨rfl, hb1⟩
    have HB1 := hide hb1
    clear hb1
    go_wp2_with fail
    refine (dnew w1).mono ?_
    rintro e w2 ⟨rfl, hd2, hb2⟩
    have HD2 : Hid (Dev w2 w1.heap.size w2.heap.size w1.heap.size ⟨[], 0, -1, false⟩) := hide hd2
    have HB2 := hide (HB1.out.trans (hb2.mono HB1.out.size))
    clear hd2 hb2
    go_wp2_with fail
    go_ret
    exact ⟨rfl, HB2.out⟩
  have e2 : decide (n < 0) = false := by simpa using h2
  by_cases h3 : 60000 < n
  · have e3 : decide (60000 < n) = true := by simpa using h3
    clear h3 h2
    go_enter Try.func6, Try.ntmps6
    go_wp2_with fail
    refine (awake_any w).mono ?_
    rintro e w1 ⟨rfl, hb1⟩
    have HB1 := hide hb1
    clear hb1
    go_wp2_with fail
    refine (dnew w1).mono ?_
    rintro e w2 ⟨rfl, hd2, hb2⟩
    have HD2 : Hid (Dev w2 w1.heap.size w2.heap.size w1.heap.size ⟨[], 0, -1, false⟩) := hide hd2
    have HB2 := hide (HB1.out.trans (hb2.mono HB1.out.size))
    clear hd2 hb2
    go_wp2_with fail
    go_ret
    exact ⟨rfl, HB2.out⟩
  have e3 : decide (60000 < n) = false := by simpa using h3
  by_cases h4 : more < 0
  · have e4 : decide (more < 0) = true := by simpa using h4
    clear h4 h2 h3
    go_enter Try.func6, Try.ntmps6
    go_wp2_with fail
    refine (awake_any w).mono ?_
    rintro e w1 ⟨rfl, hb1⟩
    have HB1 := hide hb1
    clear hb1
    go_wp2_with fail
    refine (dnew w1).mono ?_
    rintro e w2 ⟨rfl, hd2, hb2⟩
    have HD2 : Hid (Dev w2 w1.heap.size w2.heap.size w1.heap.size ⟨[], 0, -1, false⟩) := hide hd2
    have HB2 := hide (HB1.out.trans (hb2.mono HB1.out.size))
    clear hd2 hb2
    go_wp2_with fail
    go_ret
    exact ⟨rfl, HB2.out⟩
  have e4 : decide (more < 0) = false := by simpa using h4
  by_cases h5 : 60000 < more
  · have e5 : decide (60000 < more) = true := by simpa using h5
    clear h5 h2 h3 h4
    go_enter Try.func6, Try.ntmps6
    go_wp2_with fail
    refine (awake_any w).mono ?_
    rintro e w1 ⟨rfl, hb1⟩
    have HB1 := hide hb1
    clear hb1
    go_wp2_with fail
    refine (dnew w1).mono ?_
    rintro e w2 ⟨rfl, hd2, hb2⟩
    have HD2 : Hid (Dev w2 w1.heap.size w2.heap.size w1.heap.size ⟨[], 0, -1, false⟩) := hide hd2
    have HB2 := hide (HB1.out.trans (hb2.mono HB1.out.size))
    clear hd2 hb2
    go_wp2_with fail
    go_ret
    exact ⟨rfl, HB2.out⟩
  have e5 : decide (60000 < more) = false := by simpa using h5
  obtain ⟨n, rfl⟩ : ∃ k : Nat, n = (k : Int) := ⟨n.toNat, by omega⟩
  obtain ⟨more, rfl⟩ : ∃ k : Nat, more = (k : Int) := ⟨more.toNat, by omega⟩
  have hN : n ≤ 60000 := by omega
  have hM : more ≤ 60000 := by omega
  clear h2 h3 h4 h5
  have hmk1 : ∀ wx : World, (Instr.makeSlice 28 (.int .i64 (n : Int)) (.int .i64 (n : Int))).run Try.prog wx = .ok (.slice (some ⟨wx.heap.size, 0, none⟩) n n) (wx.alloc (.cells (madeCells #[.int .u8 0] n) 5)) := fun wx => run_make_row' _ _ _ 1 Try.underlying28 infoByte rfl .i64 .i64 n (by omega) (by omega) wx
  have hmk2 : ∀ wx : World, (Instr.makeSlice 28 (.int .i64 (more : Int)) (.int .i64 (more : Int))).run Try.prog wx = .ok (.slice (some ⟨wx.heap.size, 0, none⟩) more more) (wx.alloc (.cells (madeCells #[.int .u8 0] more) 5)) := fun wx => run_make_row' _ _ _ 1 Try.underlying28 infoByte rfl .i64 .i64 more (by omega) (by omega) wx
  have hmk3 : ∀ wx : World, (Instr.makeSlice 28 (.int .i64 60000) (.int .i64 60000)).run Try.prog wx = .ok (.slice (some ⟨wx.heap.size, 0, none⟩) 60000 60000) (wx.alloc (.cells (madeCells #[.int .u8 0] 60000) 5)) := fun wx => run_make_row' _ _ _ 1 Try.underlying28 infoByte rfl .i64 .i64 60000 (by omega) (by omega) wx
  have hc1 : ∀ wx : World, (convert 28 28 (.slice (some ⟨wx.heap.size, 0, none⟩) 1 1)).run Try.prog (wx.alloc (.cells #[.int .u8 120] 5)) = .ok (.slice (some ⟨wx.heap.size, 0, none⟩) 1 1) (wx.alloc (.cells #[.int .u8 120] 5 (1, 2))) := fun wx => lit_conv wx _ 1 rfl
  go_enter Try.func6, Try.ntmps6
  go_wp2_with fail
  refine (awake_any w).mono ?_
  rintro e w1 ⟨rfl, hb1⟩
  have HB1 := hide hb1
  clear hb1
  go_wp2_with fail
  refine (dnew w1).mono ?_
  rintro e w2 ⟨rfl, hd2, hb2⟩
  have HD2 : Hid (Dev w2 w1.heap.size w2.heap.size w1.heap.size ⟨[], 0, -1, false⟩) := hide hd2
  have HB2 := hide (HB1.out.trans (hb2.mono HB1.out.size))
  clear hd2 hb2
  go_wp2_with fail
  refine (dmade HD2.out n (by omega) (⟨Z0 n, n, -1, false⟩, 0) (by have h := app_ok [] (Z0 n) 0 (by rw [z0_len]; simpa using hN); simpa [z0_len] using h)).mono ?_
  rintro e w3 ⟨rfl, hd3, hb3⟩
  have HD3 : Hid (Dev w3 w1.heap.size w3.heap.size w1.heap.size ⟨Z0 n, n, -1, false⟩) := hide hd3
  have HB3 := hide (HB2.out.trans (hb3.mono HB1.out.size))
  clear hd3 hb3
  go_wp2_with fail
  by_cases hf : n + more ≤ 60000
  · have ef : decide ((n : Int) + (more : Int) ≤ 60000) = true := by simp; omega
    have HF := hide hf
    clear hf
    refine (dmade HD3.out more (by omega) (⟨Z0 n ++ Z0 more, n + more, -1, false⟩, 0) (by have h := app_ok (Z0 n) (Z0 more) n (by rw [z0_len, z0_len]; exact HF.out); simpa [z0_len] using h)).mono ?_
    rintro e w4 ⟨rfl, hd4, hb4⟩
    have HD4 : Hid (Dev w4 w1.heap.size w4.heap.size w1.heap.size ⟨Z0 n ++ Z0 more, n + more, -1, false⟩) := hide hd4
    have HB4 := hide (HB3.out.trans (hb4.mono HB1.out.size))
    clear hd4 hb4
    go_wp2_with fail
    refine (dtrim HD4.out 0 (by decide) (⟨[], 0, -1, false⟩, 0) (by have h := trim_ok (Z0 n ++ Z0 more) (n + more) 0 (Nat.zero_le _); simpa using h)).mono ?_
    rintro e w5 ⟨rfl, hd5, hb5⟩
    have HD5 : Hid (Dev w5 w1.heap.size w5.heap.size w1.heap.size ⟨[], 0, -1, false⟩) := hide hd5
    have HB5 := hide (HB4.out.trans (hb5.mono HB1.out.size))
    clear hd5 hb5
    go_wp2_with fail
    refine (dmade HD5.out 60000 (by omega) (⟨Z0 60000, 60000, -1, false⟩, 0) (by have h := app_ok [] (Z0 60000) 0 (by rw [z0_len]; simp); rw [h, z0_len, List.nil_append])).mono ?_
    rintro e w6 ⟨rfl, hd6, hb6⟩
    have HD6 : Hid (Dev w6 w1.heap.size w6.heap.size w1.heap.size ⟨Z0 60000, 60000, -1, false⟩) := hide hd6
    have HB6 := hide (HB5.out.trans (hb6.mono HB1.out.size))
    clear hd6 hb6
    go_wp2_with fail
    refine (dlit HD6.out [120] (by decide) 1 rfl _ rfl (⟨Z0 60000, 60000, -1, false⟩, 10) (app_full (Z0 60000) [120] 60000 (by rw [z0_len]; simp))).mono ?_
    rintro e w7 ⟨rfl, hd7, hb7⟩
    have HD7 : Hid (Dev w7 w1.heap.size w7.heap.size w1.heap.size ⟨Z0 60000, 60000, -1, false⟩) := hide hd7
    have HB7 := hide (HB6.out.trans (hb7.mono HB1.out.size))
    clear hd7 hb7
    go_wp2_with fail
    go_ret
    exact ⟨rfl, HB7.out⟩
  · have ef : decide ((n : Int) + (more : Int) ≤ 60000) = false := by simp; omega
    have HF := hide hf
    clear hf
    refine (dmade HD3.out more (by omega) (⟨Z0 n, n, -1, false⟩, 10) (app_full (Z0 n) (Z0 more) n (by rw [z0_len, z0_len]; have := HF.out; omega))).mono ?_
    rintro e w4 ⟨rfl, hd4, hb4⟩
    have HD4 : Hid (Dev w4 w1.heap.size w4.heap.size w1.heap.size ⟨Z0 n, n, -1, false⟩) := hide hd4
    have HB4 := hide (HB3.out.trans (hb4.mono HB1.out.size))
    clear hd4 hb4
    go_wp2_with fail
    refine (dbytes HD4.out).mono ?_
    rintro e w5 ⟨rfl, _, _, hd5, hb5⟩
    simp only [z0_len]
    have HD5 : Hid (Dev w5 w1.heap.size w5.heap.size w1.heap.size ⟨Z0 n, n, -1, false⟩) := hide (by obtain ⟨F, a1, a2, a3⟩ := hd5; exact ⟨F, a1, fun k hk => ⟨(a2 k hk).1, Nat.lt_of_lt_of_le (a2 k hk).2 hb5.size⟩, a3⟩)
    have HB5 := hide (HB4.out.trans (hb5.mono HB4.out.size))
    clear hd5 hb5
    go_wp2_with fail
    refine (dtrim HD5.out 0 (by decide) (⟨[], 0, -1, false⟩, 0) (by have h := trim_ok (Z0 n) (n) 0 (Nat.zero_le _); simpa using h)).mono ?_
    rintro e w6 ⟨rfl, hd6, hb6⟩
    have HD6 : Hid (Dev w6 w1.heap.size w6.heap.size w1.heap.size ⟨[], 0, -1, false⟩) := hide hd6
    have HB6 := hide (HB5.out.trans (hb6.mono HB1.out.size))
    clear hd6 hb6
    go_wp2_with fail
    refine (dmade HD6.out 60000 (by omega) (⟨Z0 60000, 60000, -1, false⟩, 0) (by have h := app_ok [] (Z0 60000) 0 (by rw [z0_len]; simp); rw [h, z0_len, List.nil_append])).mono ?_
    rintro e w7 ⟨rfl, hd7, hb7⟩
    have HD7 : Hid (Dev w7 w1.heap.size w7.heap.size w1.heap.size ⟨Z0 60000, 60000, -1, false⟩) := hide hd7
    have HB7 := hide (HB6.out.trans (hb7.mono HB1.out.size))
    clear hd7 hb7
    go_wp2_with fail
    refine (dlit HD7.out [120] (by decide) 1 rfl _ rfl (⟨Z0 60000, 60000, -1, false⟩, 10) (app_full (Z0 60000) [120] 60000 (by rw [z0_len]; simp))).mono ?_
    rintro e w8 ⟨rfl, hd8, hb8⟩
    have HD8 : Hid (Dev w8 w1.heap.size w8.heap.size w1.heap.size ⟨Z0 60000, 60000, -1, false⟩) := hide hd8
    have HB8 := hide (HB7.out.trans (hb8.mono HB1.out.size))
    clear hd8 hb8
    go_wp2_with fail
    go_ret
    exact ⟨rfl, HB8.out⟩
end Go.Proofs.Ytjddhfiollhnfaa
