/-
  The law RefsParts: it answers true.
-/
import Derived.Test.YtlcmdgodpedimaaDoorP8
import Derived.Test.YtlcmdgodpedimaaDoorM3
namespace Go.Proofs.YtlcmdgodpedimaaDoor
open Go.RowKit
open Utf1

theorem app_bl (a b : ByteArray) : bl (a ++ b) = bl a ++ bl b := by
  show (a ++ b).data.toList = _
  rw [ByteArray.data_append, Array.toList_append]
theorem app_size (a b : ByteArray) : (a ++ b).size = a.size + b.size := by
  rw [← bl_len, app_bl, List.length_append, bl_len, bl_len]

set_option maxHeartbeats 4000000 in
theorem twos_walk (a b : ByteArray) (q : Bool) (w : World) (hg : Glob w) :
    Calls Tryd.prog 8 #[.string a, .string b, .bool q] w fun e w' => e = .returned (.bool true) ∧ Below w.heap.size w w' := by
  by_cases ha : a.size ≤ 3000
  · by_cases hb : b.size ≤ 3000
    · by_cases h0 : b.size = 0
      · have hok : bl b = [] ∨ atN (bl b) 0 < 128 := .inl (by rw [← List.length_eq_zero_iff, bl_len]; exact h0)
        have r1 := fun w => escape_any (a ++ b) q w (by rw [app_size]; omega)
        have r2 := fun w => escape_any a q w (by omega)
        have r3 := fun w => escape_any b q w (by omega)
        have q1 : ((⟨(esc q (bl (a ++ b))).toArray⟩ : ByteArray).toList == ((⟨(esc q (bl a)).toArray⟩ : ByteArray) ++ (⟨(esc q (bl b)).toArray⟩ : ByteArray)).toList) = true := beq_same (by
          rw [app_bl a, app_bl]
          exact esc_app q _ _ hok)
        have s2 : (⟨(esc q (bl a)).toArray⟩ : ByteArray).size ≤ 18000 := by
          have e := size_mk (esc q (bl a))
          have := (esc_lens q (bl a)).2
          rw [bl_len] at this
          omega
        have s3 : (⟨(esc q (bl b)).toArray⟩ : ByteArray).size ≤ 18000 := by
          have e := size_mk (esc q (bl b))
          have := (esc_lens q (bl b)).2
          rw [bl_len] at this
          omega
        generalize (⟨(esc q (bl (a ++ b))).toArray⟩ : ByteArray) = A at r1 q1
        generalize (⟨(esc q (bl a)).toArray⟩ : ByteArray) = B at r2 q1 s2
        generalize (⟨(esc q (bl b)).toArray⟩ : ByteArray) = C at r3 q1 s3
        clear hok
        go_enter Tryd.func8, Tryd.ntmps8
        go_wp2_with fail
        refine (awake_any _ hg).mono ?_
        rintro e w1 ⟨rfl, hb1⟩
        go_wp2_with fail
        refine (r1 _).mono ?_
        rintro e w2 ⟨rfl, hb2⟩
        go_wp2_with fail
        refine (r2 _).mono ?_
        rintro e w3 ⟨rfl, hb3⟩
        go_wp2_with fail
        refine (r3 _).mono ?_
        rintro e w4 ⟨rfl, hb4⟩
        go_wp2_with fail
        go_ret
        exact ⟨rfl, hb1.trans ((hb2.mono hb1.size).trans ((hb3.mono (Nat.le_trans hb1.size hb2.size)).trans (hb4.mono (Nat.le_trans (Nat.le_trans hb1.size hb2.size) hb3.size))))⟩
      · have hlt : 0 < b.size := by omega
        have i0 : ∀ w, (Instr.index 9 (.string b) (.int .i64 0)).run Tryd.prog w = .ok (.int .u8 (atN ((bl b).drop 0) 0 : Nat)) w := idx_run b 0 0 hlt
        rw [List.drop_zero] at i0
        obtain ⟨z, hz⟩ : ∃ z : Int, z = (atN (bl b) 0 : Int) := ⟨_, rfl⟩
        rw [← hz] at i0
        have z0 : 0 ≤ z := by omega
        have z1 : z ≤ 255 := by have := atN_lt (bl b) 0; omega
        by_cases h128 : z < 128
        · have hok : bl b = [] ∨ atN (bl b) 0 < 128 := .inr (by omega)
          have r1 := fun w => escape_any (a ++ b) q w (by rw [app_size]; omega)
          have r2 := fun w => escape_any a q w (by omega)
          have r3 := fun w => escape_any b q w (by omega)
          have q1 : ((⟨(esc q (bl (a ++ b))).toArray⟩ : ByteArray).toList == ((⟨(esc q (bl a)).toArray⟩ : ByteArray) ++ (⟨(esc q (bl b)).toArray⟩ : ByteArray)).toList) = true := beq_same (by
            rw [app_bl a, app_bl]
            exact esc_app q _ _ hok)
          have s2 : (⟨(esc q (bl a)).toArray⟩ : ByteArray).size ≤ 18000 := by
            have e := size_mk (esc q (bl a))
            have := (esc_lens q (bl a)).2
            rw [bl_len] at this
            omega
          have s3 : (⟨(esc q (bl b)).toArray⟩ : ByteArray).size ≤ 18000 := by
            have e := size_mk (esc q (bl b))
            have := (esc_lens q (bl b)).2
            rw [bl_len] at this
            omega
          generalize (⟨(esc q (bl (a ++ b))).toArray⟩ : ByteArray) = A at r1 q1
          generalize (⟨(esc q (bl a)).toArray⟩ : ByteArray) = B at r2 q1 s2
          generalize (⟨(esc q (bl b)).toArray⟩ : ByteArray) = C at r3 q1 s3
          clear hok hz
          have n128 : ¬ 128 ≤ z := by omega
          go_enter Tryd.func8, Tryd.ntmps8
          go_wp2_with fail
          refine (awake_any _ hg).mono ?_
          rintro e w1 ⟨rfl, hb1⟩
          go_wp2_with fail
          refine (r1 _).mono ?_
          rintro e w2 ⟨rfl, hb2⟩
          go_wp2_with fail
          refine (r2 _).mono ?_
          rintro e w3 ⟨rfl, hb3⟩
          go_wp2_with fail
          refine (r3 _).mono ?_
          rintro e w4 ⟨rfl, hb4⟩
          go_wp2_with fail
          go_ret
          exact ⟨rfl, hb1.trans ((hb2.mono hb1.size).trans ((hb3.mono (Nat.le_trans hb1.size hb2.size)).trans (hb4.mono (Nat.le_trans (Nat.le_trans hb1.size hb2.size) hb3.size))))⟩
        · clear hz
          go_enter Tryd.func8, Tryd.ntmps8
          go_wp2_with fail
          refine (awake_any _ hg).mono ?_
          rintro e w1 ⟨rfl, hb1⟩
          go_wp2_with fail
          go_ret
          exact ⟨rfl, hb1⟩
    · go_enter Tryd.func8, Tryd.ntmps8
      go_wp2_with fail
      refine (awake_any _ hg).mono ?_
      rintro e w1 ⟨rfl, hb1⟩
      go_wp2_with fail
      go_ret
      exact ⟨rfl, hb1⟩
  · go_enter Tryd.func8, Tryd.ntmps8
    go_wp2_with fail
    refine (awake_any _ hg).mono ?_
    rintro e w1 ⟨rfl, hb1⟩
    go_wp2_with fail
    go_ret
    exact ⟨rfl, hb1⟩
end Go.Proofs.YtlcmdgodpedimaaDoor
