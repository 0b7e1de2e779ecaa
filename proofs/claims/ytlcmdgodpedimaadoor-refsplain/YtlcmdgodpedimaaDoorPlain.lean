/-
  The law RefsPlain: it answers true.
-/
import Derived.Test.YtlcmdgodpedimaaDoorP8
import Derived.Test.YtlcmdgodpedimaaDoorM3
namespace Go.Proofs.YtlcmdgodpedimaaDoor
open Go.RowKit
open Utf1

theorem app_bl (a b : ByteArray) : bl (a ++ b) = bl a ++ bl b := by
  show (a ++ b).data.toList = _
  rw [ByteArray.data_append, Array.toList_append]
theorem app_size (a b : ByteArray) : (a ++ b).size = a.size + b.size := by
  rw [← bl_len, app_bl, List.length_append, bl_len, bl_len]

set_option maxHeartbeats 4000000 in
theorem plain_walk (a b : ByteArray) (w : World) (hg : Glob w) :
    Calls Tryd.prog 7 #[.string a, .string b] w fun e w' => e = .returned (.bool true) ∧ Below w.heap.size w w' := by
  by_cases hsz : a.size ≤ 3000 ∧ b.size ≤ 3000
  · obtain ⟨ha, hb⟩ := hsz
    go_enter Tryd.func7, Tryd.ntmps7
    go_wp2_with fail
    refine (awake_any _ hg).mono ?_
    rintro e w1 ⟨rfl, hb1⟩
    go_wp2_with fail
    go_loop [6] (fun v => ∃ k : Nat, v = .int .i64 (k : Int) ∧ k ≤ a.size ∧ Hid (∀ c ∈ (bl a).take k, c ≠ 38)) (fun v => a.size - (intOf v).toNat)
    case atStart => exact ⟨0, rfl, by omega, hide (by intro c hc; simp at hc)⟩
    case round =>
      obtain ⟨k, rfl, hk, HK⟩ := hrel
      by_cases hlt : k < a.size
      · have i0 : ∀ w, (Instr.index 9 (.string a) (.int .i64 (k : Int))).run Tryd.prog w = .ok (.int .u8 (atN ((bl a).drop k) 0 : Nat)) w := idx_run a k 0 hlt
        rw [atN_drop a k hlt] at i0
        have htk : (bl a).take (k + 1) = (bl a).take k ++ [(bl a)[k]'(by rw [bl_len]; exact hlt)] := List.take_succ_eq_append_getElem _
        generalize (bl a)[k]'(by rw [bl_len]; exact hlt) = c at i0 htk
        obtain ⟨z, hz⟩ : ∃ z : Int, z = (c.toNat : Int) := ⟨_, rfl⟩
        rw [← hz] at i0
        have z0 : 0 ≤ z := by omega
        have z1 : z ≤ 255 := by have := c.toNat_lt; omega
        by_cases h38 : z = 38
        · subst h38
          clear hz htk
          go_wp2
          go_ret
          exact ⟨rfl, hb1⟩
        · have hb38 : (z == 38) = false := beq_eq_false_iff_ne.2 h38
          have HK2 : Hid (∀ c ∈ (bl a).take (k + 1), c ≠ 38) := hide (by
            intro x hx
            rw [htk] at hx
            rcases List.mem_append.1 hx with hx | hx
            · exact HK.out x hx
            · have : x = c := by simpa using hx
              subst this
              rintro rfl
              exact h38 (by rw [hz]; rfl))
          clear hz htk h38
          go_wp2
          exact ⟨⟨k + 1, by first | rfl | simp, by omega, HK2⟩, by simp [intOf]; omega⟩
      · have HA : Hid (∀ c ∈ bl a, c ≠ 38) := hide (by
          have := HK.out
          rwa [List.take_of_length_le (by rw [bl_len]; omega)] at this)
        have r1 := fun w hg => resolve_any a (by omega) w hg
        have r2 := fun w hg => resolve_any (a ++ b) (by rw [app_size]; omega) w hg
        have r3 := fun w hg => resolve_any b (by omega) w hg
        rw [res_self _ HA.out] at r1
        have e1 : (⟨(bl a).toArray⟩ : ByteArray) = a := rfl
        rw [e1] at r1
        have q1 : (a.toList == a.toList) = true := beq_same rfl
        have q2 : ((⟨(res (bl (a ++ b))).toArray⟩ : ByteArray).toList == (a ++ (⟨(res (bl b)).toArray⟩ : ByteArray)).toList) = true := beq_same (by
          rw [app_bl a, app_bl a]
          exact res_app _ _ HA.out)
        have s2 : (⟨(res (bl b)).toArray⟩ : ByteArray).size ≤ 3000 := by
          have e := size_mk (res (bl b))
          have := res_len (bl b)
          rw [bl_len] at this
          omega
        have s1 : (a ++ b).size ≤ 6000 := by rw [app_size]; omega
        generalize (⟨(res (bl (a ++ b))).toArray⟩ : ByteArray) = A at r2 q2
        generalize (⟨(res (bl b)).toArray⟩ : ByteArray) = B at r3 q2 s2
        clear HK HA e1
        go_wp2_with fail
        refine (r1 _ (hg.below hb1)).mono ?_
        rintro e w2 ⟨rfl, hb2⟩
        go_wp2_with fail
        refine (r2 _ ((hg.below hb1).below hb2)).mono ?_
        rintro e w3 ⟨rfl, hb3⟩
        go_wp2_with fail
        refine (r3 _ (((hg.below hb1).below hb2).below hb3)).mono ?_
        rintro e w4 ⟨rfl, hb4⟩
        go_wp2_with fail
        go_ret
        exact ⟨rfl, hb1.trans ((hb2.mono hb1.size).trans ((hb3.mono (Nat.le_trans hb1.size hb2.size)).trans (hb4.mono (Nat.le_trans (Nat.le_trans hb1.size hb2.size) hb3.size))))⟩
  · by_cases ha : a.size ≤ 3000
    · have hb : ¬ b.size ≤ 3000 := fun h => hsz ⟨ha, h⟩
      go_enter Tryd.func7, Tryd.ntmps7
      go_wp2_with fail
      refine (awake_any _ hg).mono ?_
      rintro e w1 ⟨rfl, hb1⟩
      go_wp2_with fail
      go_ret
      exact ⟨rfl, hb1⟩
    · go_enter Tryd.func7, Tryd.ntmps7
      go_wp2_with fail
      refine (awake_any _ hg).mono ?_
      rintro e w1 ⟨rfl, hb1⟩
      go_wp2_with fail
      go_ret
      exact ⟨rfl, hb1⟩
end Go.Proofs.YtlcmdgodpedimaaDoor
