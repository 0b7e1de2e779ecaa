/-
  The law RefsBack: it answers true.
-/
import Derived.Test.YtlcmdgodpedimaaDoorP8
import Derived.Test.YtlcmdgodpedimaaDoorM3
namespace Go.Proofs.YtlcmdgodpedimaaDoor
open Go.RowKit
open Utf1

set_option maxHeartbeats 4000000 in
theorem back_walk (s : ByteArray) (q : Bool) (w : World) (hg : Glob w) :
    Calls Tryd.prog 6 #[.string s, .bool q] w fun e w' => e = .returned (.bool true) ∧ Below w.heap.size w w' := by
  by_cases hsz : s.size ≤ 5000
  · have he := fun w => escape_any s q w (by omega)
    obtain ⟨t, ht⟩ : ∃ t : ByteArray, t = ⟨(esc q (bl s)).toArray⟩ := ⟨_, rfl⟩
    rw [← ht] at he
    have hbt : bl t = esc q (bl s) := by rw [ht]
    have hts : t.size ≤ 30000 := by
      have := (esc_lens q (bl s)).2
      rw [← hbt, bl_len, bl_len] at this
      omega
    have hr := fun w hg => resolve_any t (by omega) w hg
    have e1 : (⟨(res (bl t)).toArray⟩ : ByteArray) = s := by rw [hbt, res_esc]
    rw [e1] at hr
    have q1 : (s.toList == s.toList) = true := beq_same rfl
    have HB : Hid (∀ x ∈ bl t, x ≠ 60 ∧ x ≠ 62 ∧ (q = true → x ≠ 34)) := hide (by rw [hbt]; exact esc_bytes q (bl s))
    clear ht hbt e1
    go_enter Tryd.func6, Tryd.ntmps6
    go_wp2_with fail
    refine (awake_any _ hg).mono ?_
    rintro e w1 ⟨rfl, hb1⟩
    go_wp2_with fail
    refine (he _).mono ?_
    rintro e w2 ⟨rfl, hb2⟩
    clear he
    go_wp2_with fail
    go_loop [7] (fun v => ∃ k : Nat, v = .int .i64 (k : Int) ∧ k ≤ t.size) (fun v => t.size - (intOf v).toNat)
    case atStart => exact ⟨0, rfl, by omega⟩
    case round =>
      obtain ⟨k, rfl, hk⟩ := hrel
      by_cases hlt : k < t.size
      · have i0 : ∀ w, (Instr.index 9 (.string t) (.int .i64 (k : Int))).run Tryd.prog w = .ok (.int .u8 (atN ((bl t).drop k) 0 : Nat)) w := idx_run t k 0 hlt
        rw [atN_drop t k hlt] at i0
        have hcx := HB.out ((bl t)[k]'(by rw [bl_len]; exact hlt)) (List.getElem_mem ..)
        generalize (bl t)[k]'(by rw [bl_len]; exact hlt) = c at i0 hcx
        obtain ⟨z, hz⟩ : ∃ z : Int, z = (c.toNat : Int) := ⟨_, rfl⟩
        rw [← hz] at i0
        have ne : ∀ (n : Nat), n < 256 → c ≠ UInt8.ofNat n → (z == (n : Int)) = false := by
          intro n hn h
          refine beq_eq_false_iff_ne.2 ?_
          intro e
          exact h ((u8_eq hn).2 (by omega))
        have n60 : (z == 60) = false := ne 60 (by decide) hcx.1
        have n62 : (z == 62) = false := ne 62 (by decide) hcx.2.1
        have n34 : q = true → (z == 34) = false := fun hq => ne 34 (by decide) (hcx.2.2 hq)
        clear hcx hz ne
        cases q
        · clear n34
          go_wp2
          exact ⟨⟨k + 1, by first | rfl | simp, by omega⟩, by simp [intOf]; omega⟩
        · have n34 := n34 rfl
          go_wp2
          exact ⟨⟨k + 1, by first | rfl | simp, by omega⟩, by simp [intOf]; omega⟩
      · go_wp2_with fail
        refine (hr _ ((hg.below hb1).below hb2)).mono ?_
        rintro e w3 ⟨rfl, hb3⟩
        go_wp2_with fail
        go_ret
        exact ⟨rfl, hb1.trans ((hb2.mono hb1.size).trans (hb3.mono (Nat.le_trans hb1.size hb2.size)))⟩
  · go_enter Tryd.func6, Tryd.ntmps6
    go_wp2_with fail
    refine (awake_any _ hg).mono ?_
    rintro e w1 ⟨rfl, hb1⟩
    go_wp2_with fail
    go_ret
    exact ⟨rfl, hb1⟩
end Go.Proofs.YtlcmdgodpedimaaDoor
