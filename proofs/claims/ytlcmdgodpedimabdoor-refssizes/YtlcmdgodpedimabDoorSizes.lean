/-
  The law RefsSizes: it answers true.
-/
import Derived.Test.YtlcmdgodpedimabDoorP8
import Derived.Test.YtlcmdgodpedimabDoorM3
namespace Go.Proofs.YtlcmdgodpedimabDoor
open Go.RowKit
open Utf1

set_option maxHeartbeats 4000000 in
theorem sizes_walk (s : ByteArray) (w : World) (hg : Glob w) :
    Calls Tryd.prog 4 #[.string s] w fun e w' => e = .returned (.bool true) ∧ Below w.heap.size w w' := by
  by_cases hsz : s.size ≤ 3000
  · have r1 := fun w hg => resolve_any s (by omega) w hg
    have r2 := fun w => escape_any s false w (by omega)
    have r3 := fun w => escape_any s true w (by omega)
    have l1 := res_len (bl s)
    have l2 := esc_lens false (bl s)
    have l3 := esc_lens true (bl s)
    have l4 := esc_more (bl s)
    have s1 := size_mk (res (bl s))
    have s2 := size_mk (esc false (bl s))
    have s3 := size_mk (esc true (bl s))
    have hl := bl_len s
    have a1 : (⟨(res (bl s)).toArray⟩ : ByteArray).size ≤ s.size := by omega
    have a2 : s.size ≤ (⟨(esc false (bl s)).toArray⟩ : ByteArray).size := by omega
    have a3 : (⟨(esc false (bl s)).toArray⟩ : ByteArray).size ≤ (⟨(esc true (bl s)).toArray⟩ : ByteArray).size := by omega
    have a4 : (⟨(esc true (bl s)).toArray⟩ : ByteArray).size ≤ 18000 := by omega
    generalize (⟨(res (bl s)).toArray⟩ : ByteArray) = A at r1 a1
    generalize (⟨(esc false (bl s)).toArray⟩ : ByteArray) = B at r2 a2 a3
    generalize (⟨(esc true (bl s)).toArray⟩ : ByteArray) = C at r3 a3 a4
    clear l1 l2 l3 l4 s1 s2 s3 hl
    have d1 : decide ((A.size : Int) ≤ (s.size : Int)) = true := by simp; omega
    have d2 : decide ((s.size : Int) ≤ (B.size : Int)) = true := by simp; omega
    have d3 : decide ((B.size : Int) ≤ (C.size : Int)) = true := by simp; omega
    go_enter Tryd.func4, Tryd.ntmps4
    go_wp2_with fail
    refine (awake_any _ hg).mono ?_
    rintro e w1 ⟨rfl, hb1⟩
    go_wp2_with fail
    refine (r1 _ (hg.below hb1)).mono ?_
    rintro e w2 ⟨rfl, hb2⟩
    go_wp2_with fail
    refine (r2 _).mono ?_
    rintro e w3 ⟨rfl, hb3⟩
    go_wp2_with fail
    refine (r3 _).mono ?_
    rintro e w4 ⟨rfl, hb4⟩
    go_wp2_with fail
    refine (r2 _).mono ?_
    rintro e w5 ⟨rfl, hb5⟩
    go_wp2_with fail
    go_ret
    have t2 := Nat.le_trans hb1.size hb2.size
    have t3 := Nat.le_trans t2 hb3.size
    have t4 := Nat.le_trans t3 hb4.size
    exact ⟨ret_bool (by first | rfl | (simp; done) | (simp; omega)), hb1.trans ((hb2.mono hb1.size).trans ((hb3.mono t2).trans ((hb4.mono t3).trans (hb5.mono t4))))⟩
  · go_enter Tryd.func4, Tryd.ntmps4
    go_wp2_with fail
    refine (awake_any _ hg).mono ?_
    rintro e w1 ⟨rfl, hb1⟩
    go_wp2_with fail
    go_ret
    exact ⟨rfl, hb1⟩
end Go.Proofs.YtlcmdgodpedimabDoor
