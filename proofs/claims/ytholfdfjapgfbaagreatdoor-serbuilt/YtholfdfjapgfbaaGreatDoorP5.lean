/-
  What refs.standsFor answers at up to eight bytes.
-/
import Derived.Test.YtholfdfjapgfbaaGreatDoorP4
namespace Go.Proofs.YtholfdfjapgfbaaGreatDoor
open Go.RowKit
open Utf1

theorem cut_yes (c : UInt8) (t : List UInt8) (w : World) :
    Calls Tryz.prog 68 #[.string ⟨(c :: t).toArray⟩, .string ⟨#[c]⟩] w fun e w' => e = .returned (.tuple #[.string ⟨t.toArray⟩, .bool true]) ∧ w' = w := by
  have h := Tryz.strings_CutPrefix ⟨(c :: t).toArray⟩ ⟨#[c]⟩ w
  have e1 : Lib.hasPrefix (c :: t) [c] = true := by simp [Lib.hasPrefix]
  have e2 : Lib.trimPrefix (c :: t) [c] = t := by simp [Lib.trimPrefix, Lib.hasPrefix]
  have e3 : ((⟨(c :: t).toArray⟩ : ByteArray)).data.toList = c :: t := rfl
  have e4 : ((⟨#[c]⟩ : ByteArray)).data.toList = [c] := rfl
  rw [e3, e4, e1, e2] at h
  exact h

theorem cut_no (c : UInt8) (s : ByteArray) (w : World) (h0 : (bl s).head? ≠ some c) :
    Calls Tryz.prog 68 #[.string s, .string ⟨#[c]⟩] w fun e w' => e = .returned (.tuple #[.string s, .bool false]) ∧ w' = w := by
  have h := Tryz.strings_CutPrefix s ⟨#[c]⟩ w
  have e1 : Lib.hasPrefix (bl s) [c] = false := by
    unfold Lib.hasPrefix
    cases hb : bl s with
    | nil => rfl
    | cons x t =>
      rw [hb] at h0
      simp at h0
      simp [List.isPrefixOf]
      exact fun e => h0 e.symm
  have e2 : Lib.trimPrefix (bl s) [c] = bl s := by unfold Lib.trimPrefix; rw [e1]; simp
  have e4 : ((⟨#[c]⟩ : ByteArray)).data.toList = [c] := rfl
  rw [show s.data.toList = bl s from rfl, e4, e1, e2] at h
  exact h

theorem low_x (x : UInt8) : low8 x = 120 ↔ x = 120 ∨ x = 88 := by
  constructor
  · intro h
    have h1 := congrArg UInt8.toNat h
    rw [low8_toNat] at h1
    have h2 : (120 : UInt8).toNat = 120 := rfl
    rw [h2] at h1
    unfold lowN at h1
    split at h1
    · right
      apply UInt8.toNat_inj.1
      show x.toNat = 88
      omega
    · left
      apply UInt8.toNat_inj.1
      exact h1
  · rintro (rfl | rfl) <;> decide

theorem mk_bl (s : ByteArray) : s = ⟨(bl s).toArray⟩ := rfl

theorem named_nil : named [] = none := by decide

set_option maxHeartbeats 1000000 in
theorem standsFor_any (s : ByteArray) (hs : s.size ≤ 8) (w : World) (hg : Glob w) :
    Calls Tryz.prog 53 #[.string s] w fun e w' => e = .returned (optS (sf (bl s))) ∧ Below w.heap.size w w' := by
  by_cases h0 : (bl s).head? = some 35
  · obtain ⟨t, ht⟩ : ∃ t, bl s = 35 :: t := by
      cases hb : bl s with
      | nil => rw [hb] at h0; simp at h0
      | cons x t => rw [hb] at h0; simp at h0; exact ⟨t, by rw [h0]⟩
    have htl : t.length ≤ 7 := by
      have := congrArg List.length ht
      rw [bl_len, List.length_cons] at this
      omega
    rw [ht]
    have hse : s = ⟨(35 :: t).toArray⟩ := by rw [← ht]
    subst hse
    have HF : Hid (sf (35 :: t) = sfN t) := hide rfl
    have hc1 := fun w => cut_yes 35 t w
    have hlo := fun w => lower_any ⟨t.toArray⟩ w
    have e1 : bl ⟨t.toArray⟩ = t := rfl
    rw [e1] at hlo
    clear ht h0 hs
    by_cases hx : (lower t).head? = some 120
    · obtain ⟨x, d, rfl⟩ : ∃ x d, t = x :: d := by
        cases t with
        | nil => simp [lower] at hx
        | cons x d => exact ⟨x, d, rfl⟩
      have hx2 : low8 x = 120 := by simpa [lower] using hx
      have hlx : lower (x :: d) = 120 :: lower d := by rw [← hx2]; rfl
      have hc2 := fun w => cut_yes 120 (lower d) w
      rw [← hlx] at hc2
      have hdl : d.length ≤ 6 := by simpa using htl
      have hnu := fun w hg => numbered_any 16 (.inr rfl) ⟨(lower d).toArray⟩ (by simp [lower, ByteArray.size]; omega) w hg
      have e2 : bl ⟨(lower d).toArray⟩ = lower d := rfl
      rw [e2, numS_lower] at hnu
      have HR : Hid (sfN (x :: d) = numS 16 d) := hide (by
        unfold sfN
        simp only
        rw [if_pos ((low_x x).1 hx2), if_neg (by omega)])
      generalize (⟨(lower (x :: d)).toArray⟩ : ByteArray) = L at hlo hc2
      generalize (⟨(lower d).toArray⟩ : ByteArray) = D at hc2 hnu
      generalize (⟨(35 :: x :: d).toArray⟩ : ByteArray) = S at hc1 ⊢
      generalize (⟨(x :: d).toArray⟩ : ByteArray) = T at hc1 hlo
      clear hx hx2 hlx hdl htl
      rw [HF.out, HR.out]
      unfold optS at hnu ⊢
      generalize oT (numS 16 d) = A at hnu ⊢
      generalize (numS 16 d).isSome = B at hnu ⊢
      go_enter Tryz.func53, Tryz.ntmps53
      go_wp2_with fail
      refine (hc1 _).mono ?_
      rintro e w1 ⟨rfl, rfl⟩
      go_wp2_with fail
      refine (hlo _).mono ?_
      rintro e w1 ⟨rfl, hb1⟩
      go_wp2_with fail
      refine (hc2 _).mono ?_
      rintro e w2 ⟨rfl, rfl⟩
      go_wp2_with fail
      refine (hnu _ (hg.below hb1)).mono ?_
      rintro e w2 ⟨rfl, hb2⟩
      go_wp2_with fail
      go_ret2
      exact ⟨rfl, hb1.trans (hb2.mono hb1.size)⟩
    · have hc2 := fun w => cut_no 120 ⟨(lower t).toArray⟩ w hx
      have hnu := fun w hg => numbered_any 10 (.inl rfl) ⟨t.toArray⟩ (by simp [ByteArray.size]; omega) w hg
      rw [e1] at hnu
      have HR : Hid (sfN t = numS 10 t) := hide (by
        cases t with
        | nil => rfl
        | cons x d =>
          unfold sfN
          simp only
          have hx2 : ¬ (x = 120 ∨ x = 88) := fun h => hx (by simpa [lower] using (low_x x).2 h)
          have hdl : d.length ≤ 6 := by simpa using htl
          rw [if_neg hx2, if_neg (by omega)])
      generalize (⟨(lower t).toArray⟩ : ByteArray) = L at hlo hc2
      generalize (⟨(35 :: t).toArray⟩ : ByteArray) = S at hc1 ⊢
      generalize (⟨t.toArray⟩ : ByteArray) = T at hc1 hlo hnu
      clear hx htl
      rw [HF.out, HR.out]
      unfold optS at hnu ⊢
      generalize oT (numS 10 t) = A at hnu ⊢
      generalize (numS 10 t).isSome = B at hnu ⊢
      go_enter Tryz.func53, Tryz.ntmps53
      go_wp2_with fail
      refine (hc1 _).mono ?_
      rintro e w1 ⟨rfl, rfl⟩
      go_wp2_with fail
      refine (hlo _).mono ?_
      rintro e w1 ⟨rfl, hb1⟩
      go_wp2_with fail
      refine (hc2 _).mono ?_
      rintro e w2 ⟨rfl, rfl⟩
      go_wp2_with fail
      refine (hnu _ (hg.below hb1)).mono ?_
      rintro e w2 ⟨rfl, hb2⟩
      go_wp2_with fail
      go_ret2
      exact ⟨rfl, hb1.trans (hb2.mono hb1.size)⟩
  · have hc1 := fun w => cut_no 35 s w h0
    have hna := fun w => named_any s w
    have HR : Hid (sf (bl s) = named (bl s)) := hide (by
      cases hb : bl s with
      | nil => exact named_nil.symm
      | cons x t =>
        rw [hb] at h0
        unfold sf
        simp only
        rw [if_neg (fun e => h0 (by rw [e]; rfl))])
    rw [HR.out]
    unfold optS at hna ⊢
    generalize oT (named (bl s)) = A at hna ⊢
    generalize (named (bl s)).isSome = B at hna ⊢
    clear h0
    go_enter Tryz.func53, Tryz.ntmps53
    go_wp2_with fail
    refine (hc1 _).mono ?_
    rintro e w1 ⟨rfl, rfl⟩
    go_wp2_with fail
    refine (hna _).mono ?_
    rintro e w1 ⟨rfl, hb1⟩
    go_wp2_with fail
    go_ret2
    exact ⟨rfl, hb1⟩
end Go.Proofs.YtholfdfjapgfbaaGreatDoor
