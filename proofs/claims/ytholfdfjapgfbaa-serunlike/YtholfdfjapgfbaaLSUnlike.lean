/-
  The law SerUnlike, walked: it answers true at every two trees.
-/
import Derived.Test.YtholfdfjapgfbaaN11
import Derived.Test.YtholfdfjapgfbaaN12
import Derived.Test.YtholfdfjapgfbaaN16
import Derived.Test.YtholfdfjapgfbaaM8
import Derived.Test.YtholfdfjapgfbaaONod
namespace Go.Proofs.Ytholfdfjapgfbaa
open Go.RowKit
open Utf1

set_option maxRecDepth 100000 in
set_option maxHeartbeats 8000000 in
theorem lawSUnlike_walk (va : Value) (a : List Nd) (vb : Value) (b : List Nd) (w : World) (ha : NArg w va a) (hb : NArg w vb b) :
    Calls Try.prog 5 #[va, vb] w fun e w' => e = .returned (.bool true) ∧ Below w.heap.size w w' := by
  have HA := hide ha.1
  have HB := hide hb.1
  clear ha hb
  go_enter Try.func5, Try.ntmps5
  go_wp2_with fail
  refine (awake_nst _).mono ?_
  rintro e w1 ⟨rfl, hb1⟩
  have HB1 := hide hb1
  have HL1 := hide (light_nst w1 va a (HA.out.below hb1))
  clear hb1
  go_wp2_with fail
  refine HL1.out.mono ?_
  rintro e w2 ⟨l1, rfl, hl1, hb2⟩
  have HB2 := hide (bel2 HB1.out hb2)
  have HLA := hide hl1
  clear hb2 HL1 HB1 hl1
  have HL2 := hide (light_nst w2 vb b (HB.out.below HB2.out))
  go_wp2_with fail
  refine HL2.out.mono ?_
  rintro e w3 ⟨l2, rfl, hl2, hb3⟩
  have HB3 := hide (bel2 HB2.out hb3)
  have HLB := hide hl2
  clear hb3 HL2 HB2 hl2
  cases l1 with
  | false =>
    go_wp2_with fail
    all_goals
      go_ret
      exact ⟨rfl, HB3.out⟩
  | true =>
  cases l2 with
  | false =>
    go_wp2_with fail
    all_goals
      go_ret
      exact ⟨rfl, HB3.out⟩
  | true =>
  have hwa := HLA.out rfl
  have hwb := HLB.out rfl
  have hca := ncL_ws a
  have hcb := ncL_ws b
  have hta := htL_len a
  have htb := htL_len b
  have HLN : Hid ((htL a).length ≤ 1000000000 ∧ (htL b).length ≤ 1000000000) := hide ⟨by omega, by omega⟩
  have HS1 := hide (stable_nst w3 va a (HA.out.below HB3.out) (by omega))
  have HSB := hide (fun wx (hx : Below w.heap.size w wx) => stable_nst wx vb b (HB.out.below hx) (by omega))
  have HINJ : Hid (stable a = true → stable b = true → (htL a = htL b ↔ sameL a b = true)) := hide (by
    intro h1 h2
    rw [sameL_iff]
    exact ⟨page_inj h1 h2, fun h => by rw [h]⟩)
  clear HLA HLB hwa hwb hca hcb hta htb
  obtain ⟨sa, hsa⟩ : ∃ x, x = stable a := ⟨_, rfl⟩
  obtain ⟨sb, hsb⟩ : ∃ x, x = stable b := ⟨_, rfl⟩
  rw [← hsa] at HS1 HINJ
  rw [← hsb] at HSB HINJ
  clear hsa hsb
  cases sa with
  | false =>
    go_wp2_with fail
    refine HS1.out.mono ?_
    rintro e w4 ⟨rfl, hb4⟩
    have HB4 := hide (bel2 HB3.out hb4)
    clear hb4 HS1
    go_wp2_with fail
    all_goals
      go_ret
      exact ⟨rfl, HB4.out⟩
  | true =>
  go_wp2_with fail
  refine HS1.out.mono ?_
  rintro e w4 ⟨rfl, hb4⟩
  have HB4 := hide (bel2 HB3.out hb4)
  have HS2 := hide (HSB.out w4 HB4.out)
  clear hb4 HS1 HSB
  cases sb with
  | false =>
    go_wp2_with fail
    refine HS2.out.mono ?_
    rintro e w5 ⟨rfl, hb5⟩
    have HB5 := hide (bel2 HB4.out hb5)
    clear hb5 HS2
    go_wp2_with fail
    all_goals
      go_ret
      exact ⟨rfl, HB5.out⟩
  | true =>
  have HI := hide (HINJ.out (by first | rfl | trivial) (by first | rfl | trivial))
  clear HINJ
  go_wp2_with fail
  refine HS2.out.mono ?_
  rintro e w5 ⟨rfl, hb5⟩
  have HB5 := hide (bel2 HB4.out hb5)
  clear hb5 HS2 HB4 HB3
  obtain ⟨D1, hD1⟩ := HA.out
  obtain ⟨D2, hD2⟩ := HB.out
  have HSM := hide (same_nst (max D1 D2) w5 va vb a b ((hD1.more (by omega)).below HB5.out) ((hD2.more (by omega)).below HB5.out))
  clear hD1 hD2
  obtain ⟨sm, hsm⟩ : ∃ x, x = sameL a b := ⟨_, rfl⟩
  rw [← hsm] at HSM HI
  clear hsm
  go_wp2_with fail
  refine HSM.out.mono ?_
  rintro e w6 ⟨rfl, hw6⟩
  have HB6 : Hid (Below w.heap.size w w6) := hide (by
    obtain ⟨m, rfl⟩ := hw6
    exact bel2 HB5.out (bel_drewN _ _))
  have HH1 := hide (html_nst w6 va a (HA.out.below HB6.out) HLN.out.1)
  clear hw6 HSM HB5
  go_wp2_with fail
  refine HH1.out.mono ?_
  rintro e w7 ⟨⟨O1, rfl, hO1⟩, hb7⟩
  have HB7 := hide (bel2 HB6.out hb7)
  have HH2 := hide (html_nst w7 vb b (HB.out.below HB7.out) HLN.out.2)
  have HO1 := hide hO1
  clear hb7 hO1 HH1 HB6
  go_wp2_with fail
  refine HH2.out.mono ?_
  rintro e w8 ⟨⟨O2, rfl, hO2⟩, hb8⟩
  have HB8 := hide (bel2 HB7.out hb8)
  have qe : (O1.toList == O2.toList) = sm := by
    rw [same_bytes, HO1.out, hO2]
    cases sm with
    | true => exact decide_eq_true (HI.out.2 rfl)
    | false => exact decide_eq_false (fun h => by have := HI.out.1 h; cases this)
  clear hb8 hO2 HH2 HB7 HO1 HI HLN
  cases sm with
  | true =>
    go_wp2_with fail
    go_ret
    exact ⟨rfl, HB8.out⟩
  | false =>
    go_wp2_with fail
    go_ret
    exact ⟨rfl, HB8.out⟩
end Go.Proofs.Ytholfdfjapgfbaa
