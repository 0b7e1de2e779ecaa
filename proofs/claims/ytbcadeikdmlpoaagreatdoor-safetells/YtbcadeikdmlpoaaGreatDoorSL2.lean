/-
  The law SafeTells.
-/
import Derived.Test.YtbcadeikdmlpoaaGreatDoorSLX
import Derived.Test.YtbcadeikdmlpoaaGreatDoorN12
import Derived.Test.YtbcadeikdmlpoaaGreatDoorSDX
namespace Go.Proofs.YtbcadeikdmlpoaaGreatDoor
open Go.RowKit
open Utf1 Pol8

set_option maxRecDepth 100000 in
set_option maxHeartbeats 16000000 in
theorem lawTells_walk (hS : SafeC) (v1 v2 v3 v4 v5 : Value) (p : Pol) (l1 l2 l3 l4 l5 : List ByteArray) (v : Value) (ns : List Nd) (w : World) (hv : PolV w v1 v2 v3 v4 v5 p l1 l2 l3 l4 l5) (hk : Dm.NAt w v ns) :
    Calls Tryz.prog 3 #[pval p v1 v2 v3 v4 v5, v] w fun e w' => e = .returned (.bool true) ∧ Below w.heap.size w w' := by
  have HV := hide hv
  have HK := hide hk
  obtain ⟨pv, nv, cv, rfl⟩ : ∃ pv nv cv, v = .slice pv nv cv := by
    obtain ⟨D, hD⟩ := hk
    cases D with
    | zero => exact hD.elim
    | succ D =>
      obtain ⟨pv, cv, e, -⟩ := hD
      exact ⟨pv, _, cv, e⟩
  obtain ⟨o1, k1, rfl, -, -⟩ := hv.s1
  obtain ⟨o2, k2, rfl, -, -⟩ := hv.s2
  obtain ⟨o3, k3, rfl, -, -⟩ := hv.s3
  obtain ⟨o4, k4, rfl, -, -⟩ := hv.s4
  obtain ⟨o5, k5, rfl, -, -⟩ := hv.s5
  clear hv hk
  obtain ⟨w1, hw1⟩ : ∃ w1, w1 = w.alloc (.cells #[.int .i64 p.ep, .slice o1 (List.length l1) k1, .slice o2 (List.length l2) k2, .slice o3 (List.length l3) k3, .slice o4 (List.length l4) k4, .slice o5 (List.length l5) k5, .int .i64 p.dp, .int .i64 p.nd, .int .i64 p.bt] 24) := ⟨_, rfl⟩
  have H1 : Hid (BoxP w #[.int .i64 p.ep, .slice o1 (List.length l1) k1, .slice o2 (List.length l2) k2, .slice o3 (List.length l3) k3, .slice o4 (List.length l4) k4, .slice o5 (List.length l5) k5, .int .i64 p.dp, .int .i64 p.nd, .int .i64 p.bt] w1) := hide (by rw [hw1]; exact ⟨new_block _ _ _, bel_alloc (Below.refl _ _) _⟩)
  have SK : Hid (∀ wx, BoxP w #[.int .i64 p.ep, .slice o1 (List.length l1) k1, .slice o2 (List.length l2) k2, .slice o3 (List.length l3) k3, .slice o4 (List.length l4) k4, .slice o5 (List.length l5) k5, .int .i64 p.dp, .int .i64 p.nd, .int .i64 p.bt] wx → wx.cell? ⟨w.heap.size, 0, none⟩ = some (.int .i64 p.ep) ∧ wx.cell? ⟨w.heap.size, 1, none⟩ = some (.slice o1 (List.length l1) k1) ∧ wx.cell? ⟨w.heap.size, 2, none⟩ = some (.slice o2 (List.length l2) k2) ∧ wx.cell? ⟨w.heap.size, 3, none⟩ = some (.slice o3 (List.length l3) k3) ∧ wx.cell? ⟨w.heap.size, 4, none⟩ = some (.slice o4 (List.length l4) k4) ∧ wx.cell? ⟨w.heap.size, 5, none⟩ = some (.slice o5 (List.length l5) k5) ∧ wx.cell? ⟨w.heap.size, 6, none⟩ = some (.int .i64 p.dp) ∧ wx.cell? ⟨w.heap.size, 7, none⟩ = some (.int .i64 p.nd) ∧ wx.cell? ⟨w.heap.size, 8, none⟩ = some (.int .i64 p.bt) ∧ Hid (BoxP w #[.int .i64 p.ep, .slice o1 (List.length l1) k1, .slice o2 (List.length l2) k2, .slice o3 (List.length l3) k3, .slice o4 (List.length l4) k4, .slice o5 (List.length l5) k5, .int .i64 p.dp, .int .i64 p.nd, .int .i64 p.bt] wx)) := hide (fun wx h => ⟨h.cell 0 _ rfl, h.cell 1 _ rfl, h.cell 2 _ rfl, h.cell 3 _ rfl, h.cell 4 _ rfl, h.cell 5 _ rfl, h.cell 6 _ rfl, h.cell 7 _ rfl, h.cell 8 _ rfl, hide h⟩)
  have SB : Hid (∀ wx, (wx.cell? ⟨w.heap.size, 0, none⟩ = some (.int .i64 p.ep) ∧ wx.cell? ⟨w.heap.size, 1, none⟩ = some (.slice o1 (List.length l1) k1) ∧ wx.cell? ⟨w.heap.size, 2, none⟩ = some (.slice o2 (List.length l2) k2) ∧ wx.cell? ⟨w.heap.size, 3, none⟩ = some (.slice o3 (List.length l3) k3) ∧ wx.cell? ⟨w.heap.size, 4, none⟩ = some (.slice o4 (List.length l4) k4) ∧ wx.cell? ⟨w.heap.size, 5, none⟩ = some (.slice o5 (List.length l5) k5) ∧ wx.cell? ⟨w.heap.size, 6, none⟩ = some (.int .i64 p.dp) ∧ wx.cell? ⟨w.heap.size, 7, none⟩ = some (.int .i64 p.nd) ∧ wx.cell? ⟨w.heap.size, 8, none⟩ = some (.int .i64 p.bt) ∧ Hid (BoxP w #[.int .i64 p.ep, .slice o1 (List.length l1) k1, .slice o2 (List.length l2) k2, .slice o3 (List.length l3) k3, .slice o4 (List.length l4) k4, .slice o5 (List.length l5) k5, .int .i64 p.dp, .int .i64 p.nd, .int .i64 p.bt] wx)) → BoxP w #[.int .i64 p.ep, .slice o1 (List.length l1) k1, .slice o2 (List.length l2) k2, .slice o3 (List.length l3) k3, .slice o4 (List.length l4) k4, .slice o5 (List.length l5) k5, .int .i64 p.dp, .int .i64 p.nd, .int .i64 p.bt] wx) := hide (fun wx h => h.2.2.2.2.2.2.2.2.2.out)
  have CW : Hid (∀ wx, BoxP w #[.int .i64 p.ep, .slice o1 (List.length l1) k1, .slice o2 (List.length l2) k2, .slice o3 (List.length l3) k3, .slice o4 (List.length l4) k4, .slice o5 (List.length l5) k5, .int .i64 p.dp, .int .i64 p.nd, .int .i64 p.bt] wx → Calls Tryz.prog 5 #[] wx fun e w' => e = .returned (.bool true) ∧ BoxP w #[.int .i64 p.ep, .slice o1 (List.length l1) k1, .slice o2 (List.length l2) k2, .slice o3 (List.length l3) k3, .slice o4 (List.length l4) k4, .slice o5 (List.length l5) k5, .int .i64 p.dp, .int .i64 p.nd, .int .i64 p.bt] w') := hide (fun wx h => (awake_any hS wx).mono fun _ w' ⟨h1, h2⟩ => ⟨h1, h.keep h2⟩)
  have CL : Hid (∀ wx, BoxP w #[.int .i64 p.ep, .slice o1 (List.length l1) k1, .slice o2 (List.length l2) k2, .slice o3 (List.length l3) k3, .slice o4 (List.length l4) k4, .slice o5 (List.length l5) k5, .int .i64 p.dp, .int .i64 p.nd, .int .i64 p.bt] wx → Calls Tryz.prog 6 #[.agg #[.int .i64 p.ep, .slice o1 (List.length l1) k1, .slice o2 (List.length l2) k2, .slice o3 (List.length l3) k3, .slice o4 (List.length l4) k4, .slice o5 (List.length l5) k5, .int .i64 p.dp, .int .i64 p.nd, .int .i64 p.bt]] wx fun e w' => (∃ b : Bool, e = .returned (.bool b) ∧ (b = true → light p)) ∧ BoxP w #[.int .i64 p.ep, .slice o1 (List.length l1) k1, .slice o2 (List.length l2) k2, .slice o3 (List.length l3) k3, .slice o4 (List.length l4) k4, .slice o5 (List.length l5) k5, .int .i64 p.dp, .int .i64 p.nd, .int .i64 p.bt] w') := hide (fun wx h => (rlight_any _ _ _ _ _ p _ _ _ _ _ wx (HV.out.below h.2)).mono fun _ w' ⟨h1, h2⟩ => ⟨h1, h.keep h2⟩)
  have CM : Hid (∀ wx, BoxP w #[.int .i64 p.ep, .slice o1 (List.length l1) k1, .slice o2 (List.length l2) k2, .slice o3 (List.length l3) k3, .slice o4 (List.length l4) k4, .slice o5 (List.length l5) k5, .int .i64 p.dp, .int .i64 p.nd, .int .i64 p.bt] wx → Calls Tryz.prog 7 #[.slice pv nv cv, .int .i64 0] wx fun e w' => (∃ b : Bool, e = .returned (.bool b) ∧ (b = true → wsL ns ≤ 20000)) ∧ BoxP w #[.int .i64 p.ep, .slice o1 (List.length l1) k1, .slice o2 (List.length l2) k2, .slice o3 (List.length l3) k3, .slice o4 (List.length l4) k4, .slice o5 (List.length l5) k5, .int .i64 p.dp, .int .i64 p.nd, .int .i64 p.bt] w') := hide (fun wx h => (Dm.light_nst wx (.slice pv nv cv) ns (HK.out.below h.2)).mono fun _ w' ⟨b, h1, h2, h3⟩ => ⟨⟨b, h1, fun e => Nat.le_of_lt (h2 e)⟩, h.keep h3⟩)
  have C1 : Hid (fits p → wsL ns ≤ 20000 → ∀ wx, BoxP w #[.int .i64 p.ep, .slice o1 (List.length l1) k1, .slice o2 (List.length l2) k2, .slice o3 (List.length l3) k3, .slice o4 (List.length l4) k4, .slice o5 (List.length l5) k5, .int .i64 p.dp, .int .i64 p.nd, .int .i64 p.bt] wx → Calls Tryz.prog 8 #[.agg #[.int .i64 p.ep, .slice o1 (List.length l1) k1, .slice o2 (List.length l2) k2, .slice o3 (List.length l3) k3, .slice o4 (List.length l4) k4, .slice o5 (List.length l5) k5, .int .i64 p.dp, .int .i64 p.nd, .int .i64 p.bt], .slice pv nv cv] wx fun e w' => e = .returned (.bool (Saf.safeB p ns)) ∧ BoxP w #[.int .i64 p.ep, .slice o1 (List.length l1) k1, .slice o2 (List.length l2) k2, .slice o3 (List.length l3) k3, .slice o4 (List.length l4) k4, .slice o5 (List.length l5) k5, .int .i64 p.dp, .int .i64 p.nd, .int .i64 p.bt] w') := hide (fun hf hn wx h => (hS _ _ _ _ _ p _ _ _ _ _ _ ns wx (HV.out.below h.2) hf (HK.out.below h.2) hn).mono fun _ w' ⟨h1, h2⟩ => ⟨h1, h.keep h2⟩)
  have C2 : Hid (fits p → wsL ns ≤ 20000 → ∀ wx, BoxP w #[.int .i64 p.ep, .slice o1 (List.length l1) k1, .slice o2 (List.length l2) k2, .slice o3 (List.length l3) k3, .slice o4 (List.length l4) k4, .slice o5 (List.length l5) k5, .int .i64 p.dp, .int .i64 p.nd, .int .i64 p.bt] wx → Calls Tryz.prog 9 #[.agg #[.int .i64 p.ep, .slice o1 (List.length l1) k1, .slice o2 (List.length l2) k2, .slice o3 (List.length l3) k3, .slice o4 (List.length l4) k4, .slice o5 (List.length l5) k5, .int .i64 p.dp, .int .i64 p.nd, .int .i64 p.bt], .slice pv nv cv] wx fun e w' => e = .returned (.bool (Saf.safeB p ns)) ∧ BoxP w #[.int .i64 p.ep, .slice o1 (List.length l1) k1, .slice o2 (List.length l2) k2, .slice o3 (List.length l3) k3, .slice o4 (List.length l4) k4, .slice o5 (List.length l5) k5, .int .i64 p.dp, .int .i64 p.nd, .int .i64 p.bt] w') := hide (fun hf hn wx h => (rsafe_any _ _ _ _ _ p _ _ _ _ _ _ ns wx (HV.out.below h.2) hf (HK.out.below h.2) hn).mono fun _ w' ⟨h1, h2⟩ => ⟨h1, h.keep h2⟩)
  generalize Saf.safeB p ns = r at C1 C2
  have q1 : (r == r) = true := by cases r <;> rfl
  clear hS HV HK
  go_enter Tryz.func3, Tryz.ntmps3
  go_upto_region 1 with fail
  rw [← hw1]
  clear hw1
  go_wp2_with fail
  refine (CW.out _ H1.out).mono ?_
  rintro e w2 ⟨rfl, h2⟩
  have H2 := hide h2
  clear h2 CW H1
  obtain ⟨y0, y1, y2, y3, y4, y5, y6, y7, y8, -⟩ := SK.out w2 H2.out
  go_wp2_with fail
  refine (CL.out _ H2.out).mono ?_
  rintro e w3 ⟨⟨b1, rfl, hb1⟩, h3⟩
  have H3 := hide h3
  have HB1 := hide hb1
  clear h3 hb1 CL H2 y0 y1 y2 y3 y4 y5 y6 y7 y8
  go_wp2_with fail
  refine (CM.out _ H3.out).mono ?_
  rintro e w4 ⟨⟨b2, rfl, hb2⟩, h4⟩
  have H4 := hide h4
  have HB2 := hide hb2
  clear h4 hb2 CM H3
  cases b1 with
  | false =>
    go_wp2_with fail
    go_ret
    exact ⟨rfl, H4.out.2⟩
  | true =>
    cases b2 with
    | false =>
      go_wp2_with fail
      go_ret
      exact ⟨rfl, H4.out.2⟩
    | true =>
      have K1 := hide (C1.out (light_fits (HB1.out rfl)) (HB2.out rfl))
      have K2 := hide (C2.out (light_fits (HB1.out rfl)) (HB2.out rfl))
      clear C1 C2 HB1 HB2
      go_wp2_with fail
      go_region_held3 (fun wx => wx.cell? ⟨w.heap.size, 0, none⟩ = some (.int .i64 p.ep) ∧ wx.cell? ⟨w.heap.size, 1, none⟩ = some (.slice o1 (List.length l1) k1) ∧ wx.cell? ⟨w.heap.size, 2, none⟩ = some (.slice o2 (List.length l2) k2) ∧ wx.cell? ⟨w.heap.size, 3, none⟩ = some (.slice o3 (List.length l3) k3) ∧ wx.cell? ⟨w.heap.size, 4, none⟩ = some (.slice o4 (List.length l4) k4) ∧ wx.cell? ⟨w.heap.size, 5, none⟩ = some (.slice o5 (List.length l5) k5) ∧ wx.cell? ⟨w.heap.size, 6, none⟩ = some (.int .i64 p.dp) ∧ wx.cell? ⟨w.heap.size, 7, none⟩ = some (.int .i64 p.nd) ∧ wx.cell? ⟨w.heap.size, 8, none⟩ = some (.int .i64 p.bt) ∧ Hid (BoxP w #[.int .i64 p.ep, .slice o1 (List.length l1) k1, .slice o2 (List.length l2) k2, .slice o3 (List.length l3) k3, .slice o4 (List.length l4) k4, .slice o5 (List.length l5) k5, .int .i64 p.dp, .int .i64 p.nd, .int .i64 p.bt] wx))
        (first | exact SK.out _ (H4.out.keep ((Below.refl _ _).drew)) | exact SK.out _ (by assumption))
        (first
          | (go_at_call 8; refine (K1.out _ (SB.out _ (by assumption))).mono ?_; rintro e w6 ⟨rfl, h6⟩)
          | (go_at_call 9; refine (K2.out _ (SB.out _ (by assumption))).mono ?_; rintro e w6 ⟨rfl, h6⟩))
      all_goals
        have H7 := hide (SB.out _ (by assumption))
        go_wp2_with fail
        go_ret
        exact ⟨rfl, H7.out.2⟩
end Go.Proofs.YtbcadeikdmlpoaaGreatDoor
