/-
  The law SafeValues.
-/
import Derived.Test.YtbcadeikdmlpoaaDoorSLX
import Derived.Test.YtbcadeikdmlpoaaDoorSDX
namespace Go.Proofs.YtbcadeikdmlpoaaDoor
open Go.RowKit
open Utf1 Pol8

set_option maxRecDepth 100000 in
set_option maxHeartbeats 32000000 in
theorem lawValues_walk (hS : SafeC) (hA : ValueC) (hP : PlaceC) (v1 v2 v3 v4 v5 : Value) (p : Pol) (l1 l2 l3 l4 l5 : List ByteArray) (e n x : ByteArray) (w : World) (hv : PolV w v1 v2 v3 v4 v5 p l1 l2 l3 l4 l5) :
    Calls Tryd.prog 3 #[pval p v1 v2 v3 v4 v5, .string e, .agg #[.string n, .string x]] w fun r w' => r = .returned (.bool true) ∧ Below w.heap.size w w' := by
  have HV := hide hv
  obtain ⟨o1, k1, rfl, -, -⟩ := hv.s1
  obtain ⟨o2, k2, rfl, -, -⟩ := hv.s2
  obtain ⟨o3, k3, rfl, -, -⟩ := hv.s3
  obtain ⟨o4, k4, rfl, -, -⟩ := hv.s4
  obtain ⟨o5, k5, rfl, -, -⟩ := hv.s5
  clear hv
  obtain ⟨w1, hw1⟩ : ∃ w1, w1 = (w.alloc (.cells #[.int .i64 p.ep, .slice o1 (List.length l1) k1, .slice o2 (List.length l2) k2, .slice o3 (List.length l3) k3, .slice o4 (List.length l4) k4, .slice o5 (List.length l5) k5, .int .i64 p.dp, .int .i64 p.nd, .int .i64 p.bt] 24)).alloc (.cells #[.string n, .string x] 26) := ⟨_, rfl⟩
  have H1 : Hid (BoxV w #[.int .i64 p.ep, .slice o1 (List.length l1) k1, .slice o2 (List.length l2) k2, .slice o3 (List.length l3) k3, .slice o4 (List.length l4) k4, .slice o5 (List.length l5) k5, .int .i64 p.dp, .int .i64 p.nd, .int .i64 p.bt] #[.string n, .string x] w1) := hide (by rw [hw1]; exact BoxV.new _ _ _)
  have SK : Hid (∀ wx, BoxV w #[.int .i64 p.ep, .slice o1 (List.length l1) k1, .slice o2 (List.length l2) k2, .slice o3 (List.length l3) k3, .slice o4 (List.length l4) k4, .slice o5 (List.length l5) k5, .int .i64 p.dp, .int .i64 p.nd, .int .i64 p.bt] #[.string n, .string x] wx → wx.cell? ⟨w.heap.size, 0, none⟩ = some (.int .i64 p.ep) ∧ wx.cell? ⟨w.heap.size, 1, none⟩ = some (.slice o1 (List.length l1) k1) ∧ wx.cell? ⟨w.heap.size, 2, none⟩ = some (.slice o2 (List.length l2) k2) ∧ wx.cell? ⟨w.heap.size, 3, none⟩ = some (.slice o3 (List.length l3) k3) ∧ wx.cell? ⟨w.heap.size, 4, none⟩ = some (.slice o4 (List.length l4) k4) ∧ wx.cell? ⟨w.heap.size, 5, none⟩ = some (.slice o5 (List.length l5) k5) ∧ wx.cell? ⟨w.heap.size, 6, none⟩ = some (.int .i64 p.dp) ∧ wx.cell? ⟨w.heap.size, 7, none⟩ = some (.int .i64 p.nd) ∧ wx.cell? ⟨w.heap.size, 8, none⟩ = some (.int .i64 p.bt) ∧ wx.cell? ⟨w.heap.size + 1, 0, none⟩ = some (.string n) ∧ wx.cell? ⟨w.heap.size + 1, 1, none⟩ = some (.string x) ∧ Hid (BoxV w #[.int .i64 p.ep, .slice o1 (List.length l1) k1, .slice o2 (List.length l2) k2, .slice o3 (List.length l3) k3, .slice o4 (List.length l4) k4, .slice o5 (List.length l5) k5, .int .i64 p.dp, .int .i64 p.nd, .int .i64 p.bt] #[.string n, .string x] wx)) := hide (fun wx h => ⟨h.a 0 _ rfl, h.a 1 _ rfl, h.a 2 _ rfl, h.a 3 _ rfl, h.a 4 _ rfl, h.a 5 _ rfl, h.a 6 _ rfl, h.a 7 _ rfl, h.a 8 _ rfl, h.b 0 _ rfl, h.b 1 _ rfl, hide h⟩)
  have SB : Hid (∀ wx, (wx.cell? ⟨w.heap.size, 0, none⟩ = some (.int .i64 p.ep) ∧ wx.cell? ⟨w.heap.size, 1, none⟩ = some (.slice o1 (List.length l1) k1) ∧ wx.cell? ⟨w.heap.size, 2, none⟩ = some (.slice o2 (List.length l2) k2) ∧ wx.cell? ⟨w.heap.size, 3, none⟩ = some (.slice o3 (List.length l3) k3) ∧ wx.cell? ⟨w.heap.size, 4, none⟩ = some (.slice o4 (List.length l4) k4) ∧ wx.cell? ⟨w.heap.size, 5, none⟩ = some (.slice o5 (List.length l5) k5) ∧ wx.cell? ⟨w.heap.size, 6, none⟩ = some (.int .i64 p.dp) ∧ wx.cell? ⟨w.heap.size, 7, none⟩ = some (.int .i64 p.nd) ∧ wx.cell? ⟨w.heap.size, 8, none⟩ = some (.int .i64 p.bt) ∧ wx.cell? ⟨w.heap.size + 1, 0, none⟩ = some (.string n) ∧ wx.cell? ⟨w.heap.size + 1, 1, none⟩ = some (.string x) ∧ Hid (BoxV w #[.int .i64 p.ep, .slice o1 (List.length l1) k1, .slice o2 (List.length l2) k2, .slice o3 (List.length l3) k3, .slice o4 (List.length l4) k4, .slice o5 (List.length l5) k5, .int .i64 p.dp, .int .i64 p.nd, .int .i64 p.bt] #[.string n, .string x] wx)) → BoxV w #[.int .i64 p.ep, .slice o1 (List.length l1) k1, .slice o2 (List.length l2) k2, .slice o3 (List.length l3) k3, .slice o4 (List.length l4) k4, .slice o5 (List.length l5) k5, .int .i64 p.dp, .int .i64 p.nd, .int .i64 p.bt] #[.string n, .string x] wx) := hide (fun wx h => h.2.2.2.2.2.2.2.2.2.2.2.out)
  have CW : Hid (∀ wx, BoxV w #[.int .i64 p.ep, .slice o1 (List.length l1) k1, .slice o2 (List.length l2) k2, .slice o3 (List.length l3) k3, .slice o4 (List.length l4) k4, .slice o5 (List.length l5) k5, .int .i64 p.dp, .int .i64 p.nd, .int .i64 p.bt] #[.string n, .string x] wx → Calls Tryd.prog 7 #[] wx fun e w' => e = .returned (.bool true) ∧ BoxV w #[.int .i64 p.ep, .slice o1 (List.length l1) k1, .slice o2 (List.length l2) k2, .slice o3 (List.length l3) k3, .slice o4 (List.length l4) k4, .slice o5 (List.length l5) k5, .int .i64 p.dp, .int .i64 p.nd, .int .i64 p.bt] #[.string n, .string x] w') := hide (fun wx h => (awake_any hS wx).mono fun _ w' ⟨h1, h2⟩ => ⟨h1, h.keep h2⟩)
  have CL : Hid (∀ wx, BoxV w #[.int .i64 p.ep, .slice o1 (List.length l1) k1, .slice o2 (List.length l2) k2, .slice o3 (List.length l3) k3, .slice o4 (List.length l4) k4, .slice o5 (List.length l5) k5, .int .i64 p.dp, .int .i64 p.nd, .int .i64 p.bt] #[.string n, .string x] wx → Calls Tryd.prog 8 #[.agg #[.int .i64 p.ep, .slice o1 (List.length l1) k1, .slice o2 (List.length l2) k2, .slice o3 (List.length l3) k3, .slice o4 (List.length l4) k4, .slice o5 (List.length l5) k5, .int .i64 p.dp, .int .i64 p.nd, .int .i64 p.bt]] wx fun e w' => (∃ b : Bool, e = .returned (.bool b) ∧ (b = true → light p)) ∧ BoxV w #[.int .i64 p.ep, .slice o1 (List.length l1) k1, .slice o2 (List.length l2) k2, .slice o3 (List.length l3) k3, .slice o4 (List.length l4) k4, .slice o5 (List.length l5) k5, .int .i64 p.dp, .int .i64 p.nd, .int .i64 p.bt] #[.string n, .string x] w') := hide (fun wx h => (rlight_any _ _ _ _ _ p _ _ _ _ _ wx (HV.out.below h.2.2)).mono fun _ w' ⟨h1, h2⟩ => ⟨h1, h.keep h2⟩)
  have C1 : Hid (fits p → e.size ≤ 100000 → n.size ≤ 100000 → x.size ≤ 90000 → ∀ wx, BoxV w #[.int .i64 p.ep, .slice o1 (List.length l1) k1, .slice o2 (List.length l2) k2, .slice o3 (List.length l3) k3, .slice o4 (List.length l4) k4, .slice o5 (List.length l5) k5, .int .i64 p.dp, .int .i64 p.nd, .int .i64 p.bt] #[.string n, .string x] wx → Calls Tryd.prog 9 #[.agg #[.int .i64 p.ep, .slice o1 (List.length l1) k1, .slice o2 (List.length l2) k2, .slice o3 (List.length l3) k3, .slice o4 (List.length l4) k4, .slice o5 (List.length l5) k5, .int .i64 p.dp, .int .i64 p.nd, .int .i64 p.bt], .string e, .agg #[.string n, .string x]] wx fun r w' => r = .returned (.bool (Saf.valueB p (bl e) (bl n) (bl x))) ∧ BoxV w #[.int .i64 p.ep, .slice o1 (List.length l1) k1, .slice o2 (List.length l2) k2, .slice o3 (List.length l3) k3, .slice o4 (List.length l4) k4, .slice o5 (List.length l5) k5, .int .i64 p.dp, .int .i64 p.nd, .int .i64 p.bt] #[.string n, .string x] w') := hide (fun hf h1 h2 h3 wx h => (hA _ _ _ _ _ p _ _ _ _ _ e n x wx (HV.out.below h.2.2) hf h1 h2 h3).mono fun _ w' ⟨h1, h2⟩ => ⟨h1, h.keep h2⟩)
  have C2 : Hid (fits p → e.size ≤ 100000 → n.size ≤ 100000 → x.size ≤ 90000 → ∀ wx, BoxV w #[.int .i64 p.ep, .slice o1 (List.length l1) k1, .slice o2 (List.length l2) k2, .slice o3 (List.length l3) k3, .slice o4 (List.length l4) k4, .slice o5 (List.length l5) k5, .int .i64 p.dp, .int .i64 p.nd, .int .i64 p.bt] #[.string n, .string x] wx → Calls Tryd.prog 10 #[.agg #[.int .i64 p.ep, .slice o1 (List.length l1) k1, .slice o2 (List.length l2) k2, .slice o3 (List.length l3) k3, .slice o4 (List.length l4) k4, .slice o5 (List.length l5) k5, .int .i64 p.dp, .int .i64 p.nd, .int .i64 p.bt], .string e, .agg #[.string n, .string x]] wx fun r w' => r = .returned (.bool (Saf.valueB p (bl e) (bl n) (bl x))) ∧ BoxV w #[.int .i64 p.ep, .slice o1 (List.length l1) k1, .slice o2 (List.length l2) k2, .slice o3 (List.length l3) k3, .slice o4 (List.length l4) k4, .slice o5 (List.length l5) k5, .int .i64 p.dp, .int .i64 p.nd, .int .i64 p.bt] #[.string n, .string x] w') := hide (fun hf h1 h2 h3 wx h => (rvalue_any _ _ _ _ _ p _ _ _ _ _ e n x wx (HV.out.below h.2.2) hf h1 h2 h3).mono fun _ w' ⟨h1, h2⟩ => ⟨h1, h.keep h2⟩)
  have C3 : Hid (n.size ≤ 100000 → ∀ wx, BoxV w #[.int .i64 p.ep, .slice o1 (List.length l1) k1, .slice o2 (List.length l2) k2, .slice o3 (List.length l3) k3, .slice o4 (List.length l4) k4, .slice o5 (List.length l5) k5, .int .i64 p.dp, .int .i64 p.nd, .int .i64 p.bt] #[.string n, .string x] wx → Calls Tryd.prog 11 #[.string n] wx fun r w' => r = .returned (.bool (Saf.placeB (bl n))) ∧ BoxV w #[.int .i64 p.ep, .slice o1 (List.length l1) k1, .slice o2 (List.length l2) k2, .slice o3 (List.length l3) k3, .slice o4 (List.length l4) k4, .slice o5 (List.length l5) k5, .int .i64 p.dp, .int .i64 p.nd, .int .i64 p.bt] #[.string n, .string x] w') := hide (fun h1 wx h => (hP n wx h1).mono fun _ w' ⟨h1, h2⟩ => ⟨h1, h.keep h2⟩)
  have C4 : Hid (∀ wx, BoxV w #[.int .i64 p.ep, .slice o1 (List.length l1) k1, .slice o2 (List.length l2) k2, .slice o3 (List.length l3) k3, .slice o4 (List.length l4) k4, .slice o5 (List.length l5) k5, .int .i64 p.dp, .int .i64 p.nd, .int .i64 p.bt] #[.string n, .string x] wx → Calls Tryd.prog 12 #[.string n] wx fun r w' => r = .returned (.bool (Saf.placeB (bl n))) ∧ BoxV w #[.int .i64 p.ep, .slice o1 (List.length l1) k1, .slice o2 (List.length l2) k2, .slice o3 (List.length l3) k3, .slice o4 (List.length l4) k4, .slice o5 (List.length l5) k5, .int .i64 p.dp, .int .i64 p.nd, .int .i64 p.bt] #[.string n, .string x] w') := hide (fun wx h => (rplace_any n wx).mono fun _ w' ⟨h1, h2⟩ => ⟨h1, h.keep h2⟩)
  generalize Saf.valueB p (bl e) (bl n) (bl x) = r1 at C1 C2
  generalize Saf.placeB (bl n) = r2 at C3 C4
  have q1 : (r1 == r1) = true := by cases r1 <;> rfl
  have q2 : (r2 == r2) = true := by cases r2 <;> rfl
  clear hS hA hP HV
  go_enter Tryd.func3, Tryd.ntmps3
  go_upto_region 1 with fail
  rw [← hw1]
  clear hw1
  go_wp2_with fail
  refine (CW.out _ H1.out).mono ?_
  rintro r w2 ⟨rfl, h2⟩
  have H2 := hide h2
  clear h2 CW H1
  obtain ⟨y0, y1, y2, y3, y4, y5, y6, y7, y8, z0, z1, -⟩ := SK.out w2 H2.out
  go_wp2_with fail
  refine (CL.out _ H2.out).mono ?_
  rintro r w3 ⟨⟨b1, rfl, hb1⟩, h3⟩
  have H3 := hide h3
  have HB1 := hide hb1
  clear h3 hb1 CL H2 y0 y1 y2 y3 y4 y5 y6 y7 y8 z0 z1
  obtain ⟨y0, y1, y2, y3, y4, y5, y6, y7, y8, z0, z1, -⟩ := SK.out w3 H3.out
  cases b1 with
  | false =>
    go_wp2_with fail
    go_ret
    exact ⟨rfl, H3.out.2.2⟩
  | true =>
    by_cases s1 : e.size ≤ 200
    · by_cases s2 : n.size ≤ 200
      · by_cases s3 : x.size ≤ 2000
        · have K1 := hide (C1.out (light_fits (HB1.out rfl)) (by omega) (by omega) (by omega))
          have K2 := hide (C2.out (light_fits (HB1.out rfl)) (by omega) (by omega) (by omega))
          have K3 := hide (C3.out (by omega))
          clear C1 C2 C3 HB1
          go_wp2_with fail
          clear y0 y1 y2 y3 y4 y5 y6 y7 y8 z0 z1
          go_region_held3 (fun wx => wx.cell? ⟨w.heap.size, 0, none⟩ = some (.int .i64 p.ep) ∧ wx.cell? ⟨w.heap.size, 1, none⟩ = some (.slice o1 (List.length l1) k1) ∧ wx.cell? ⟨w.heap.size, 2, none⟩ = some (.slice o2 (List.length l2) k2) ∧ wx.cell? ⟨w.heap.size, 3, none⟩ = some (.slice o3 (List.length l3) k3) ∧ wx.cell? ⟨w.heap.size, 4, none⟩ = some (.slice o4 (List.length l4) k4) ∧ wx.cell? ⟨w.heap.size, 5, none⟩ = some (.slice o5 (List.length l5) k5) ∧ wx.cell? ⟨w.heap.size, 6, none⟩ = some (.int .i64 p.dp) ∧ wx.cell? ⟨w.heap.size, 7, none⟩ = some (.int .i64 p.nd) ∧ wx.cell? ⟨w.heap.size, 8, none⟩ = some (.int .i64 p.bt) ∧ wx.cell? ⟨w.heap.size + 1, 0, none⟩ = some (.string n) ∧ wx.cell? ⟨w.heap.size + 1, 1, none⟩ = some (.string x) ∧ Hid (BoxV w #[.int .i64 p.ep, .slice o1 (List.length l1) k1, .slice o2 (List.length l2) k2, .slice o3 (List.length l3) k3, .slice o4 (List.length l4) k4, .slice o5 (List.length l5) k5, .int .i64 p.dp, .int .i64 p.nd, .int .i64 p.bt] #[.string n, .string x] wx))
            (first | exact SK.out _ (H3.out.keep ((Below.refl _ _).drew)) | exact SK.out _ (by assumption))
            (first
              | (go_at_call 9; refine (K1.out _ (SB.out _ (by assumption))).mono ?_; rintro e w6 ⟨rfl, h6⟩)
              | (go_at_call 10; refine (K2.out _ (SB.out _ (by assumption))).mono ?_; rintro e w6 ⟨rfl, h6⟩)
              | (go_at_call 11; refine (K3.out _ (SB.out _ (by assumption))).mono ?_; rintro e w6 ⟨rfl, h6⟩)
              | (go_at_call 12; refine (C4.out _ (SB.out _ (by assumption))).mono ?_; rintro e w6 ⟨rfl, h6⟩))
          all_goals
            have H7 := hide (SB.out _ (by assumption))
            go_wp2_with fail
            go_ret
            exact ⟨rfl, H7.out.2.2⟩
        · go_wp2_with fail
          go_ret
          exact ⟨rfl, H3.out.2.2⟩
      · go_wp2_with fail
        go_ret
        exact ⟨rfl, H3.out.2.2⟩
    · go_wp2_with fail
      go_ret
      exact ⟨rfl, H3.out.2.2⟩
end Go.Proofs.YtbcadeikdmlpoaaDoor
