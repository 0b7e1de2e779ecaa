/-
  The law SafeStricter.
-/
import Derived.Test.YtbcadeikdmlpoaaGreatDoorPD
import Derived.Test.YtbcadeikdmlpoaaGreatDoorQ10
import Derived.Test.YtbcadeikdmlpoaaGreatDoorSLX
import Derived.Test.YtbcadeikdmlpoaaGreatDoorN12
namespace Go.Proofs.YtbcadeikdmlpoaaGreatDoor
open Go.RowKit
open Utf1 Pol8

set_option maxRecDepth 100000 in
set_option maxHeartbeats 16000000 in
theorem lawSStricter_walk (hS : SafeC) (hR : RightC) (hT : StricterC) (v1 v2 v3 v4 v5 u1 u2 u3 u4 u5 : Value) (p q : Pol) (l1 l2 l3 l4 l5 m1 m2 m3 m4 m5 : List ByteArray) (v : Value) (ns : List Nd) (w : World) (hv : PolV w v1 v2 v3 v4 v5 p l1 l2 l3 l4 l5) (hu : PolV w u1 u2 u3 u4 u5 q m1 m2 m3 m4 m5) (hk : Dm.NAt w v ns) :
    Calls Tryz.prog 4 #[pval p v1 v2 v3 v4 v5, pval q u1 u2 u3 u4 u5, v] w fun e w' => e = .returned (.bool true) ∧ Below w.heap.size w w' := by
  have HV := hide hv
  have HQ := hide hu
  have HK := hide hk
  obtain ⟨pv, nv, cv, rfl⟩ : ∃ pv nv cv, v = .slice pv nv cv := by
    obtain ⟨D, hD⟩ := hk
    cases D with
    | zero => exact hD.elim
    | succ D =>
      obtain ⟨pv, cv, e, -⟩ := hD
      exact ⟨pv, _, cv, e⟩
  obtain ⟨o1, k1, rfl, -, -⟩ := hv.s1
  obtain ⟨o2, k2, rfl, -, -⟩ := hv.s2
  obtain ⟨o3, k3, rfl, -, -⟩ := hv.s3
  obtain ⟨o4, k4, rfl, -, -⟩ := hv.s4
  obtain ⟨o5, k5, rfl, -, -⟩ := hv.s5
  obtain ⟨i1, j1, rfl, -, -⟩ := hu.s1
  obtain ⟨i2, j2, rfl, -, -⟩ := hu.s2
  obtain ⟨i3, j3, rfl, -, -⟩ := hu.s3
  obtain ⟨i4, j4, rfl, -, -⟩ := hu.s4
  obtain ⟨i5, j5, rfl, -, -⟩ := hu.s5
  clear hv hk hu
  obtain ⟨w1, hw1⟩ : ∃ w1, w1 = (w.alloc (.cells #[.int .i64 p.ep, .slice o1 (List.length l1) k1, .slice o2 (List.length l2) k2, .slice o3 (List.length l3) k3, .slice o4 (List.length l4) k4, .slice o5 (List.length l5) k5, .int .i64 p.dp, .int .i64 p.nd, .int .i64 p.bt] 24)).alloc (.cells #[.int .i64 q.ep, .slice i1 (List.length m1) j1, .slice i2 (List.length m2) j2, .slice i3 (List.length m3) j3, .slice i4 (List.length m4) j4, .slice i5 (List.length m5) j5, .int .i64 q.dp, .int .i64 q.nd, .int .i64 q.bt] 24) := ⟨_, rfl⟩
  have H1 : Hid (BoxQ w #[.int .i64 p.ep, .slice o1 (List.length l1) k1, .slice o2 (List.length l2) k2, .slice o3 (List.length l3) k3, .slice o4 (List.length l4) k4, .slice o5 (List.length l5) k5, .int .i64 p.dp, .int .i64 p.nd, .int .i64 p.bt] #[.int .i64 q.ep, .slice i1 (List.length m1) j1, .slice i2 (List.length m2) j2, .slice i3 (List.length m3) j3, .slice i4 (List.length m4) j4, .slice i5 (List.length m5) j5, .int .i64 q.dp, .int .i64 q.nd, .int .i64 q.bt] w1) := hide (by rw [hw1]; exact BoxQ.new _ _ _)
  have SK : Hid (∀ wx, BoxQ w #[.int .i64 p.ep, .slice o1 (List.length l1) k1, .slice o2 (List.length l2) k2, .slice o3 (List.length l3) k3, .slice o4 (List.length l4) k4, .slice o5 (List.length l5) k5, .int .i64 p.dp, .int .i64 p.nd, .int .i64 p.bt] #[.int .i64 q.ep, .slice i1 (List.length m1) j1, .slice i2 (List.length m2) j2, .slice i3 (List.length m3) j3, .slice i4 (List.length m4) j4, .slice i5 (List.length m5) j5, .int .i64 q.dp, .int .i64 q.nd, .int .i64 q.bt] wx → wx.cell? ⟨w.heap.size, 0, none⟩ = some (.int .i64 p.ep) ∧ wx.cell? ⟨w.heap.size, 1, none⟩ = some (.slice o1 (List.length l1) k1) ∧ wx.cell? ⟨w.heap.size, 2, none⟩ = some (.slice o2 (List.length l2) k2) ∧ wx.cell? ⟨w.heap.size, 3, none⟩ = some (.slice o3 (List.length l3) k3) ∧ wx.cell? ⟨w.heap.size, 4, none⟩ = some (.slice o4 (List.length l4) k4) ∧ wx.cell? ⟨w.heap.size, 5, none⟩ = some (.slice o5 (List.length l5) k5) ∧ wx.cell? ⟨w.heap.size, 6, none⟩ = some (.int .i64 p.dp) ∧ wx.cell? ⟨w.heap.size, 7, none⟩ = some (.int .i64 p.nd) ∧ wx.cell? ⟨w.heap.size, 8, none⟩ = some (.int .i64 p.bt) ∧ wx.cell? ⟨w.heap.size + 1, 0, none⟩ = some (.int .i64 q.ep) ∧ wx.cell? ⟨w.heap.size + 1, 1, none⟩ = some (.slice i1 (List.length m1) j1) ∧ wx.cell? ⟨w.heap.size + 1, 2, none⟩ = some (.slice i2 (List.length m2) j2) ∧ wx.cell? ⟨w.heap.size + 1, 3, none⟩ = some (.slice i3 (List.length m3) j3) ∧ wx.cell? ⟨w.heap.size + 1, 4, none⟩ = some (.slice i4 (List.length m4) j4) ∧ wx.cell? ⟨w.heap.size + 1, 5, none⟩ = some (.slice i5 (List.length m5) j5) ∧ wx.cell? ⟨w.heap.size + 1, 6, none⟩ = some (.int .i64 q.dp) ∧ wx.cell? ⟨w.heap.size + 1, 7, none⟩ = some (.int .i64 q.nd) ∧ wx.cell? ⟨w.heap.size + 1, 8, none⟩ = some (.int .i64 q.bt)) := hide (fun wx h => ⟨h.a 0 _ rfl, h.a 1 _ rfl, h.a 2 _ rfl, h.a 3 _ rfl, h.a 4 _ rfl, h.a 5 _ rfl, h.a 6 _ rfl, h.a 7 _ rfl, h.a 8 _ rfl, h.b 0 _ rfl, h.b 1 _ rfl, h.b 2 _ rfl, h.b 3 _ rfl, h.b 4 _ rfl, h.b 5 _ rfl, h.b 6 _ rfl, h.b 7 _ rfl, h.b 8 _ rfl⟩)
  have CW : Hid (∀ wx, BoxQ w #[.int .i64 p.ep, .slice o1 (List.length l1) k1, .slice o2 (List.length l2) k2, .slice o3 (List.length l3) k3, .slice o4 (List.length l4) k4, .slice o5 (List.length l5) k5, .int .i64 p.dp, .int .i64 p.nd, .int .i64 p.bt] #[.int .i64 q.ep, .slice i1 (List.length m1) j1, .slice i2 (List.length m2) j2, .slice i3 (List.length m3) j3, .slice i4 (List.length m4) j4, .slice i5 (List.length m5) j5, .int .i64 q.dp, .int .i64 q.nd, .int .i64 q.bt] wx → Calls Tryz.prog 5 #[] wx fun e w' => e = .returned (.bool true) ∧ BoxQ w #[.int .i64 p.ep, .slice o1 (List.length l1) k1, .slice o2 (List.length l2) k2, .slice o3 (List.length l3) k3, .slice o4 (List.length l4) k4, .slice o5 (List.length l5) k5, .int .i64 p.dp, .int .i64 p.nd, .int .i64 p.bt] #[.int .i64 q.ep, .slice i1 (List.length m1) j1, .slice i2 (List.length m2) j2, .slice i3 (List.length m3) j3, .slice i4 (List.length m4) j4, .slice i5 (List.length m5) j5, .int .i64 q.dp, .int .i64 q.nd, .int .i64 q.bt] w') := hide (fun wx h => (awake_any hS wx).mono fun _ w' ⟨h1, h2⟩ => ⟨h1, h.keep h2⟩)
  have CL : Hid (∀ wx, BoxQ w #[.int .i64 p.ep, .slice o1 (List.length l1) k1, .slice o2 (List.length l2) k2, .slice o3 (List.length l3) k3, .slice o4 (List.length l4) k4, .slice o5 (List.length l5) k5, .int .i64 p.dp, .int .i64 p.nd, .int .i64 p.bt] #[.int .i64 q.ep, .slice i1 (List.length m1) j1, .slice i2 (List.length m2) j2, .slice i3 (List.length m3) j3, .slice i4 (List.length m4) j4, .slice i5 (List.length m5) j5, .int .i64 q.dp, .int .i64 q.nd, .int .i64 q.bt] wx → Calls Tryz.prog 6 #[.agg #[.int .i64 p.ep, .slice o1 (List.length l1) k1, .slice o2 (List.length l2) k2, .slice o3 (List.length l3) k3, .slice o4 (List.length l4) k4, .slice o5 (List.length l5) k5, .int .i64 p.dp, .int .i64 p.nd, .int .i64 p.bt]] wx fun e w' => (∃ b : Bool, e = .returned (.bool b) ∧ (b = true → light p)) ∧ BoxQ w #[.int .i64 p.ep, .slice o1 (List.length l1) k1, .slice o2 (List.length l2) k2, .slice o3 (List.length l3) k3, .slice o4 (List.length l4) k4, .slice o5 (List.length l5) k5, .int .i64 p.dp, .int .i64 p.nd, .int .i64 p.bt] #[.int .i64 q.ep, .slice i1 (List.length m1) j1, .slice i2 (List.length m2) j2, .slice i3 (List.length m3) j3, .slice i4 (List.length m4) j4, .slice i5 (List.length m5) j5, .int .i64 q.dp, .int .i64 q.nd, .int .i64 q.bt] w') := hide (fun wx h => (rlight_any _ _ _ _ _ p _ _ _ _ _ wx (HV.out.below h.2.2)).mono fun _ w' ⟨h1, h2⟩ => ⟨h1, h.keep h2⟩)
  have CN : Hid (∀ wx, BoxQ w #[.int .i64 p.ep, .slice o1 (List.length l1) k1, .slice o2 (List.length l2) k2, .slice o3 (List.length l3) k3, .slice o4 (List.length l4) k4, .slice o5 (List.length l5) k5, .int .i64 p.dp, .int .i64 p.nd, .int .i64 p.bt] #[.int .i64 q.ep, .slice i1 (List.length m1) j1, .slice i2 (List.length m2) j2, .slice i3 (List.length m3) j3, .slice i4 (List.length m4) j4, .slice i5 (List.length m5) j5, .int .i64 q.dp, .int .i64 q.nd, .int .i64 q.bt] wx → Calls Tryz.prog 6 #[.agg #[.int .i64 q.ep, .slice i1 (List.length m1) j1, .slice i2 (List.length m2) j2, .slice i3 (List.length m3) j3, .slice i4 (List.length m4) j4, .slice i5 (List.length m5) j5, .int .i64 q.dp, .int .i64 q.nd, .int .i64 q.bt]] wx fun e w' => (∃ b : Bool, e = .returned (.bool b) ∧ (b = true → light q)) ∧ BoxQ w #[.int .i64 p.ep, .slice o1 (List.length l1) k1, .slice o2 (List.length l2) k2, .slice o3 (List.length l3) k3, .slice o4 (List.length l4) k4, .slice o5 (List.length l5) k5, .int .i64 p.dp, .int .i64 p.nd, .int .i64 p.bt] #[.int .i64 q.ep, .slice i1 (List.length m1) j1, .slice i2 (List.length m2) j2, .slice i3 (List.length m3) j3, .slice i4 (List.length m4) j4, .slice i5 (List.length m5) j5, .int .i64 q.dp, .int .i64 q.nd, .int .i64 q.bt] w') := hide (fun wx h => (rlight_any _ _ _ _ _ q _ _ _ _ _ wx (HQ.out.below h.2.2)).mono fun _ w' ⟨h1, h2⟩ => ⟨h1, h.keep h2⟩)
  have CM : Hid (∀ wx, BoxQ w #[.int .i64 p.ep, .slice o1 (List.length l1) k1, .slice o2 (List.length l2) k2, .slice o3 (List.length l3) k3, .slice o4 (List.length l4) k4, .slice o5 (List.length l5) k5, .int .i64 p.dp, .int .i64 p.nd, .int .i64 p.bt] #[.int .i64 q.ep, .slice i1 (List.length m1) j1, .slice i2 (List.length m2) j2, .slice i3 (List.length m3) j3, .slice i4 (List.length m4) j4, .slice i5 (List.length m5) j5, .int .i64 q.dp, .int .i64 q.nd, .int .i64 q.bt] wx → Calls Tryz.prog 7 #[.slice pv nv cv, .int .i64 0] wx fun e w' => (∃ b : Bool, e = .returned (.bool b) ∧ (b = true → wsL ns ≤ 20000)) ∧ BoxQ w #[.int .i64 p.ep, .slice o1 (List.length l1) k1, .slice o2 (List.length l2) k2, .slice o3 (List.length l3) k3, .slice o4 (List.length l4) k4, .slice o5 (List.length l5) k5, .int .i64 p.dp, .int .i64 p.nd, .int .i64 p.bt] #[.int .i64 q.ep, .slice i1 (List.length m1) j1, .slice i2 (List.length m2) j2, .slice i3 (List.length m3) j3, .slice i4 (List.length m4) j4, .slice i5 (List.length m5) j5, .int .i64 q.dp, .int .i64 q.nd, .int .i64 q.bt] w') := hide (fun wx h => (Dm.light_nst wx (.slice pv nv cv) ns (HK.out.below h.2.2)).mono fun _ w' ⟨b, h1, h2, h3⟩ => ⟨⟨b, h1, fun e => Nat.le_of_lt (h2 e)⟩, h.keep h3⟩)
  have R1 : Hid (fits p → ∀ wx, BoxQ w #[.int .i64 p.ep, .slice o1 (List.length l1) k1, .slice o2 (List.length l2) k2, .slice o3 (List.length l3) k3, .slice o4 (List.length l4) k4, .slice o5 (List.length l5) k5, .int .i64 p.dp, .int .i64 p.nd, .int .i64 p.bt] #[.int .i64 q.ep, .slice i1 (List.length m1) j1, .slice i2 (List.length m2) j2, .slice i3 (List.length m3) j3, .slice i4 (List.length m4) j4, .slice i5 (List.length m5) j5, .int .i64 q.dp, .int .i64 q.nd, .int .i64 q.bt] wx → Calls Tryz.prog 10 #[.agg #[.int .i64 p.ep, .slice o1 (List.length l1) k1, .slice o2 (List.length l2) k2, .slice o3 (List.length l3) k3, .slice o4 (List.length l4) k4, .slice o5 (List.length l5) k5, .int .i64 p.dp, .int .i64 p.nd, .int .i64 p.bt]] wx fun e w' => e = .returned (.bool (right p)) ∧ BoxQ w #[.int .i64 p.ep, .slice o1 (List.length l1) k1, .slice o2 (List.length l2) k2, .slice o3 (List.length l3) k3, .slice o4 (List.length l4) k4, .slice o5 (List.length l5) k5, .int .i64 p.dp, .int .i64 p.nd, .int .i64 p.bt] #[.int .i64 q.ep, .slice i1 (List.length m1) j1, .slice i2 (List.length m2) j2, .slice i3 (List.length m3) j3, .slice i4 (List.length m4) j4, .slice i5 (List.length m5) j5, .int .i64 q.dp, .int .i64 q.nd, .int .i64 q.bt] w') := hide (fun hf wx h => (hR _ _ _ _ _ p _ _ _ _ _ wx (HV.out.below h.2.2) hf).mono fun _ w' ⟨h1, h2⟩ => ⟨h1, h.keep h2⟩)
  have R2 : Hid (fits q → ∀ wx, BoxQ w #[.int .i64 p.ep, .slice o1 (List.length l1) k1, .slice o2 (List.length l2) k2, .slice o3 (List.length l3) k3, .slice o4 (List.length l4) k4, .slice o5 (List.length l5) k5, .int .i64 p.dp, .int .i64 p.nd, .int .i64 p.bt] #[.int .i64 q.ep, .slice i1 (List.length m1) j1, .slice i2 (List.length m2) j2, .slice i3 (List.length m3) j3, .slice i4 (List.length m4) j4, .slice i5 (List.length m5) j5, .int .i64 q.dp, .int .i64 q.nd, .int .i64 q.bt] wx → Calls Tryz.prog 10 #[.agg #[.int .i64 q.ep, .slice i1 (List.length m1) j1, .slice i2 (List.length m2) j2, .slice i3 (List.length m3) j3, .slice i4 (List.length m4) j4, .slice i5 (List.length m5) j5, .int .i64 q.dp, .int .i64 q.nd, .int .i64 q.bt]] wx fun e w' => e = .returned (.bool (right q)) ∧ BoxQ w #[.int .i64 p.ep, .slice o1 (List.length l1) k1, .slice o2 (List.length l2) k2, .slice o3 (List.length l3) k3, .slice o4 (List.length l4) k4, .slice o5 (List.length l5) k5, .int .i64 p.dp, .int .i64 p.nd, .int .i64 p.bt] #[.int .i64 q.ep, .slice i1 (List.length m1) j1, .slice i2 (List.length m2) j2, .slice i3 (List.length m3) j3, .slice i4 (List.length m4) j4, .slice i5 (List.length m5) j5, .int .i64 q.dp, .int .i64 q.nd, .int .i64 q.bt] w') := hide (fun hf wx h => (hR _ _ _ _ _ q _ _ _ _ _ wx (HQ.out.below h.2.2) hf).mono fun _ w' ⟨h1, h2⟩ => ⟨h1, h.keep h2⟩)
  have T1 : Hid (fits p → fits q → ∀ wx, BoxQ w #[.int .i64 p.ep, .slice o1 (List.length l1) k1, .slice o2 (List.length l2) k2, .slice o3 (List.length l3) k3, .slice o4 (List.length l4) k4, .slice o5 (List.length l5) k5, .int .i64 p.dp, .int .i64 p.nd, .int .i64 p.bt] #[.int .i64 q.ep, .slice i1 (List.length m1) j1, .slice i2 (List.length m2) j2, .slice i3 (List.length m3) j3, .slice i4 (List.length m4) j4, .slice i5 (List.length m5) j5, .int .i64 q.dp, .int .i64 q.nd, .int .i64 q.bt] wx → Calls Tryz.prog 11 #[.agg #[.int .i64 p.ep, .slice o1 (List.length l1) k1, .slice o2 (List.length l2) k2, .slice o3 (List.length l3) k3, .slice o4 (List.length l4) k4, .slice o5 (List.length l5) k5, .int .i64 p.dp, .int .i64 p.nd, .int .i64 p.bt], .agg #[.int .i64 q.ep, .slice i1 (List.length m1) j1, .slice i2 (List.length m2) j2, .slice i3 (List.length m3) j3, .slice i4 (List.length m4) j4, .slice i5 (List.length m5) j5, .int .i64 q.dp, .int .i64 q.nd, .int .i64 q.bt]] wx fun e w' => e = .returned (.bool (stricter p q)) ∧ BoxQ w #[.int .i64 p.ep, .slice o1 (List.length l1) k1, .slice o2 (List.length l2) k2, .slice o3 (List.length l3) k3, .slice o4 (List.length l4) k4, .slice o5 (List.length l5) k5, .int .i64 p.dp, .int .i64 p.nd, .int .i64 p.bt] #[.int .i64 q.ep, .slice i1 (List.length m1) j1, .slice i2 (List.length m2) j2, .slice i3 (List.length m3) j3, .slice i4 (List.length m4) j4, .slice i5 (List.length m5) j5, .int .i64 q.dp, .int .i64 q.nd, .int .i64 q.bt] w') := hide (fun hf hg wx h => (hT _ _ _ _ _ _ _ _ _ _ p q _ _ _ _ _ _ _ _ _ _ wx (HV.out.below h.2.2) (HQ.out.below h.2.2) hf hg).mono fun _ w' ⟨h1, h2⟩ => ⟨h1, h.keep h2⟩)
  have S1 : Hid (fits p → wsL ns ≤ 20000 → ∀ wx, BoxQ w #[.int .i64 p.ep, .slice o1 (List.length l1) k1, .slice o2 (List.length l2) k2, .slice o3 (List.length l3) k3, .slice o4 (List.length l4) k4, .slice o5 (List.length l5) k5, .int .i64 p.dp, .int .i64 p.nd, .int .i64 p.bt] #[.int .i64 q.ep, .slice i1 (List.length m1) j1, .slice i2 (List.length m2) j2, .slice i3 (List.length m3) j3, .slice i4 (List.length m4) j4, .slice i5 (List.length m5) j5, .int .i64 q.dp, .int .i64 q.nd, .int .i64 q.bt] wx → Calls Tryz.prog 8 #[.agg #[.int .i64 p.ep, .slice o1 (List.length l1) k1, .slice o2 (List.length l2) k2, .slice o3 (List.length l3) k3, .slice o4 (List.length l4) k4, .slice o5 (List.length l5) k5, .int .i64 p.dp, .int .i64 p.nd, .int .i64 p.bt], .slice pv nv cv] wx fun e w' => e = .returned (.bool (Saf.safeB p ns)) ∧ BoxQ w #[.int .i64 p.ep, .slice o1 (List.length l1) k1, .slice o2 (List.length l2) k2, .slice o3 (List.length l3) k3, .slice o4 (List.length l4) k4, .slice o5 (List.length l5) k5, .int .i64 p.dp, .int .i64 p.nd, .int .i64 p.bt] #[.int .i64 q.ep, .slice i1 (List.length m1) j1, .slice i2 (List.length m2) j2, .slice i3 (List.length m3) j3, .slice i4 (List.length m4) j4, .slice i5 (List.length m5) j5, .int .i64 q.dp, .int .i64 q.nd, .int .i64 q.bt] w') := hide (fun hf hn wx h => (hS _ _ _ _ _ p _ _ _ _ _ _ ns wx (HV.out.below h.2.2) hf (HK.out.below h.2.2) hn).mono fun _ w' ⟨h1, h2⟩ => ⟨h1, h.keep h2⟩)
  have S2 : Hid (fits q → wsL ns ≤ 20000 → ∀ wx, BoxQ w #[.int .i64 p.ep, .slice o1 (List.length l1) k1, .slice o2 (List.length l2) k2, .slice o3 (List.length l3) k3, .slice o4 (List.length l4) k4, .slice o5 (List.length l5) k5, .int .i64 p.dp, .int .i64 p.nd, .int .i64 p.bt] #[.int .i64 q.ep, .slice i1 (List.length m1) j1, .slice i2 (List.length m2) j2, .slice i3 (List.length m3) j3, .slice i4 (List.length m4) j4, .slice i5 (List.length m5) j5, .int .i64 q.dp, .int .i64 q.nd, .int .i64 q.bt] wx → Calls Tryz.prog 8 #[.agg #[.int .i64 q.ep, .slice i1 (List.length m1) j1, .slice i2 (List.length m2) j2, .slice i3 (List.length m3) j3, .slice i4 (List.length m4) j4, .slice i5 (List.length m5) j5, .int .i64 q.dp, .int .i64 q.nd, .int .i64 q.bt], .slice pv nv cv] wx fun e w' => e = .returned (.bool (Saf.safeB q ns)) ∧ BoxQ w #[.int .i64 p.ep, .slice o1 (List.length l1) k1, .slice o2 (List.length l2) k2, .slice o3 (List.length l3) k3, .slice o4 (List.length l4) k4, .slice o5 (List.length l5) k5, .int .i64 p.dp, .int .i64 p.nd, .int .i64 p.bt] #[.int .i64 q.ep, .slice i1 (List.length m1) j1, .slice i2 (List.length m2) j2, .slice i3 (List.length m3) j3, .slice i4 (List.length m4) j4, .slice i5 (List.length m5) j5, .int .i64 q.dp, .int .i64 q.nd, .int .i64 q.bt] w') := hide (fun hf hn wx h => (hS _ _ _ _ _ q _ _ _ _ _ _ ns wx (HQ.out.below h.2.2) hf (HK.out.below h.2.2) hn).mono fun _ w' ⟨h1, h2⟩ => ⟨h1, h.keep h2⟩)
  have HM : Hid (right p = true → stricter p q = true → Saf.safeB p ns = true → Saf.safeB q ns = true) := hide (fun h1 h2 h3 => Saf.safe_more ((right_iff p).1 h1) ((str_iff p q).1 h2) h3)
  generalize right p = r1 at R1 HM
  generalize right q = r2 at R2
  generalize stricter p q = r3 at T1 HM
  generalize Saf.safeB p ns = r4 at S1 HM
  generalize Saf.safeB q ns = r5 at S2 HM
  clear hS hR hT HV HQ HK
  go_enter Tryz.func4, Tryz.ntmps4
  go_upto_region 1 with fail
  rw [← hw1]
  clear hw1
  go_wp2_with fail
  refine (CW.out _ H1.out).mono ?_
  rintro e w2 ⟨rfl, h2⟩
  have H2 := hide h2
  clear h2 CW H1
  obtain ⟨y0, y1, y2, y3, y4, y5, y6, y7, y8, y9, y10, y11, y12, y13, y14, y15, y16, y17⟩ := SK.out w2 H2.out
  go_wp2_with fail
  refine (CL.out _ H2.out).mono ?_
  rintro e w3 ⟨⟨b1, rfl, hb1⟩, h3⟩
  have H3 := hide h3
  have HB1 := hide hb1
  clear h3 hb1 CL H2 y0 y1 y2 y3 y4 y5 y6 y7 y8 y9 y10 y11 y12 y13 y14 y15 y16 y17
  obtain ⟨y0, y1, y2, y3, y4, y5, y6, y7, y8, y9, y10, y11, y12, y13, y14, y15, y16, y17⟩ := SK.out w3 H3.out
  go_wp2_with fail
  refine (CN.out _ H3.out).mono ?_
  rintro e w4 ⟨⟨b2, rfl, hb2⟩, h4⟩
  have H4 := hide h4
  have HB2 := hide hb2
  clear h4 hb2 CN H3 y0 y1 y2 y3 y4 y5 y6 y7 y8 y9 y10 y11 y12 y13 y14 y15 y16 y17
  go_wp2_with fail
  refine (CM.out _ H4.out).mono ?_
  rintro e w5 ⟨⟨b3, rfl, hb3⟩, h5⟩
  have H5 := hide h5
  have HB3 := hide hb3
  clear h5 hb3 CM H4
  cases b1 with
  | false =>
    go_wp2_with fail
    go_ret
    exact ⟨rfl, H5.out.2.2⟩
  | true =>
  cases b2 with
  | false =>
    go_wp2_with fail
    go_ret
    exact ⟨rfl, H5.out.2.2⟩
  | true =>
  cases b3 with
  | false =>
    go_wp2_with fail
    go_ret
    exact ⟨rfl, H5.out.2.2⟩
  | true =>
  have F1 := hide (light_fits (HB1.out rfl))
  have F2 := hide (light_fits (HB2.out rfl))
  have F3 := hide (HB3.out rfl)
  have R1 := hide (R1.out F1.out)
  have R2 := hide (R2.out F2.out)
  have T1 := hide (T1.out F1.out F2.out)
  have S1 := hide (S1.out F1.out F3.out)
  have S2 := hide (S2.out F2.out F3.out)
  clear HB1 HB2 HB3 F1 F2 F3
  obtain ⟨y0, y1, y2, y3, y4, y5, y6, y7, y8, y9, y10, y11, y12, y13, y14, y15, y16, y17⟩ := SK.out w5 H5.out
  go_wp2_with fail
  refine (R1.out _ H5.out).mono ?_
  rintro e w6 ⟨rfl, h6⟩
  have H6 := hide h6
  clear h6 R1 H5 y0 y1 y2 y3 y4 y5 y6 y7 y8 y9 y10 y11 y12 y13 y14 y15 y16 y17
  obtain ⟨y0, y1, y2, y3, y4, y5, y6, y7, y8, y9, y10, y11, y12, y13, y14, y15, y16, y17⟩ := SK.out w6 H6.out
  cases r1 with
  | false =>
    go_wp2_with fail
    go_ret
    exact ⟨rfl, H6.out.2.2⟩
  | true =>
  go_wp2_with fail
  refine (R2.out _ H6.out).mono ?_
  rintro e w7 ⟨rfl, h7⟩
  have H7 := hide h7
  clear h7 R2 H6 y0 y1 y2 y3 y4 y5 y6 y7 y8 y9 y10 y11 y12 y13 y14 y15 y16 y17
  obtain ⟨y0, y1, y2, y3, y4, y5, y6, y7, y8, y9, y10, y11, y12, y13, y14, y15, y16, y17⟩ := SK.out w7 H7.out
  cases r2 with
  | false =>
    go_wp2_with fail
    go_ret
    exact ⟨rfl, H7.out.2.2⟩
  | true =>
  go_wp2_with fail
  refine (T1.out _ H7.out).mono ?_
  rintro e w8 ⟨rfl, h8⟩
  have H8 := hide h8
  clear h8 T1 H7 y0 y1 y2 y3 y4 y5 y6 y7 y8 y9 y10 y11 y12 y13 y14 y15 y16 y17
  obtain ⟨y0, y1, y2, y3, y4, y5, y6, y7, y8, y9, y10, y11, y12, y13, y14, y15, y16, y17⟩ := SK.out w8 H8.out
  cases r3 with
  | false =>
    go_wp2_with fail
    go_ret
    exact ⟨rfl, H8.out.2.2⟩
  | true =>
  go_wp2_with fail
  refine (S1.out _ H8.out).mono ?_
  rintro e w9 ⟨rfl, h9⟩
  have H9 := hide h9
  clear h9 S1 H8 y0 y1 y2 y3 y4 y5 y6 y7 y8 y9 y10 y11 y12 y13 y14 y15 y16 y17
  obtain ⟨y0, y1, y2, y3, y4, y5, y6, y7, y8, y9, y10, y11, y12, y13, y14, y15, y16, y17⟩ := SK.out w9 H9.out
  cases r4 with
  | false =>
    go_wp2_with fail
    go_ret
    exact ⟨rfl, H9.out.2.2⟩
  | true =>
  have hr5 : r5 = true := by
    have h := HM.out
    simpa using h
  subst hr5
  go_wp2_with fail
  refine (S2.out _ H9.out).mono ?_
  rintro e w10 ⟨rfl, h10⟩
  have H10 := hide h10
  clear h10 S2 H9 y0 y1 y2 y3 y4 y5 y6 y7 y8 y9 y10 y11 y12 y13 y14 y15 y16 y17
  go_wp2_with fail
  go_ret
  exact ⟨rfl, H10.out.2.2⟩
end Go.Proofs.YtbcadeikdmlpoaaGreatDoor
