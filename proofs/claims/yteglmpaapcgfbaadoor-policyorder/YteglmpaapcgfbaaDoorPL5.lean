/-
  The law PolicyOrder.
-/
import Derived.Test.YteglmpaapcgfbaaDoorPL2
import Derived.Test.YteglmpaapcgfbaaDoorR7
namespace Pol8
theorem right_dot {p : Pol} (h : Right p) {x : L} (hx : x ∈ p.at_) : (46 : UInt8) ∈ x := by
  have := h.ao x hx
  by_cases hm : (46 : UInt8) ∈ x
  · exact hm
  · unfold attrOk at this
    rw [dot_none x hm] at this
    cases this
theorem right_el {p : Pol} (h : Right p) {e : L} (he : e ∈ p.el) : (46 : UInt8) ∉ e := wc_no 46 (by decide) (words_all h.el e he)
end Pol8
namespace Go.Proofs.YteglmpaapcgfbaaDoor
open Go.RowKit
open Utf1 Pol8

/-- Three policies in their blocks. -/
def Box3P (w : World) (A B C : Array Value) (wx : World) : Prop := wx.heap[w.heap.size]? = some (.cells A 24 (0, 0)) ∧ wx.heap[w.heap.size + 1]? = some (.cells B 24 (0, 0)) ∧ wx.heap[w.heap.size + 1 + 1]? = some (.cells C 24 (0, 0)) ∧ Below w.heap.size w wx
theorem Box3P.keep {w wx wy : World} {A B C : Array Value} (h : Box3P w A B C wx) (hb : Below wx.heap.size wx wy) : Box3P w A B C wy :=
  ⟨(hb.block _ (Array.getElem?_eq_some_iff.1 h.1).1).trans h.1, (hb.block _ (Array.getElem?_eq_some_iff.1 h.2.1).1).trans h.2.1, (hb.block _ (Array.getElem?_eq_some_iff.1 h.2.2.1).1).trans h.2.2.1, h.2.2.2.trans (hb.mono h.2.2.2.size)⟩
theorem Box3P.new (w : World) (A B C : Array Value) : Box3P w A B C (((w.alloc (.cells A 24)).alloc (.cells B 24)).alloc (.cells C 24)) := by
  have h := BoxQ.new w A B
  have s2 : ((w.alloc (.cells A 24)).alloc (.cells B 24)).heap.size = w.heap.size + 1 + 1 := by simp
  have hk := h.keep (bel_alloc (Below.refl _ _) (.cells C 24))
  have k3 := new_block ((w.alloc (.cells A 24)).alloc (.cells B 24)) C 24
  rw [s2] at k3
  exact ⟨hk.1, hk.2.1, k3, hk.2.2⟩

set_option maxRecDepth 100000 in
set_option maxHeartbeats 64000000 in
theorem lawOrder_walk (hT : TextC) (hR : RightC) (hA : AttrC) (hE : ElemC) (hS : StricterC) (v1 v2 v3 v4 v5 u1 u2 u3 u4 u5 t1 t2 t3 t4 t5 : Value) (p q r : Pol) (l1 l2 l3 l4 l5 m1 m2 m3 m4 m5 n1 n2 n3 n4 n5 : List ByteArray) (w : World) (hv : PolV w v1 v2 v3 v4 v5 p l1 l2 l3 l4 l5) (hu : PolV w u1 u2 u3 u4 u5 q m1 m2 m3 m4 m5) (ht : PolV w t1 t2 t3 t4 t5 r n1 n2 n3 n4 n5) :
    Calls Tryd.prog 7 #[pval p v1 v2 v3 v4 v5, pval q u1 u2 u3 u4 u5, pval r t1 t2 t3 t4 t5] w fun e w' => e = .returned (.bool true) ∧ Below w.heap.size w w' := by
  obtain ⟨q1, c1, rfl, -, -⟩ := id hv.s1
  obtain ⟨q2, c2, rfl, -, -⟩ := id hv.s2
  obtain ⟨N1, hN1⟩ : ∃ N1, N1 = l1.length := ⟨_, rfl⟩
  obtain ⟨N2, hN2⟩ : ∃ N2, N2 = l2.length := ⟨_, rfl⟩
  rw [← hN1, ← hN2] at hv ⊢
  obtain ⟨A, hAA⟩ : ∃ A : Array Value, A = #[.int .i64 p.ep, .slice q1 N1 c1, .slice q2 N2 c2, v3, v4, v5, .int .i64 p.dp, .int .i64 p.nd, .int .i64 p.bt] := ⟨_, rfl⟩
  obtain ⟨B, hBB⟩ : ∃ B : Array Value, B = #[.int .i64 q.ep, u1, u2, u3, u4, u5, .int .i64 q.dp, .int .i64 q.nd, .int .i64 q.bt] := ⟨_, rfl⟩
  obtain ⟨C, hCC⟩ : ∃ C : Array Value, C = #[.int .i64 r.ep, t1, t2, t3, t4, t5, .int .i64 r.dp, .int .i64 r.nd, .int .i64 r.bt] := ⟨_, rfl⟩
  obtain ⟨w1, hw1⟩ : ∃ w1, w1 = ((w.alloc (.cells A 24)).alloc (.cells B 24)).alloc (.cells C 24) := ⟨_, rfl⟩
  have HN : Hid (Box3P w A B C w1) := hide (by rw [hw1]; exact Box3P.new w A B C)
  have CW : Hid (∀ wx, Box3P w A B C wx → Calls Tryd.prog 9 #[] wx fun e w' => e = .returned (.bool true) ∧ Box3P w A B C w') := hide (fun wx h => (awake_any hT hR hA wx (hv.below h.2.2.2).g).mono fun e w' ⟨h1, h2⟩ => ⟨h1, h.keep h2⟩)
  have L1 : Hid (∀ wx, Box3P w A B C wx → Calls Tryd.prog 10 #[pval p (.slice q1 N1 c1) (.slice q2 N2 c2) v3 v4 v5] wx fun e w' => (∃ b : Bool, e = .returned (.bool b) ∧ (b = true → light p)) ∧ Box3P w A B C w') := hide (fun wx h => (rlight_any _ _ _ _ _ p _ _ _ _ _ wx (hv.below h.2.2.2)).mono fun e w' ⟨h1, h2⟩ => ⟨h1, h.keep h2⟩)
  have R1 : Hid (fits p → ∀ wx, Box3P w A B C wx → Calls Tryd.prog 13 #[pval p (.slice q1 N1 c1) (.slice q2 N2 c2) v3 v4 v5] wx fun e w' => e = .returned (.bool (right p)) ∧ Box3P w A B C w') := hide (fun hf wx h => (hR _ _ _ _ _ p _ _ _ _ _ wx (hv.below h.2.2.2) hf).mono fun e w' ⟨h1, h2⟩ => ⟨h1, h.keep h2⟩)
  have L2 : Hid (∀ wx, Box3P w A B C wx → Calls Tryd.prog 10 #[pval q u1 u2 u3 u4 u5] wx fun e w' => (∃ b : Bool, e = .returned (.bool b) ∧ (b = true → light q)) ∧ Box3P w A B C w') := hide (fun wx h => (rlight_any _ _ _ _ _ q _ _ _ _ _ wx (hu.below h.2.2.2)).mono fun e w' ⟨h1, h2⟩ => ⟨h1, h.keep h2⟩)
  have R2 : Hid (fits q → ∀ wx, Box3P w A B C wx → Calls Tryd.prog 13 #[pval q u1 u2 u3 u4 u5] wx fun e w' => e = .returned (.bool (right q)) ∧ Box3P w A B C w') := hide (fun hf wx h => (hR _ _ _ _ _ q _ _ _ _ _ wx (hu.below h.2.2.2) hf).mono fun e w' ⟨h1, h2⟩ => ⟨h1, h.keep h2⟩)
  have L3 : Hid (∀ wx, Box3P w A B C wx → Calls Tryd.prog 10 #[pval r t1 t2 t3 t4 t5] wx fun e w' => (∃ b : Bool, e = .returned (.bool b) ∧ (b = true → light r)) ∧ Box3P w A B C w') := hide (fun wx h => (rlight_any _ _ _ _ _ r _ _ _ _ _ wx (ht.below h.2.2.2)).mono fun e w' ⟨h1, h2⟩ => ⟨h1, h.keep h2⟩)
  have R3 : Hid (fits r → ∀ wx, Box3P w A B C wx → Calls Tryd.prog 13 #[pval r t1 t2 t3 t4 t5] wx fun e w' => e = .returned (.bool (right r)) ∧ Box3P w A B C w') := hide (fun hf wx h => (hR _ _ _ _ _ r _ _ _ _ _ wx (ht.below h.2.2.2) hf).mono fun e w' ⟨h1, h2⟩ => ⟨h1, h.keep h2⟩)
  have S12 : Hid (fits p → fits q → ∀ wx, Box3P w A B C wx → Calls Tryd.prog 22 #[pval p (.slice q1 N1 c1) (.slice q2 N2 c2) v3 v4 v5, pval q u1 u2 u3 u4 u5] wx fun e w' => e = .returned (.bool (stricter p q)) ∧ Box3P w A B C w') := hide (fun hf hg wx h => (hS _ _ _ _ _ _ _ _ _ _ p q _ _ _ _ _ _ _ _ _ _ wx (hv.below h.2.2.2) (hu.below h.2.2.2) hf hg).mono fun e w' ⟨h1, h2⟩ => ⟨h1, h.keep h2⟩)
  have S23 : Hid (fits q → fits r → ∀ wx, Box3P w A B C wx → Calls Tryd.prog 22 #[pval q u1 u2 u3 u4 u5, pval r t1 t2 t3 t4 t5] wx fun e w' => e = .returned (.bool (stricter q r)) ∧ Box3P w A B C w') := hide (fun hf hg wx h => (hS _ _ _ _ _ _ _ _ _ _ q r _ _ _ _ _ _ _ _ _ _ wx (hu.below h.2.2.2) (ht.below h.2.2.2) hf hg).mono fun e w' ⟨h1, h2⟩ => ⟨h1, h.keep h2⟩)
  have S11 : Hid (fits p → fits p → ∀ wx, Box3P w A B C wx → Calls Tryd.prog 22 #[pval p (.slice q1 N1 c1) (.slice q2 N2 c2) v3 v4 v5, pval p (.slice q1 N1 c1) (.slice q2 N2 c2) v3 v4 v5] wx fun e w' => e = .returned (.bool (stricter p p)) ∧ Box3P w A B C w') := hide (fun hf hg wx h => (hS _ _ _ _ _ _ _ _ _ _ p p _ _ _ _ _ _ _ _ _ _ wx (hv.below h.2.2.2) (hv.below h.2.2.2) hf hg).mono fun e w' ⟨h1, h2⟩ => ⟨h1, h.keep h2⟩)
  have S13 : Hid (fits p → fits r → ∀ wx, Box3P w A B C wx → Calls Tryd.prog 22 #[pval p (.slice q1 N1 c1) (.slice q2 N2 c2) v3 v4 v5, pval r t1 t2 t3 t4 t5] wx fun e w' => e = .returned (.bool (stricter p r)) ∧ Box3P w A B C w') := hide (fun hf hg wx h => (hS _ _ _ _ _ _ _ _ _ _ p r _ _ _ _ _ _ _ _ _ _ wx (hv.below h.2.2.2) (ht.below h.2.2.2) hf hg).mono fun e w' ⟨h1, h2⟩ => ⟨h1, h.keep h2⟩)
  have CE : Hid (fits q → ∀ (y : ByteArray), y.size ≤ 100000 → ∀ wx, Box3P w A B C wx → Calls Tryd.prog 18 #[pval q u1 u2 u3 u4 u5, .string y] wx fun e w' => e = .returned (.bool (decide (bl y ∈ q.el))) ∧ Box3P w A B C w') := hide (fun hf y hy wx h => (hE _ _ _ _ _ q _ _ _ _ _ y wx (hu.below h.2.2.2) hf hy).mono fun e w' ⟨h1, h2⟩ => ⟨h1, h.keep h2⟩)
  have A1 : Hid (fits p → ∀ (x y : ByteArray), x.size ≤ 100000 → y.size ≤ 100000 → ∀ wx, Box3P w A B C wx → Calls Tryd.prog 20 #[pval p (.slice q1 N1 c1) (.slice q2 N2 c2) v3 v4 v5, .string x, .string y] wx fun e w' => e = .returned (.bool (attrB p (bl x) (bl y))) ∧ Box3P w A B C w') := hide (fun hf x y hx hy wx h => (hA _ _ _ _ _ p _ _ _ _ _ x y wx (hv.below h.2.2.2) hf hx hy).mono fun e w' ⟨h1, h2⟩ => ⟨h1, h.keep h2⟩)
  have A2 : Hid (fits q → ∀ (x y : ByteArray), x.size ≤ 100000 → y.size ≤ 100000 → ∀ wx, Box3P w A B C wx → Calls Tryd.prog 20 #[pval q u1 u2 u3 u4 u5, .string x, .string y] wx fun e w' => e = .returned (.bool (attrB q (bl x) (bl y))) ∧ Box3P w A B C w') := hide (fun hf x y hx hy wx h => (hA _ _ _ _ _ q _ _ _ _ _ x y wx (hu.below h.2.2.2) hf hx hy).mono fun e w' ⟨h1, h2⟩ => ⟨h1, h.keep h2⟩)
  have SK : Hid (∀ wx, Box3P w A B C wx → wx.cell? ⟨w.heap.size, 0, none⟩ = some (.int .i64 p.ep) ∧ wx.cell? ⟨w.heap.size, 1, none⟩ = some (.slice q1 N1 c1) ∧ wx.cell? ⟨w.heap.size, 2, none⟩ = some (.slice q2 N2 c2) ∧ wx.cell? ⟨w.heap.size, 3, none⟩ = some v3 ∧ wx.cell? ⟨w.heap.size, 4, none⟩ = some v4 ∧ wx.cell? ⟨w.heap.size, 5, none⟩ = some v5 ∧ wx.cell? ⟨w.heap.size, 6, none⟩ = some (.int .i64 p.dp) ∧ wx.cell? ⟨w.heap.size, 7, none⟩ = some (.int .i64 p.nd) ∧ wx.cell? ⟨w.heap.size, 8, none⟩ = some (.int .i64 p.bt) ∧ wx.cell? ⟨w.heap.size + 1, 0, none⟩ = some (.int .i64 q.ep) ∧ wx.cell? ⟨w.heap.size + 1, 1, none⟩ = some u1 ∧ wx.cell? ⟨w.heap.size + 1, 2, none⟩ = some u2 ∧ wx.cell? ⟨w.heap.size + 1, 3, none⟩ = some u3 ∧ wx.cell? ⟨w.heap.size + 1, 4, none⟩ = some u4 ∧ wx.cell? ⟨w.heap.size + 1, 5, none⟩ = some u5 ∧ wx.cell? ⟨w.heap.size + 1, 6, none⟩ = some (.int .i64 q.dp) ∧ wx.cell? ⟨w.heap.size + 1, 7, none⟩ = some (.int .i64 q.nd) ∧ wx.cell? ⟨w.heap.size + 1, 8, none⟩ = some (.int .i64 q.bt) ∧ wx.cell? ⟨w.heap.size + 1 + 1, 0, none⟩ = some (.int .i64 r.ep) ∧ wx.cell? ⟨w.heap.size + 1 + 1, 1, none⟩ = some t1 ∧ wx.cell? ⟨w.heap.size + 1 + 1, 2, none⟩ = some t2 ∧ wx.cell? ⟨w.heap.size + 1 + 1, 3, none⟩ = some t3 ∧ wx.cell? ⟨w.heap.size + 1 + 1, 4, none⟩ = some t4 ∧ wx.cell? ⟨w.heap.size + 1 + 1, 5, none⟩ = some t5 ∧ wx.cell? ⟨w.heap.size + 1 + 1, 6, none⟩ = some (.int .i64 r.dp) ∧ wx.cell? ⟨w.heap.size + 1 + 1, 7, none⟩ = some (.int .i64 r.nd) ∧ wx.cell? ⟨w.heap.size + 1 + 1, 8, none⟩ = some (.int .i64 r.bt)) := hide (fun wx h => ⟨tag_cell h.1 0 _ (by rw [hAA]; rfl), tag_cell h.1 1 _ (by rw [hAA]; rfl), tag_cell h.1 2 _ (by rw [hAA]; rfl), tag_cell h.1 3 _ (by rw [hAA]; rfl), tag_cell h.1 4 _ (by rw [hAA]; rfl), tag_cell h.1 5 _ (by rw [hAA]; rfl), tag_cell h.1 6 _ (by rw [hAA]; rfl), tag_cell h.1 7 _ (by rw [hAA]; rfl), tag_cell h.1 8 _ (by rw [hAA]; rfl), tag_cell h.2.1 0 _ (by rw [hBB]; rfl), tag_cell h.2.1 1 _ (by rw [hBB]; rfl), tag_cell h.2.1 2 _ (by rw [hBB]; rfl), tag_cell h.2.1 3 _ (by rw [hBB]; rfl), tag_cell h.2.1 4 _ (by rw [hBB]; rfl), tag_cell h.2.1 5 _ (by rw [hBB]; rfl), tag_cell h.2.1 6 _ (by rw [hBB]; rfl), tag_cell h.2.1 7 _ (by rw [hBB]; rfl), tag_cell h.2.1 8 _ (by rw [hBB]; rfl), tag_cell h.2.2.1 0 _ (by rw [hCC]; rfl), tag_cell h.2.2.1 1 _ (by rw [hCC]; rfl), tag_cell h.2.2.1 2 _ (by rw [hCC]; rfl), tag_cell h.2.2.1 3 _ (by rw [hCC]; rfl), tag_cell h.2.2.1 4 _ (by rw [hCC]; rfl), tag_cell h.2.2.1 5 _ (by rw [hCC]; rfl), tag_cell h.2.2.1 6 _ (by rw [hCC]; rfl), tag_cell h.2.2.1 7 _ (by rw [hCC]; rfl), tag_cell h.2.2.1 8 _ (by rw [hCC]; rfl)⟩)
  have HV1 : Hid (∀ wx, Box3P w A B C wx → StrArg wx (.slice q1 N1 c1) l1) := hide (fun wx h => hv.s1.below h.2.2.2)
  have HV2 : Hid (∀ wx, Box3P w A B C wx → StrArg wx (.slice q2 N2 c2) l2) := hide (fun wx h => hv.s2.below h.2.2.2)
  have HE1 := hide hv.e1
  have HE2 := hide hv.e2
  have HN1 := hide hN1
  have HN2 := hide hN2
  rw [hAA, hBB, hCC] at hw1
  clear hT hR hA hE hS hv hu ht hAA hBB hCC hN1 hN2
  go_enter Tryd.func7, Tryd.ntmps7
  go_upto_region 1 with fail
  rw [← hw1]
  clear hw1
  go_wp2_with fail
  refine (CW.out _ HN.out).mono ?_
  rintro e w2 ⟨rfl, h2⟩
  have H2 := hide h2
  clear h2 CW HN
  obtain ⟨y0, y1, y2, y3, y4, y5, y6, y7, y8, y9, y10, y11, y12, y13, y14, y15, y16, y17, y18, y19, y20, y21, y22, y23, y24, y25, y26⟩ := SK.out _ H2.out
  go_wp2_with fail
  refine (L1.out _ H2.out).mono ?_
  rintro e w3 ⟨⟨b1, rfl, k1⟩, h3⟩
  have H3 := hide h3
  clear h3 H2 L1 y0 y1 y2 y3 y4 y5 y6 y7 y8 y9 y10 y11 y12 y13 y14 y15 y16 y17 y18 y19 y20 y21 y22 y23 y24 y25 y26
  have K1 := hide k1
  clear k1
  obtain ⟨y0, y1, y2, y3, y4, y5, y6, y7, y8, y9, y10, y11, y12, y13, y14, y15, y16, y17, y18, y19, y20, y21, y22, y23, y24, y25, y26⟩ := SK.out _ H3.out
  go_wp2_with fail
  refine (L2.out _ H3.out).mono ?_
  rintro e w4 ⟨⟨b2, rfl, k2⟩, h4⟩
  have H4 := hide h4
  clear h4 H3 L2 y0 y1 y2 y3 y4 y5 y6 y7 y8 y9 y10 y11 y12 y13 y14 y15 y16 y17 y18 y19 y20 y21 y22 y23 y24 y25 y26
  have K2 := hide k2
  clear k2
  obtain ⟨y0, y1, y2, y3, y4, y5, y6, y7, y8, y9, y10, y11, y12, y13, y14, y15, y16, y17, y18, y19, y20, y21, y22, y23, y24, y25, y26⟩ := SK.out _ H4.out
  go_wp2_with fail
  refine (L3.out _ H4.out).mono ?_
  rintro e w5 ⟨⟨b3, rfl, k3⟩, h5⟩
  have H5 := hide h5
  clear h5 H4 L3 y0 y1 y2 y3 y4 y5 y6 y7 y8 y9 y10 y11 y12 y13 y14 y15 y16 y17 y18 y19 y20 y21 y22 y23 y24 y25 y26
  have K3 := hide k3
  clear k3
  cases b1 with
  | false =>
    clear R1 R2 R3 S12 S23 S11 S13 CE A1 A2 SK
    go_wp2_with fail
    go_ret
    exact ⟨rfl, H5.out.2.2.2⟩
  | true =>
  cases b2 with
  | false =>
    clear R1 R2 R3 S12 S23 S11 S13 CE A1 A2 SK
    go_wp2_with fail
    go_ret
    exact ⟨rfl, H5.out.2.2.2⟩
  | true =>
  cases b3 with
  | false =>
    clear R1 R2 R3 S12 S23 S11 S13 CE A1 A2 SK
    go_wp2_with fail
    go_ret
    exact ⟨rfl, H5.out.2.2.2⟩
  | true =>
  have F1 := hide (light_fits (K1.out rfl))
  have F2 := hide (light_fits (K2.out rfl))
  have F3 := hide (light_fits (K3.out rfl))
  clear K1 K2 K3
  have R1 := hide (R1.out F1.out)
  have R2 := hide (R2.out F2.out)
  have R3 := hide (R3.out F3.out)
  cases hr1 : right p with
  | false =>
    rw [hr1] at R1
    obtain ⟨y0, y1, y2, y3, y4, y5, y6, y7, y8, y9, y10, y11, y12, y13, y14, y15, y16, y17, y18, y19, y20, y21, y22, y23, y24, y25, y26⟩ := SK.out _ H5.out
    go_wp2_with fail
    refine (R1.out _ H5.out).mono ?_
    rintro e w6 ⟨rfl, h6⟩
    have H6 := hide h6
    clear h6 H5 R1 y0 y1 y2 y3 y4 y5 y6 y7 y8 y9 y10 y11 y12 y13 y14 y15 y16 y17 y18 y19 y20 y21 y22 y23 y24 y25 y26
    clear R2 R3 S12 S23 S11 S13 CE A1 A2 SK
    go_wp2_with fail
    go_ret
    exact ⟨rfl, H6.out.2.2.2⟩
  | true =>
  rw [hr1] at R1
  cases hr2 : right q with
  | false =>
    rw [hr2] at R2
    obtain ⟨y0, y1, y2, y3, y4, y5, y6, y7, y8, y9, y10, y11, y12, y13, y14, y15, y16, y17, y18, y19, y20, y21, y22, y23, y24, y25, y26⟩ := SK.out _ H5.out
    go_wp2_with fail
    refine (R1.out _ H5.out).mono ?_
    rintro e w6 ⟨rfl, h6⟩
    have H6 := hide h6
    clear h6 H5 R1 y0 y1 y2 y3 y4 y5 y6 y7 y8 y9 y10 y11 y12 y13 y14 y15 y16 y17 y18 y19 y20 y21 y22 y23 y24 y25 y26
    obtain ⟨y0, y1, y2, y3, y4, y5, y6, y7, y8, y9, y10, y11, y12, y13, y14, y15, y16, y17, y18, y19, y20, y21, y22, y23, y24, y25, y26⟩ := SK.out _ H6.out
    go_wp2_with fail
    refine (R2.out _ H6.out).mono ?_
    rintro e w7 ⟨rfl, h7⟩
    have H7 := hide h7
    clear h7 H6 R2 y0 y1 y2 y3 y4 y5 y6 y7 y8 y9 y10 y11 y12 y13 y14 y15 y16 y17 y18 y19 y20 y21 y22 y23 y24 y25 y26
    clear R3 S12 S23 S11 S13 CE A1 A2 SK
    go_wp2_with fail
    go_ret
    exact ⟨rfl, H7.out.2.2.2⟩
  | true =>
  rw [hr2] at R2
  cases hr3 : right r with
  | false =>
    rw [hr3] at R3
    obtain ⟨y0, y1, y2, y3, y4, y5, y6, y7, y8, y9, y10, y11, y12, y13, y14, y15, y16, y17, y18, y19, y20, y21, y22, y23, y24, y25, y26⟩ := SK.out _ H5.out
    go_wp2_with fail
    refine (R1.out _ H5.out).mono ?_
    rintro e w6 ⟨rfl, h6⟩
    have H6 := hide h6
    clear h6 H5 R1 y0 y1 y2 y3 y4 y5 y6 y7 y8 y9 y10 y11 y12 y13 y14 y15 y16 y17 y18 y19 y20 y21 y22 y23 y24 y25 y26
    obtain ⟨y0, y1, y2, y3, y4, y5, y6, y7, y8, y9, y10, y11, y12, y13, y14, y15, y16, y17, y18, y19, y20, y21, y22, y23, y24, y25, y26⟩ := SK.out _ H6.out
    go_wp2_with fail
    refine (R2.out _ H6.out).mono ?_
    rintro e w7 ⟨rfl, h7⟩
    have H7 := hide h7
    clear h7 H6 R2 y0 y1 y2 y3 y4 y5 y6 y7 y8 y9 y10 y11 y12 y13 y14 y15 y16 y17 y18 y19 y20 y21 y22 y23 y24 y25 y26
    obtain ⟨y0, y1, y2, y3, y4, y5, y6, y7, y8, y9, y10, y11, y12, y13, y14, y15, y16, y17, y18, y19, y20, y21, y22, y23, y24, y25, y26⟩ := SK.out _ H7.out
    go_wp2_with fail
    refine (R3.out _ H7.out).mono ?_
    rintro e w8 ⟨rfl, h8⟩
    have H8 := hide h8
    clear h8 H7 R3 y0 y1 y2 y3 y4 y5 y6 y7 y8 y9 y10 y11 y12 y13 y14 y15 y16 y17 y18 y19 y20 y21 y22 y23 y24 y25 y26
    clear S12 S23 S11 S13 CE A1 A2 SK
    go_wp2_with fail
    go_ret
    exact ⟨rfl, H8.out.2.2.2⟩
  | true =>
  rw [hr3] at R3
  have HM : Hid (stricter p p = true ∧ (stricter p q = true → stricter q r = true → stricter p r = true) ∧ (stricter p q = true → ∀ e ∈ p.el, e ∈ q.el) ∧ (stricter p q = true → ∀ e ∈ p.el, ∀ a, attrB p e a = true → attrB q e a = true) ∧ (∀ x ∈ p.at_, (46 : UInt8) ∈ x)) := hide (by
    have rp := (right_iff p).1 hr1
    refine ⟨(str_iff p p).2 (str_refl p), fun h1 h2 => (str_iff p r).2 (str_trans ((str_iff p q).1 h1) ((str_iff q r).1 h2)), fun h e he => ((str_iff p q).1 h).el e he, fun h e he a ha => lets_more ((str_iff p q).1 h) (right_el rp he) ha, fun x hx => right_dot rp hx⟩)
  clear hr1 hr2 hr3
  obtain ⟨y0, y1, y2, y3, y4, y5, y6, y7, y8, y9, y10, y11, y12, y13, y14, y15, y16, y17, y18, y19, y20, y21, y22, y23, y24, y25, y26⟩ := SK.out _ H5.out
  go_wp2_with fail
  refine (R1.out _ H5.out).mono ?_
  rintro e w6 ⟨rfl, h6⟩
  have H6 := hide h6
  clear h6 H5 R1 y0 y1 y2 y3 y4 y5 y6 y7 y8 y9 y10 y11 y12 y13 y14 y15 y16 y17 y18 y19 y20 y21 y22 y23 y24 y25 y26
  obtain ⟨y0, y1, y2, y3, y4, y5, y6, y7, y8, y9, y10, y11, y12, y13, y14, y15, y16, y17, y18, y19, y20, y21, y22, y23, y24, y25, y26⟩ := SK.out _ H6.out
  go_wp2_with fail
  refine (R2.out _ H6.out).mono ?_
  rintro e w7 ⟨rfl, h7⟩
  have H7 := hide h7
  clear h7 H6 R2 y0 y1 y2 y3 y4 y5 y6 y7 y8 y9 y10 y11 y12 y13 y14 y15 y16 y17 y18 y19 y20 y21 y22 y23 y24 y25 y26
  obtain ⟨y0, y1, y2, y3, y4, y5, y6, y7, y8, y9, y10, y11, y12, y13, y14, y15, y16, y17, y18, y19, y20, y21, y22, y23, y24, y25, y26⟩ := SK.out _ H7.out
  go_wp2_with fail
  refine (R3.out _ H7.out).mono ?_
  rintro e w8 ⟨rfl, h8⟩
  have H8 := hide h8
  clear h8 H7 R3 y0 y1 y2 y3 y4 y5 y6 y7 y8 y9 y10 y11 y12 y13 y14 y15 y16 y17 y18 y19 y20 y21 y22 y23 y24 y25 y26
  have S12 := hide (S12.out F1.out F2.out)
  have S23 := hide (S23.out F2.out F3.out)
  have S11 := hide (S11.out F1.out F1.out)
  have S13 := hide (S13.out F1.out F3.out)
  rw [HM.out.1] at S11
  obtain ⟨y0, y1, y2, y3, y4, y5, y6, y7, y8, y9, y10, y11, y12, y13, y14, y15, y16, y17, y18, y19, y20, y21, y22, y23, y24, y25, y26⟩ := SK.out _ H8.out
  go_wp2_with fail
  refine (S12.out _ H8.out).mono ?_
  rintro e w9 ⟨rfl, h9⟩
  have H9 := hide h9
  clear h9 H8 S12 y0 y1 y2 y3 y4 y5 y6 y7 y8 y9 y10 y11 y12 y13 y14 y15 y16 y17 y18 y19 y20 y21 y22 y23 y24 y25 y26
  generalize hab : stricter p q = a at *
  generalize hbb : stricter q r = b at *
  have HAB := hide hab
  clear hab hbb
  obtain ⟨y0, y1, y2, y3, y4, y5, y6, y7, y8, y9, y10, y11, y12, y13, y14, y15, y16, y17, y18, y19, y20, y21, y22, y23, y24, y25, y26⟩ := SK.out _ H9.out
  go_wp2_with fail
  refine (S23.out _ H9.out).mono ?_
  rintro e x1 ⟨rfl, x1⟩
  have X1 := hide x1
  clear x1 H9 S23 y0 y1 y2 y3 y4 y5 y6 y7 y8 y9 y10 y11 y12 y13 y14 y15 y16 y17 y18 y19 y20 y21 y22 y23 y24 y25 y26
  go_upto_region 9 with fail
  go_cut [71] from 56 to 71 (fun v71 wx => v71 = .bool false ∧ Hid (Box3P w A B C wx))
  case first =>
    obtain ⟨y0, y1, y2, y3, y4, y5, y6, y7, y8, y9, y10, y11, y12, y13, y14, y15, y16, y17, y18, y19, y20, y21, y22, y23, y24, y25, y26⟩ := SK.out _ X1.out
    go_wp2_with fail
    refine (S11.out _ X1.out).mono ?_
    rintro e x2 ⟨rfl, x2⟩
    have X2 := hide x2
    clear x2 X1 S11 y0 y1 y2 y3 y4 y5 y6 y7 y8 y9 y10 y11 y12 y13 y14 y15 y16 y17 y18 y19 y20 y21 y22 y23 y24 y25 y26
    cases a with
    | false =>
      clear S13 CE A1 A2
      go_wp2_with fail
      go_meet
      exact ⟨rfl, X2⟩
    | true =>
      cases b with
      | false =>
        clear S13 CE A1 A2
        go_wp2_with fail
        go_meet
        exact ⟨rfl, X2⟩
      | true =>
        rw [HM.out.2.1 (by first | rfl | exact HAB.out) (by first | rfl | assumption)] at S13
        obtain ⟨y0, y1, y2, y3, y4, y5, y6, y7, y8, y9, y10, y11, y12, y13, y14, y15, y16, y17, y18, y19, y20, y21, y22, y23, y24, y25, y26⟩ := SK.out _ X2.out
        go_wp2_with fail
        refine (S13.out _ X2.out).mono ?_
        rintro e x3 ⟨rfl, x3⟩
        have X3 := hide x3
        clear x3 X2 S13 y0 y1 y2 y3 y4 y5 y6 y7 y8 y9 y10 y11 y12 y13 y14 y15 y16 y17 y18 y19 y20 y21 y22 y23 y24 y25 y26
        clear CE A1 A2
        go_wp2_with fail
        go_meet
        exact ⟨rfl, X3⟩
  case rest =>
  obtain ⟨rfl, HB9⟩ := hcut
  clear S11 S13 X1 F3
  go_wp2_with fail
  go_loopg [13] N1 (fun g v13 wx => ∃ i : Nat, i + g = N1 ∧ v13 = .int .i64 (i : Int) ∧ Hid (Box3P w A B C wx))
  case atStart => exact ⟨0, by omega, rfl, HB9⟩
  case round =>
    obtain ⟨i, hi, rfl, HW⟩ := hrel
    clear HB9
    have y1 := (SK.out wr HW.out).2.1
    by_cases hlt : i < N1
    · cases a with
      | false =>
        clear CE A1 A2 SK
        go_wp2_with fail
        go_ret
        exact ⟨rfl, HW.out.2.2.2⟩
      | true =>
        obtain ⟨y, hy⟩ : ∃ y, l1[i]? = some y := ⟨_, List.getElem?_eq_getElem (by rw [← HN1.out]; exact hlt)⟩
        obtain ⟨b1, o1, rfl, HC1⟩ : ∃ b1 o1, q1 = some ⟨b1, o1, none⟩ ∧ Hid (∀ wx, Box3P w A B C wx → wx.cell? ⟨b1, o1 + i, none⟩ = some (.string y)) := by
          obtain ⟨p0, cap0, e0, -, hc0⟩ := HV1.out wr HW.out
          injection e0 with e1 e2 e3
          obtain ⟨b1, o1, e4, -⟩ := hc0 i y hy
          refine ⟨b1, o1, e1.trans e4, hide (fun wx h => ?_)⟩
          obtain ⟨p2, cap2, f0, -, hc2⟩ := HV1.out wx h
          injection f0 with f1 f2 f3
          obtain ⟨b2, o2, f4, h4⟩ := hc2 i y hy
          have e5 := (e1.trans e4).symm.trans (f1.trans f4)
          injection e5 with e5
          injection e5 with e6 e7
          rw [e6, e7]
          exact h4
        have hN1b : N1 ≤ 100000 := by rw [HN1.out]; exact (fits_of F1.out (by simp) HE1.out).1
        have hN2b : N2 ≤ 100000 := by rw [HN2.out]; exact (fits_of F1.out (by simp) HE2.out).1
        have hyz : y.size ≤ 100000 := (fits_of F1.out (by simp) HE1.out).2 y (List.mem_of_getElem? hy)
        have hyel : bl y ∈ p.el := by rw [← HE1.out]; exact List.mem_map_of_mem (List.mem_of_getElem? hy)
        have CE1 := hide (CE.out F2.out y hyz)
        rw [decide_eq_true (HM.out.2.2.1 (by first | rfl | exact HAB.out) _ hyel)] at CE1
        have HAT : Hid (∀ z, attrB p (bl y) z = true → attrB q (bl y) z = true) := hide (HM.out.2.2.2.1 (by first | rfl | exact HAB.out) _ hyel)
        clear hyel hy
        have SE : Hid (∀ wx, Box3P w A B C wx → wx.cell? ⟨w.heap.size, 0, none⟩ = some (.int .i64 p.ep) ∧ wx.cell? ⟨w.heap.size, 1, none⟩ = some (.slice (some ⟨b1, o1, none⟩) N1 c1) ∧ wx.cell? ⟨w.heap.size, 2, none⟩ = some (.slice q2 N2 c2) ∧ wx.cell? ⟨w.heap.size, 3, none⟩ = some v3 ∧ wx.cell? ⟨w.heap.size, 4, none⟩ = some v4 ∧ wx.cell? ⟨w.heap.size, 5, none⟩ = some v5 ∧ wx.cell? ⟨w.heap.size, 6, none⟩ = some (.int .i64 p.dp) ∧ wx.cell? ⟨w.heap.size, 7, none⟩ = some (.int .i64 p.nd) ∧ wx.cell? ⟨w.heap.size, 8, none⟩ = some (.int .i64 p.bt) ∧ wx.cell? ⟨w.heap.size + 1, 0, none⟩ = some (.int .i64 q.ep) ∧ wx.cell? ⟨w.heap.size + 1, 1, none⟩ = some u1 ∧ wx.cell? ⟨w.heap.size + 1, 2, none⟩ = some u2 ∧ wx.cell? ⟨w.heap.size + 1, 3, none⟩ = some u3 ∧ wx.cell? ⟨w.heap.size + 1, 4, none⟩ = some u4 ∧ wx.cell? ⟨w.heap.size + 1, 5, none⟩ = some u5 ∧ wx.cell? ⟨w.heap.size + 1, 6, none⟩ = some (.int .i64 q.dp) ∧ wx.cell? ⟨w.heap.size + 1, 7, none⟩ = some (.int .i64 q.nd) ∧ wx.cell? ⟨w.heap.size + 1, 8, none⟩ = some (.int .i64 q.bt) ∧ wx.cell? ⟨b1, o1 + i, none⟩ = some (.string y) ∧ Hid (Box3P w A B C wx)) := hide (fun wx h => by
          have h0 := SK.out wx h
          exact ⟨h0.1, h0.2.1, h0.2.2.1, h0.2.2.2.1, h0.2.2.2.2.1, h0.2.2.2.2.2.1, h0.2.2.2.2.2.2.1, h0.2.2.2.2.2.2.2.1, h0.2.2.2.2.2.2.2.2.1, h0.2.2.2.2.2.2.2.2.2.1, h0.2.2.2.2.2.2.2.2.2.2.1, h0.2.2.2.2.2.2.2.2.2.2.2.1, h0.2.2.2.2.2.2.2.2.2.2.2.2.1, h0.2.2.2.2.2.2.2.2.2.2.2.2.2.1, h0.2.2.2.2.2.2.2.2.2.2.2.2.2.2.1, h0.2.2.2.2.2.2.2.2.2.2.2.2.2.2.2.1, h0.2.2.2.2.2.2.2.2.2.2.2.2.2.2.2.2.1, h0.2.2.2.2.2.2.2.2.2.2.2.2.2.2.2.2.2.1, HC1.out wx h, hide h⟩)
        have SB : Hid (∀ wx, (wx.cell? ⟨w.heap.size, 0, none⟩ = some (.int .i64 p.ep) ∧ wx.cell? ⟨w.heap.size, 1, none⟩ = some (.slice (some ⟨b1, o1, none⟩) N1 c1) ∧ wx.cell? ⟨w.heap.size, 2, none⟩ = some (.slice q2 N2 c2) ∧ wx.cell? ⟨w.heap.size, 3, none⟩ = some v3 ∧ wx.cell? ⟨w.heap.size, 4, none⟩ = some v4 ∧ wx.cell? ⟨w.heap.size, 5, none⟩ = some v5 ∧ wx.cell? ⟨w.heap.size, 6, none⟩ = some (.int .i64 p.dp) ∧ wx.cell? ⟨w.heap.size, 7, none⟩ = some (.int .i64 p.nd) ∧ wx.cell? ⟨w.heap.size, 8, none⟩ = some (.int .i64 p.bt) ∧ wx.cell? ⟨w.heap.size + 1, 0, none⟩ = some (.int .i64 q.ep) ∧ wx.cell? ⟨w.heap.size + 1, 1, none⟩ = some u1 ∧ wx.cell? ⟨w.heap.size + 1, 2, none⟩ = some u2 ∧ wx.cell? ⟨w.heap.size + 1, 3, none⟩ = some u3 ∧ wx.cell? ⟨w.heap.size + 1, 4, none⟩ = some u4 ∧ wx.cell? ⟨w.heap.size + 1, 5, none⟩ = some u5 ∧ wx.cell? ⟨w.heap.size + 1, 6, none⟩ = some (.int .i64 q.dp) ∧ wx.cell? ⟨w.heap.size + 1, 7, none⟩ = some (.int .i64 q.nd) ∧ wx.cell? ⟨w.heap.size + 1, 8, none⟩ = some (.int .i64 q.bt) ∧ wx.cell? ⟨b1, o1 + i, none⟩ = some (.string y) ∧ Hid (Box3P w A B C wx)) → Box3P w A B C wx) := hide (fun wx h => h.2.2.2.2.2.2.2.2.2.2.2.2.2.2.2.2.2.2.2.out)
        have hi0 : (0 : Int) ≤ (i : Int) := by omega
        have hi1 : (i : Int) < (N1 : Int) := by omega
        go_wp2_with fail
        clear y1
        refine wp_region_held_drew (S := (fun wx => wx.cell? ⟨w.heap.size, 0, none⟩ = some (.int .i64 p.ep) ∧ wx.cell? ⟨w.heap.size, 1, none⟩ = some (.slice (some ⟨b1, o1, none⟩) N1 c1) ∧ wx.cell? ⟨w.heap.size, 2, none⟩ = some (.slice q2 N2 c2) ∧ wx.cell? ⟨w.heap.size, 3, none⟩ = some v3 ∧ wx.cell? ⟨w.heap.size, 4, none⟩ = some v4 ∧ wx.cell? ⟨w.heap.size, 5, none⟩ = some v5 ∧ wx.cell? ⟨w.heap.size, 6, none⟩ = some (.int .i64 p.dp) ∧ wx.cell? ⟨w.heap.size, 7, none⟩ = some (.int .i64 p.nd) ∧ wx.cell? ⟨w.heap.size, 8, none⟩ = some (.int .i64 p.bt) ∧ wx.cell? ⟨w.heap.size + 1, 0, none⟩ = some (.int .i64 q.ep) ∧ wx.cell? ⟨w.heap.size + 1, 1, none⟩ = some u1 ∧ wx.cell? ⟨w.heap.size + 1, 2, none⟩ = some u2 ∧ wx.cell? ⟨w.heap.size + 1, 3, none⟩ = some u3 ∧ wx.cell? ⟨w.heap.size + 1, 4, none⟩ = some u4 ∧ wx.cell? ⟨w.heap.size + 1, 5, none⟩ = some u5 ∧ wx.cell? ⟨w.heap.size + 1, 6, none⟩ = some (.int .i64 q.dp) ∧ wx.cell? ⟨w.heap.size + 1, 7, none⟩ = some (.int .i64 q.nd) ∧ wx.cell? ⟨w.heap.size + 1, 8, none⟩ = some (.int .i64 q.bt) ∧ wx.cell? ⟨b1, o1 + i, none⟩ = some (.string y) ∧ Hid (Box3P w A B C wx))) (by kernel_rfl) (SE.out _ (HW.out.keep ((Below.refl _ _).drew))) (fun hHeld => ?_)
        refine wpAnyH_to (i := 0) (v := ?vf0) (a1 := ?xf0) rfl (by kernel_rfl) (by kernel_rfl) (by kernel_rfl) (fun _ _ _ h => h) (Or.inl ⟨by rfl, ?yf0⟩) (by assumption) ?hf0 ?zf0
        case yf0 => (intro w hSw; (try dsimp only at hSw); go_simp; try (with_reducible rfl))
        case hf0 => (go_simp; exact rfl)
        case zf0 =>
        refine wpAnyH_to (i := 1) (v := ?vf1) (a1 := ?xf1) rfl (by kernel_rfl) (by kernel_rfl) (by kernel_rfl) (fun _ _ _ h => h) (Or.inl ⟨by rfl, ?yf1⟩) (by assumption) ?hf1 ?zf1
        case yf1 => (intro w hSw; (try dsimp only at hSw); go_simp; try (with_reducible rfl))
        case hf1 => (go_simp; exact rfl)
        case zf1 =>
        refine wpAnyH_to (i := 2) (v := ?vf2) (a1 := ?xf2) rfl (by kernel_rfl) (by kernel_rfl) (by kernel_rfl) (fun _ _ _ h => h) (Or.inl ⟨by rfl, ?yf2⟩) (by assumption) ?hf2 ?zf2
        case yf2 => (intro w hSw; (try dsimp only at hSw); go_simp; try (with_reducible rfl))
        case hf2 => (go_simp; exact rfl)
        case zf2 =>
        refine wpAnyH_to (i := 3) (v := ?vf3) (a1 := ?xf3) rfl (by kernel_rfl) (by kernel_rfl) (by kernel_rfl) (fun _ _ _ h => h) (Or.inl ⟨by rfl, ?yf3⟩) (by assumption) ?hf3 ?zf3
        case yf3 => (intro w hSw; (try dsimp only at hSw); go_simp; try (with_reducible rfl))
        case hf3 => (go_simp; exact rfl)
        case zf3 =>
        refine wpAnyH_to (i := 4) (v := ?vf4) (a1 := ?xf4) rfl (by kernel_rfl) (by kernel_rfl) (by kernel_rfl) (fun _ _ _ h => h) (Or.inl ⟨by rfl, ?yf4⟩) (by assumption) ?hf4 ?zf4
        case yf4 => (intro w hSw; (try dsimp only at hSw); go_simp; try (with_reducible rfl))
        case hf4 => (go_simp; exact rfl)
        case zf4 =>
        refine wpAnyH_to (i := 5) (v := ?vf5) (a1 := ?xf5) rfl (by kernel_rfl) (by kernel_rfl) (by kernel_rfl) (fun _ _ _ h => h) (Or.inl ⟨by rfl, ?yf5⟩) (by assumption) ?hf5 ?zf5
        case yf5 => (intro w hSw; (try dsimp only at hSw); go_simp; try (with_reducible rfl))
        case hf5 => (go_simp; exact rfl)
        case zf5 =>
        refine wpAnyH_ready (rs := [6]) (by kernel_rfl) (by simp) ?_
        refine AllReadyH.cons rfl (fun K hK => ?_) AllReadyH.nil
        go_simp
        refine (CE1.out _ (SB.out _ (by assumption))).mono ?_
        rintro e w6 ⟨rfl, h6⟩
        try go_wp2_with fail
        refine hK.out _ _ (SE.out _ (by assumption)) (fun hHeld2 => ?_)
        clear hK K hHeld
        have hHeld := hHeld2
        clear hHeld2
        refine wpAnyH_to (i := 7) (v := ?vf7) (a1 := ?xf7) rfl (by kernel_rfl) (by kernel_rfl) (by kernel_rfl) (fun _ _ _ h => h) (Or.inl ⟨by rfl, ?yf7⟩) (by assumption) ?hf7 ?zf7
        case yf7 => (intro w hSw; (try dsimp only at hSw); go_simp; try (with_reducible rfl))
        case hf7 => (go_simp; exact rfl)
        case zf7 =>
        refine wpAnyH_done (by kernel_rfl) ?_ _
        have HW6 := hide (SB.out _ (by assumption))
        clear CE1 HW hHeld h6
        go_wp2_with fail
        go_loopg [14] N2 (fun g v14 wx => ∃ k : Nat, k + g = N2 ∧ v14 = .int .i64 (k : Int) ∧ Hid (Box3P w A B C wx))
        case atStart => exact ⟨0, by omega, rfl, HW6⟩
        case round =>
          obtain ⟨k, hk, rfl, HX⟩ := hrel
          clear HW6
          have y2 := (SK.out wr HX.out).2.2.1
          by_cases hkt : k < N2
          · obtain ⟨x, hx⟩ : ∃ x, l2[k]? = some x := ⟨_, List.getElem?_eq_getElem (by rw [← HN2.out]; exact hkt)⟩
            obtain ⟨b2, o2, rfl, c2⟩ : ∃ b2 o2, q2 = some ⟨b2, o2, none⟩ ∧ wr.cell? ⟨b2, o2 + k, none⟩ = some (.string x) := by
              obtain ⟨p0, cap0, e0, -, hc0⟩ := HV2.out wr HX.out
              injection e0 with e1 e2 e3
              obtain ⟨b2, o2, e4, h4⟩ := hc0 k x hx
              exact ⟨b2, o2, e1.trans e4, h4⟩
            have hxz : x.size ≤ 100000 := (fits_of F1.out (by simp) HE2.out).2 x (List.mem_of_getElem? hx)
            obtain ⟨D, E, hDE, -, hsz, -, hex, hj⟩ := split_ba x 46 (HM.out.2.2.2.2 (bl x) (by rw [← HE2.out]; exact List.mem_map_of_mem (List.mem_of_getElem? hx)))
            have HJ := hide hj
            have hDx : D.size < x.size := by omega
            have hEx : E.size ≤ 100000 := by omega
            clear hsz
            have HA2 := hide (A2.out F2.out y E hyz hEx)
            have HA1 := hide (A1.out F1.out y E hyz hEx)
            have HAE := hide (HAT.out (bl E))
            clear hDE hj hx
            go_wp2_with fail
            clear y2 c2
            obtain ⟨wo, hwo⟩ : ∃ wo, wo = wr := ⟨_, rfl⟩
            subst hwo
            go_loopg [16] D.size (fun g v16 wx => wx = wo ∧ ∃ j : Nat, j + g = D.size ∧ v16 = .int .i64 (j : Int))
            case atStart => exact ⟨rfl, 0, by omega, rfl⟩
            case round =>
              obtain ⟨rfl, j, hjj, rfl⟩ := hrel
              obtain ⟨ch, hch⟩ := getK x j (by omega)
              have ik := fun w => idxK hch w
              have k46 : ((ch.toNat : Int) != 46) = decide (ch ≠ 46) := neqK ch 46 (by decide)
              have HCH := hide (HJ.out j ch hch)
              clear hch
              by_cases hjd : j < D.size
              · rw [decide_eq_true (HCH.out.1 hjd)] at k46
                generalize (ch.toNat : Int) = zz at ik k46
                have hjx : (j : Int) < (x.size : Int) := by omega
                clear HCH HA1 HA2 HAE SE SB SK
                go_wp2_with fail
                go_roundg (D.size - j - 1)
                case measure => omega
                case rel => exact ⟨rfl, j + 1, by omega, by first | rfl | simp⟩
              · have hje : j = D.size := by omega
                rw [decide_eq_false (fun e => e (HCH.out.2 hje))] at k46
                generalize (ch.toNat : Int) = zz at ik k46
                have hjx : (j : Int) < (x.size : Int) := by omega
                have hne : ((j : Int) == (x.size : Int)) = false := beq_eq_false_iff_ne.2 (by omega)
                have hex2 : x.extract (j + 1) x.size = E := by rw [hje]; exact hex
                have s0 : (0 : Int) ≤ (j : Int) + 1 := by omega
                have s1 : (j : Int) + 1 ≤ (x.size : Int) := by omega
                clear HCH hje hex
                go_wp2_with fail
                have hw64 : IntKind.i64.wrap ((j : Int) + 1) = (j : Int) + 1 := IntWalk.i64_in _ (by omega)
                generalize attrB p (bl y) (bl E) = at1 at HA1 HAE
                cases at1 with
                | false =>
                  clear HAE
                  refine wp_region_held_drew (S := (fun wx => wx.cell? ⟨w.heap.size, 0, none⟩ = some (.int .i64 p.ep) ∧ wx.cell? ⟨w.heap.size, 1, none⟩ = some (.slice (some ⟨b1, o1, none⟩) N1 c1) ∧ wx.cell? ⟨w.heap.size, 2, none⟩ = some (.slice (some ⟨b2, o2, none⟩) N2 c2) ∧ wx.cell? ⟨w.heap.size, 3, none⟩ = some v3 ∧ wx.cell? ⟨w.heap.size, 4, none⟩ = some v4 ∧ wx.cell? ⟨w.heap.size, 5, none⟩ = some v5 ∧ wx.cell? ⟨w.heap.size, 6, none⟩ = some (.int .i64 p.dp) ∧ wx.cell? ⟨w.heap.size, 7, none⟩ = some (.int .i64 p.nd) ∧ wx.cell? ⟨w.heap.size, 8, none⟩ = some (.int .i64 p.bt) ∧ wx.cell? ⟨w.heap.size + 1, 0, none⟩ = some (.int .i64 q.ep) ∧ wx.cell? ⟨w.heap.size + 1, 1, none⟩ = some u1 ∧ wx.cell? ⟨w.heap.size + 1, 2, none⟩ = some u2 ∧ wx.cell? ⟨w.heap.size + 1, 3, none⟩ = some u3 ∧ wx.cell? ⟨w.heap.size + 1, 4, none⟩ = some u4 ∧ wx.cell? ⟨w.heap.size + 1, 5, none⟩ = some u5 ∧ wx.cell? ⟨w.heap.size + 1, 6, none⟩ = some (.int .i64 q.dp) ∧ wx.cell? ⟨w.heap.size + 1, 7, none⟩ = some (.int .i64 q.nd) ∧ wx.cell? ⟨w.heap.size + 1, 8, none⟩ = some (.int .i64 q.bt) ∧ wx.cell? ⟨b1, o1 + i, none⟩ = some (.string y) ∧ Hid (Box3P w A B C wx))) (by kernel_rfl) (SE.out _ (HX.out.keep ((Below.refl _ _).drew))) (fun hHeld => ?_)
                  refine wpAnyH_to (i := 0) (v := ?vg0) (a1 := ?xg0) rfl (by kernel_rfl) (by kernel_rfl) (by kernel_rfl) (fun _ _ _ h => h) (Or.inl ⟨by rfl, ?yg0⟩) (by assumption) ?hg0 ?zg0
                  case yg0 => (intro w hSw; (try dsimp only at hSw); go_simp; try (with_reducible rfl))
                  case hg0 => (go_simp; exact rfl)
                  case zg0 =>
                  refine wpAnyH_to (i := 1) (v := ?vg1) (a1 := ?xg1) rfl (by kernel_rfl) (by kernel_rfl) (by kernel_rfl) (fun _ _ _ h => h) (Or.inl ⟨by rfl, ?yg1⟩) (by assumption) ?hg1 ?zg1
                  case yg1 => (intro w hSw; (try dsimp only at hSw); go_simp; try (with_reducible rfl))
                  case hg1 => (go_simp; exact rfl)
                  case zg1 =>
                  refine wpAnyH_to (i := 2) (v := ?vg2) (a1 := ?xg2) rfl (by kernel_rfl) (by kernel_rfl) (by kernel_rfl) (fun _ _ _ h => h) (Or.inl ⟨by rfl, ?yg2⟩) (by assumption) ?hg2 ?zg2
                  case yg2 => (intro w hSw; (try dsimp only at hSw); go_simp; try (with_reducible rfl))
                  case hg2 => (go_simp; exact rfl)
                  case zg2 =>
                  refine wpAnyH_to (i := 3) (v := ?vg3) (a1 := ?xg3) rfl (by kernel_rfl) (by kernel_rfl) (by kernel_rfl) (fun _ _ _ h => h) (Or.inl ⟨by rfl, ?yg3⟩) (by assumption) ?hg3 ?zg3
                  case yg3 => (intro w hSw; (try dsimp only at hSw); go_simp; try (with_reducible rfl))
                  case hg3 => (go_simp; exact rfl)
                  case zg3 =>
                  refine wpAnyH_to (i := 4) (v := ?vg4) (a1 := ?xg4) rfl (by kernel_rfl) (by kernel_rfl) (by kernel_rfl) (fun _ _ _ h => h) (Or.inl ⟨by rfl, ?yg4⟩) (by assumption) ?hg4 ?zg4
                  case yg4 => (intro w hSw; (try dsimp only at hSw); go_simp; try (with_reducible rfl))
                  case hg4 => (go_simp; exact rfl)
                  case zg4 =>
                  refine wpAnyH_to (i := 5) (v := ?vg5) (a1 := ?xg5) rfl (by kernel_rfl) (by kernel_rfl) (by kernel_rfl) (fun _ _ _ h => h) (Or.inl ⟨by rfl, ?yg5⟩) (by assumption) ?hg5 ?zg5
                  case yg5 => (intro w hSw; (try dsimp only at hSw); go_simp; try (with_reducible rfl))
                  case hg5 => (go_simp; exact rfl)
                  case zg5 =>
                  refine wpAnyH_to (i := 6) (v := ?vg6) (a1 := ?xg6) rfl (by kernel_rfl) (by kernel_rfl) (by kernel_rfl) (fun _ _ _ h => h) (Or.inl ⟨by rfl, ?yg6⟩) (by assumption) ?hg6 ?zg6
                  case yg6 => (intro w hSw; (try dsimp only at hSw); go_simp; try (with_reducible rfl))
                  case hg6 => (go_simp; exact rfl)
                  case zg6 =>
                  refine wpAnyH_to (i := 7) (v := ?vg7) (a1 := ?xg7) rfl (by kernel_rfl) (by kernel_rfl) (by kernel_rfl) (fun _ _ _ h => h) (Or.inl ⟨by rfl, ?yg7⟩) (by assumption) ?hg7 ?zg7
                  case yg7 => (intro w hSw; (try dsimp only at hSw); go_simp; try (with_reducible rfl))
                  case hg7 => (go_simp; exact rfl)
                  case zg7 =>
                  refine wpAnyH_to (i := 8) (v := ?vg8) (a1 := ?xg8) rfl (by kernel_rfl) (by kernel_rfl) (by kernel_rfl) (fun _ _ _ h => h) (Or.inl ⟨by rfl, ?yg8⟩) (by assumption) ?hg8 ?zg8
                  case yg8 => (intro w hSw; (try dsimp only at hSw); go_simp; try (with_reducible rfl))
                  case hg8 => (go_simp; exact rfl)
                  case zg8 =>
                  refine wpAnyH_to (i := 9) (v := ?vg9) (a1 := ?xg9) rfl (by kernel_rfl) (by kernel_rfl) (by kernel_rfl) (fun _ _ _ h => h) (Or.inl ⟨by rfl, ?yg9⟩) (by assumption) ?hg9 ?zg9
                  case yg9 => (intro w hSw; (try dsimp only at hSw); go_simp; try (with_reducible rfl))
                  case hg9 => (go_simp; exact rfl)
                  case zg9 =>
                  refine wpAnyH_ready (rs := [10]) (by kernel_rfl) (by simp) ?_
                  refine AllReadyH.cons rfl (fun K hK => ?_) AllReadyH.nil
                  go_simp
                  refine (HA1.out _ (SB.out _ (by assumption))).mono ?_
                  rintro e w7 ⟨rfl, h7⟩
                  try go_wp2_with fail
                  refine hK.out _ _ (SE.out _ (by assumption)) (fun hHeld2 => ?_)
                  clear hK K hHeld
                  have hHeld := hHeld2
                  clear hHeld2
                  refine wpAnyH_to (i := 11) (v := ?vg11) (a1 := ?xg11) rfl (by kernel_rfl) (by kernel_rfl) (by kernel_rfl) (fun _ _ _ h => h) (Or.inl ⟨by rfl, ?yg11⟩) (by assumption) ?hg11 ?zg11
                  case yg11 => (intro w hSw; (try dsimp only at hSw); go_simp; try (with_reducible rfl))
                  case hg11 => (go_simp; exact rfl)
                  case zg11 =>
                  refine wpAnyH_to (i := 12) (v := undef) (a1 := ?xg12) rfl (by kernel_rfl) (by kernel_rfl) (by kernel_rfl) (fun _ _ _ h => h) (Or.inr ⟨by rfl, rfl⟩) (by assumption) ?hg12 ?zg12
                  case hg12 => (go_simp; exact rfl)
                  case zg12 =>
                  refine wpAnyH_to (i := 13) (v := undef) (a1 := ?xg13) rfl (by kernel_rfl) (by kernel_rfl) (by kernel_rfl) (fun _ _ _ h => h) (Or.inr ⟨by rfl, rfl⟩) (by assumption) ?hg13 ?zg13
                  case hg13 => (go_simp; exact rfl)
                  case zg13 =>
                  refine wpAnyH_to (i := 14) (v := undef) (a1 := ?xg14) rfl (by kernel_rfl) (by kernel_rfl) (by kernel_rfl) (fun _ _ _ h => h) (Or.inr ⟨by rfl, rfl⟩) (by assumption) ?hg14 ?zg14
                  case hg14 => (go_simp; exact rfl)
                  case zg14 =>
                  refine wpAnyH_to (i := 15) (v := undef) (a1 := ?xg15) rfl (by kernel_rfl) (by kernel_rfl) (by kernel_rfl) (fun _ _ _ h => h) (Or.inr ⟨by rfl, rfl⟩) (by assumption) ?hg15 ?zg15
                  case hg15 => (go_simp; exact rfl)
                  case zg15 =>
                  refine wpAnyH_to (i := 16) (v := undef) (a1 := ?xg16) rfl (by kernel_rfl) (by kernel_rfl) (by kernel_rfl) (fun _ _ _ h => h) (Or.inr ⟨by rfl, rfl⟩) (by assumption) ?hg16 ?zg16
                  case hg16 => (go_simp; exact rfl)
                  case zg16 =>
                  refine wpAnyH_to (i := 17) (v := undef) (a1 := ?xg17) rfl (by kernel_rfl) (by kernel_rfl) (by kernel_rfl) (fun _ _ _ h => h) (Or.inr ⟨by rfl, rfl⟩) (by assumption) ?hg17 ?zg17
                  case hg17 => (go_simp; exact rfl)
                  case zg17 =>
                  refine wpAnyH_to (i := 18) (v := undef) (a1 := ?xg18) rfl (by kernel_rfl) (by kernel_rfl) (by kernel_rfl) (fun _ _ _ h => h) (Or.inr ⟨by rfl, rfl⟩) (by assumption) ?hg18 ?zg18
                  case hg18 => (go_simp; exact rfl)
                  case zg18 =>
                  refine wpAnyH_to (i := 19) (v := undef) (a1 := ?xg19) rfl (by kernel_rfl) (by kernel_rfl) (by kernel_rfl) (fun _ _ _ h => h) (Or.inr ⟨by rfl, rfl⟩) (by assumption) ?hg19 ?zg19
                  case hg19 => (go_simp; exact rfl)
                  case zg19 =>
                  refine wpAnyH_to (i := 20) (v := undef) (a1 := ?xg20) rfl (by kernel_rfl) (by kernel_rfl) (by kernel_rfl) (fun _ _ _ h => h) (Or.inr ⟨by rfl, rfl⟩) (by assumption) ?hg20 ?zg20
                  case hg20 => (go_simp; exact rfl)
                  case zg20 =>
                  refine wpAnyH_to (i := 21) (v := undef) (a1 := ?xg21) rfl (by kernel_rfl) (by kernel_rfl) (by kernel_rfl) (fun _ _ _ h => h) (Or.inr ⟨by rfl, rfl⟩) (by assumption) ?hg21 ?zg21
                  case hg21 => (go_simp; exact rfl)
                  case zg21 =>
                  refine wpAnyH_to (i := 22) (v := undef) (a1 := ?xg22) rfl (by kernel_rfl) (by kernel_rfl) (by kernel_rfl) (fun _ _ _ h => h) (Or.inr ⟨by rfl, rfl⟩) (by assumption) ?hg22 ?zg22
                  case hg22 => (go_simp; exact rfl)
                  case zg22 =>
                  refine wpAnyH_to (i := 23) (v := undef) (a1 := ?xg23) rfl (by kernel_rfl) (by kernel_rfl) (by kernel_rfl) (fun _ _ _ h => h) (Or.inr ⟨by rfl, rfl⟩) (by assumption) ?hg23 ?zg23
                  case hg23 => (go_simp; exact rfl)
                  case zg23 =>
                  refine wpAnyH_to (i := 24) (v := ?vg24) (a1 := ?xg24) rfl (by kernel_rfl) (by kernel_rfl) (by kernel_rfl) (fun _ _ _ h => h) (Or.inl ⟨by rfl, ?yg24⟩) (by assumption) ?hg24 ?zg24
                  case yg24 => (intro w hSw; (try dsimp only at hSw); go_simp; try (with_reducible rfl))
                  case hg24 => (go_simp; exact rfl)
                  case zg24 =>
                  refine wpAnyH_done (by kernel_rfl) ?_ _
                  have HX7 := hide (SB.out _ (by assumption))
                  clear HA1 HA2 SE SB SK
                  go_wp2_with fail
                  go_roundg (N2 - k - 1)
                  case measure => omega
                  case rel => exact ⟨k + 1, by omega, by first | rfl | simp, HX7⟩
                | true =>
                  rw [HAE.out rfl] at HA2
                  clear HAE
                  refine wp_region_held_drew (S := (fun wx => wx.cell? ⟨w.heap.size, 0, none⟩ = some (.int .i64 p.ep) ∧ wx.cell? ⟨w.heap.size, 1, none⟩ = some (.slice (some ⟨b1, o1, none⟩) N1 c1) ∧ wx.cell? ⟨w.heap.size, 2, none⟩ = some (.slice (some ⟨b2, o2, none⟩) N2 c2) ∧ wx.cell? ⟨w.heap.size, 3, none⟩ = some v3 ∧ wx.cell? ⟨w.heap.size, 4, none⟩ = some v4 ∧ wx.cell? ⟨w.heap.size, 5, none⟩ = some v5 ∧ wx.cell? ⟨w.heap.size, 6, none⟩ = some (.int .i64 p.dp) ∧ wx.cell? ⟨w.heap.size, 7, none⟩ = some (.int .i64 p.nd) ∧ wx.cell? ⟨w.heap.size, 8, none⟩ = some (.int .i64 p.bt) ∧ wx.cell? ⟨w.heap.size + 1, 0, none⟩ = some (.int .i64 q.ep) ∧ wx.cell? ⟨w.heap.size + 1, 1, none⟩ = some u1 ∧ wx.cell? ⟨w.heap.size + 1, 2, none⟩ = some u2 ∧ wx.cell? ⟨w.heap.size + 1, 3, none⟩ = some u3 ∧ wx.cell? ⟨w.heap.size + 1, 4, none⟩ = some u4 ∧ wx.cell? ⟨w.heap.size + 1, 5, none⟩ = some u5 ∧ wx.cell? ⟨w.heap.size + 1, 6, none⟩ = some (.int .i64 q.dp) ∧ wx.cell? ⟨w.heap.size + 1, 7, none⟩ = some (.int .i64 q.nd) ∧ wx.cell? ⟨w.heap.size + 1, 8, none⟩ = some (.int .i64 q.bt) ∧ wx.cell? ⟨b1, o1 + i, none⟩ = some (.string y) ∧ Hid (Box3P w A B C wx))) (by kernel_rfl) (SE.out _ (HX.out.keep ((Below.refl _ _).drew))) (fun hHeld => ?_)
                  refine wpAnyH_to (i := 0) (v := ?vh0) (a1 := ?xh0) rfl (by kernel_rfl) (by kernel_rfl) (by kernel_rfl) (fun _ _ _ h => h) (Or.inl ⟨by rfl, ?yh0⟩) (by assumption) ?hh0 ?zh0
                  case yh0 => (intro w hSw; (try dsimp only at hSw); go_simp; try (with_reducible rfl))
                  case hh0 => (go_simp; exact rfl)
                  case zh0 =>
                  refine wpAnyH_to (i := 1) (v := ?vh1) (a1 := ?xh1) rfl (by kernel_rfl) (by kernel_rfl) (by kernel_rfl) (fun _ _ _ h => h) (Or.inl ⟨by rfl, ?yh1⟩) (by assumption) ?hh1 ?zh1
                  case yh1 => (intro w hSw; (try dsimp only at hSw); go_simp; try (with_reducible rfl))
                  case hh1 => (go_simp; exact rfl)
                  case zh1 =>
                  refine wpAnyH_to (i := 2) (v := ?vh2) (a1 := ?xh2) rfl (by kernel_rfl) (by kernel_rfl) (by kernel_rfl) (fun _ _ _ h => h) (Or.inl ⟨by rfl, ?yh2⟩) (by assumption) ?hh2 ?zh2
                  case yh2 => (intro w hSw; (try dsimp only at hSw); go_simp; try (with_reducible rfl))
                  case hh2 => (go_simp; exact rfl)
                  case zh2 =>
                  refine wpAnyH_to (i := 3) (v := ?vh3) (a1 := ?xh3) rfl (by kernel_rfl) (by kernel_rfl) (by kernel_rfl) (fun _ _ _ h => h) (Or.inl ⟨by rfl, ?yh3⟩) (by assumption) ?hh3 ?zh3
                  case yh3 => (intro w hSw; (try dsimp only at hSw); go_simp; try (with_reducible rfl))
                  case hh3 => (go_simp; exact rfl)
                  case zh3 =>
                  refine wpAnyH_to (i := 4) (v := ?vh4) (a1 := ?xh4) rfl (by kernel_rfl) (by kernel_rfl) (by kernel_rfl) (fun _ _ _ h => h) (Or.inl ⟨by rfl, ?yh4⟩) (by assumption) ?hh4 ?zh4
                  case yh4 => (intro w hSw; (try dsimp only at hSw); go_simp; try (with_reducible rfl))
                  case hh4 => (go_simp; exact rfl)
                  case zh4 =>
                  refine wpAnyH_to (i := 5) (v := ?vh5) (a1 := ?xh5) rfl (by kernel_rfl) (by kernel_rfl) (by kernel_rfl) (fun _ _ _ h => h) (Or.inl ⟨by rfl, ?yh5⟩) (by assumption) ?hh5 ?zh5
                  case yh5 => (intro w hSw; (try dsimp only at hSw); go_simp; try (with_reducible rfl))
                  case hh5 => (go_simp; exact rfl)
                  case zh5 =>
                  refine wpAnyH_to (i := 6) (v := ?vh6) (a1 := ?xh6) rfl (by kernel_rfl) (by kernel_rfl) (by kernel_rfl) (fun _ _ _ h => h) (Or.inl ⟨by rfl, ?yh6⟩) (by assumption) ?hh6 ?zh6
                  case yh6 => (intro w hSw; (try dsimp only at hSw); go_simp; try (with_reducible rfl))
                  case hh6 => (go_simp; exact rfl)
                  case zh6 =>
                  refine wpAnyH_to (i := 7) (v := ?vh7) (a1 := ?xh7) rfl (by kernel_rfl) (by kernel_rfl) (by kernel_rfl) (fun _ _ _ h => h) (Or.inl ⟨by rfl, ?yh7⟩) (by assumption) ?hh7 ?zh7
                  case yh7 => (intro w hSw; (try dsimp only at hSw); go_simp; try (with_reducible rfl))
                  case hh7 => (go_simp; exact rfl)
                  case zh7 =>
                  refine wpAnyH_to (i := 8) (v := ?vh8) (a1 := ?xh8) rfl (by kernel_rfl) (by kernel_rfl) (by kernel_rfl) (fun _ _ _ h => h) (Or.inl ⟨by rfl, ?yh8⟩) (by assumption) ?hh8 ?zh8
                  case yh8 => (intro w hSw; (try dsimp only at hSw); go_simp; try (with_reducible rfl))
                  case hh8 => (go_simp; exact rfl)
                  case zh8 =>
                  refine wpAnyH_to (i := 9) (v := ?vh9) (a1 := ?xh9) rfl (by kernel_rfl) (by kernel_rfl) (by kernel_rfl) (fun _ _ _ h => h) (Or.inl ⟨by rfl, ?yh9⟩) (by assumption) ?hh9 ?zh9
                  case yh9 => (intro w hSw; (try dsimp only at hSw); go_simp; try (with_reducible rfl))
                  case hh9 => (go_simp; exact rfl)
                  case zh9 =>
                  refine wpAnyH_ready (rs := [10]) (by kernel_rfl) (by simp) ?_
                  refine AllReadyH.cons rfl (fun K hK => ?_) AllReadyH.nil
                  go_simp
                  refine (HA1.out _ (SB.out _ (by assumption))).mono ?_
                  rintro e w7 ⟨rfl, h7⟩
                  try go_wp2_with fail
                  refine hK.out _ _ (SE.out _ (by assumption)) (fun hHeld2 => ?_)
                  clear hK K hHeld
                  have hHeld := hHeld2
                  clear hHeld2
                  refine wpAnyH_to (i := 11) (v := ?vh11) (a1 := ?xh11) rfl (by kernel_rfl) (by kernel_rfl) (by kernel_rfl) (fun _ _ _ h => h) (Or.inl ⟨by rfl, ?yh11⟩) (by assumption) ?hh11 ?zh11
                  case yh11 => (intro w hSw; (try dsimp only at hSw); go_simp; try (with_reducible rfl))
                  case hh11 => (go_simp; exact rfl)
                  case zh11 =>
                  refine wpAnyH_to (i := 12) (v := ?vh12) (a1 := ?xh12) rfl (by kernel_rfl) (by kernel_rfl) (by kernel_rfl) (fun _ _ _ h => h) (Or.inl ⟨by rfl, ?yh12⟩) (by assumption) ?hh12 ?zh12
                  case yh12 => (intro w hSw; (try dsimp only at hSw); go_simp; try (with_reducible rfl))
                  case hh12 => (go_simp; exact rfl)
                  case zh12 =>
                  refine wpAnyH_to (i := 13) (v := ?vh13) (a1 := ?xh13) rfl (by kernel_rfl) (by kernel_rfl) (by kernel_rfl) (fun _ _ _ h => h) (Or.inl ⟨by rfl, ?yh13⟩) (by assumption) ?hh13 ?zh13
                  case yh13 => (intro w hSw; (try dsimp only at hSw); go_simp; try (with_reducible rfl))
                  case hh13 => (go_simp; exact rfl)
                  case zh13 =>
                  refine wpAnyH_to (i := 14) (v := ?vh14) (a1 := ?xh14) rfl (by kernel_rfl) (by kernel_rfl) (by kernel_rfl) (fun _ _ _ h => h) (Or.inl ⟨by rfl, ?yh14⟩) (by assumption) ?hh14 ?zh14
                  case yh14 => (intro w hSw; (try dsimp only at hSw); go_simp; try (with_reducible rfl))
                  case hh14 => (go_simp; exact rfl)
                  case zh14 =>
                  refine wpAnyH_to (i := 15) (v := ?vh15) (a1 := ?xh15) rfl (by kernel_rfl) (by kernel_rfl) (by kernel_rfl) (fun _ _ _ h => h) (Or.inl ⟨by rfl, ?yh15⟩) (by assumption) ?hh15 ?zh15
                  case yh15 => (intro w hSw; (try dsimp only at hSw); go_simp; try (with_reducible rfl))
                  case hh15 => (go_simp; exact rfl)
                  case zh15 =>
                  refine wpAnyH_to (i := 16) (v := ?vh16) (a1 := ?xh16) rfl (by kernel_rfl) (by kernel_rfl) (by kernel_rfl) (fun _ _ _ h => h) (Or.inl ⟨by rfl, ?yh16⟩) (by assumption) ?hh16 ?zh16
                  case yh16 => (intro w hSw; (try dsimp only at hSw); go_simp; try (with_reducible rfl))
                  case hh16 => (go_simp; exact rfl)
                  case zh16 =>
                  refine wpAnyH_to (i := 17) (v := ?vh17) (a1 := ?xh17) rfl (by kernel_rfl) (by kernel_rfl) (by kernel_rfl) (fun _ _ _ h => h) (Or.inl ⟨by rfl, ?yh17⟩) (by assumption) ?hh17 ?zh17
                  case yh17 => (intro w hSw; (try dsimp only at hSw); go_simp; try (with_reducible rfl))
                  case hh17 => (go_simp; exact rfl)
                  case zh17 =>
                  refine wpAnyH_to (i := 18) (v := ?vh18) (a1 := ?xh18) rfl (by kernel_rfl) (by kernel_rfl) (by kernel_rfl) (fun _ _ _ h => h) (Or.inl ⟨by rfl, ?yh18⟩) (by assumption) ?hh18 ?zh18
                  case yh18 => (intro w hSw; (try dsimp only at hSw); go_simp; try (with_reducible rfl))
                  case hh18 => (go_simp; exact rfl)
                  case zh18 =>
                  refine wpAnyH_to (i := 19) (v := ?vh19) (a1 := ?xh19) rfl (by kernel_rfl) (by kernel_rfl) (by kernel_rfl) (fun _ _ _ h => h) (Or.inl ⟨by rfl, ?yh19⟩) (by assumption) ?hh19 ?zh19
                  case yh19 => (intro w hSw; (try dsimp only at hSw); go_simp; try (with_reducible rfl))
                  case hh19 => (go_simp; exact rfl)
                  case zh19 =>
                  refine wpAnyH_to (i := 20) (v := ?vh20) (a1 := ?xh20) rfl (by kernel_rfl) (by kernel_rfl) (by kernel_rfl) (fun _ _ _ h => h) (Or.inl ⟨by rfl, ?yh20⟩) (by assumption) ?hh20 ?zh20
                  case yh20 => (intro w hSw; (try dsimp only at hSw); go_simp; try (with_reducible rfl))
                  case hh20 => (go_simp; exact rfl)
                  case zh20 =>
                  refine wpAnyH_to (i := 21) (v := ?vh21) (a1 := ?xh21) rfl (by kernel_rfl) (by kernel_rfl) (by kernel_rfl) (fun _ _ _ h => h) (Or.inl ⟨by rfl, ?yh21⟩) (by assumption) ?hh21 ?zh21
                  case yh21 => (intro w hSw; (try dsimp only at hSw); go_simp; try (with_reducible rfl))
                  case hh21 => (go_simp; exact rfl)
                  case zh21 =>
                  refine wpAnyH_ready (rs := [22]) (by kernel_rfl) (by simp) ?_
                  refine AllReadyH.cons rfl (fun K hK => ?_) AllReadyH.nil
                  go_simp
                  refine (HA2.out _ (SB.out _ (by assumption))).mono ?_
                  rintro e w8 ⟨rfl, h8⟩
                  try go_wp2_with fail
                  refine hK.out _ _ (SE.out _ (by assumption)) (fun hHeld2 => ?_)
                  clear hK K hHeld
                  have hHeld := hHeld2
                  clear hHeld2
                  refine wpAnyH_to (i := 23) (v := ?vh23) (a1 := ?xh23) rfl (by kernel_rfl) (by kernel_rfl) (by kernel_rfl) (fun _ _ _ h => h) (Or.inl ⟨by rfl, ?yh23⟩) (by assumption) ?hh23 ?zh23
                  case yh23 => (intro w hSw; (try dsimp only at hSw); go_simp; try (with_reducible rfl))
                  case hh23 => (go_simp; exact rfl)
                  case zh23 =>
                  refine wpAnyH_to (i := 24) (v := ?vh24) (a1 := ?xh24) rfl (by kernel_rfl) (by kernel_rfl) (by kernel_rfl) (fun _ _ _ h => h) (Or.inl ⟨by rfl, ?yh24⟩) (by assumption) ?hh24 ?zh24
                  case yh24 => (intro w hSw; (try dsimp only at hSw); go_simp; try (with_reducible rfl))
                  case hh24 => (go_simp; exact rfl)
                  case zh24 =>
                  refine wpAnyH_done (by kernel_rfl) ?_ _
                  have HX7 := hide (SB.out _ (by assumption))
                  clear HA1 HA2 SE SB SK
                  go_wp2_with fail
                  go_roundg (N2 - k - 1)
                  case measure => omega
                  case rel => exact ⟨k + 1, by omega, by first | rfl | simp, HX7⟩
          · clear CE A1 A2 SE SB HAT
            go_wp2_with fail
            go_roundg (N1 - i - 1)
            case measure => omega
            case rel => exact ⟨i + 1, by omega, by first | rfl | simp, HX⟩
    · clear CE A1 A2 SK
      go_wp2_with fail
      go_ret
      exact ⟨rfl, HW.out.2.2.2⟩
end Go.Proofs.YteglmpaapcgfbaaDoor
