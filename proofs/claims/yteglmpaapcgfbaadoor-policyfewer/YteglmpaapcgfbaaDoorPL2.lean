/-
  The law PolicyLets.
-/
import Derived.Test.YteglmpaapcgfbaaDoorPL1
namespace Go.Proofs.YteglmpaapcgfbaaDoor
open Go.RowKit
open Utf1 Pol8

/-- Two policies and a pair of texts in their blocks. -/
def BoxT (w : World) (A B C : Array Value) (wx : World) : Prop := wx.heap[w.heap.size]? = some (.cells A 24 (0, 0)) ∧ wx.heap[w.heap.size + 1]? = some (.cells B 24 (0, 0)) ∧ wx.heap[w.heap.size + 1 + 1]? = some (.cells C 34 (0, 0)) ∧ Below w.heap.size w wx
theorem BoxT.keep {w wx wy : World} {A B C : Array Value} (h : BoxT w A B C wx) (hb : Below wx.heap.size wx wy) : BoxT w A B C wy :=
  ⟨(hb.block _ (Array.getElem?_eq_some_iff.1 h.1).1).trans h.1, (hb.block _ (Array.getElem?_eq_some_iff.1 h.2.1).1).trans h.2.1, (hb.block _ (Array.getElem?_eq_some_iff.1 h.2.2.1).1).trans h.2.2.1, h.2.2.2.trans (hb.mono h.2.2.2.size)⟩
theorem BoxT.a {w wx : World} {A B C : Array Value} (h : BoxT w A B C wx) (i : Nat) (v : Value) (hv : A[i]? = some v) : wx.cell? ⟨w.heap.size, i, none⟩ = some v := tag_cell h.1 i v hv
theorem BoxT.b {w wx : World} {A B C : Array Value} (h : BoxT w A B C wx) (i : Nat) (v : Value) (hv : B[i]? = some v) : wx.cell? ⟨w.heap.size + 1, i, none⟩ = some v := tag_cell h.2.1 i v hv
theorem BoxT.c {w wx : World} {A B C : Array Value} (h : BoxT w A B C wx) (i : Nat) (v : Value) (hv : C[i]? = some v) : wx.cell? ⟨w.heap.size + 1 + 1, i, none⟩ = some v := tag_cell h.2.2.1 i v hv
theorem BoxT.new (w : World) (A B C : Array Value) : BoxT w A B C (((w.alloc (.cells A 24)).alloc (.cells B 24)).alloc (.cells C 34)) := by
  have h := BoxQ.new w A B
  have s2 : ((w.alloc (.cells A 24)).alloc (.cells B 24)).heap.size = w.heap.size + 1 + 1 := by simp
  have hk := h.keep (bel_alloc (Below.refl _ _) (.cells C 34))
  have k3 := new_block ((w.alloc (.cells A 24)).alloc (.cells B 24)) C 34
  rw [s2] at k3
  exact ⟨hk.1, hk.2.1, k3, hk.2.2⟩

set_option maxRecDepth 100000 in
set_option maxHeartbeats 64000000 in
theorem lawLets_walk (hT : TextC) (hR : RightC) (hA : AttrC) (hE : ElemC) (hS : StricterC) (v1 v2 v3 v4 v5 u1 u2 u3 u4 u5 : Value) (p q : Pol) (l1 l2 l3 l4 l5 m1 m2 m3 m4 m5 : List ByteArray) (x0 x1 : ByteArray) (w : World) (hv : PolV w v1 v2 v3 v4 v5 p l1 l2 l3 l4 l5) (hu : PolV w u1 u2 u3 u4 u5 q m1 m2 m3 m4 m5) :
    Calls Tryd.prog 5 #[pval p v1 v2 v3 v4 v5, pval q u1 u2 u3 u4 u5, .agg #[.string x0, .string x1]] w fun e w' => e = .returned (.bool true) ∧ Below w.heap.size w w' := by
  obtain ⟨A, hAA⟩ : ∃ A : Array Value, A = #[.int .i64 p.ep, v1, v2, v3, v4, v5, .int .i64 p.dp, .int .i64 p.nd, .int .i64 p.bt] := ⟨_, rfl⟩
  obtain ⟨B, hBB⟩ : ∃ B : Array Value, B = #[.int .i64 q.ep, u1, u2, u3, u4, u5, .int .i64 q.dp, .int .i64 q.nd, .int .i64 q.bt] := ⟨_, rfl⟩
  obtain ⟨C, hCC⟩ : ∃ C : Array Value, C = #[.string x0, .string x1] := ⟨_, rfl⟩
  obtain ⟨w1, hw1⟩ : ∃ w1, w1 = ((w.alloc (.cells A 24)).alloc (.cells B 24)).alloc (.cells C 34) := ⟨_, rfl⟩
  have HN : Hid (BoxT w A B C w1) := hide (by rw [hw1]; exact BoxT.new w A B C)
  have CW : Hid (∀ wx, BoxT w A B C wx → Calls Tryd.prog 9 #[] wx fun e w' => e = .returned (.bool true) ∧ BoxT w A B C w') := hide (fun wx h => (awake_any hT hR hA wx (hv.below h.2.2.2).g).mono fun e w' ⟨h1, h2⟩ => ⟨h1, h.keep h2⟩)
  have CL : Hid (∀ wx, BoxT w A B C wx → Calls Tryd.prog 10 #[pval p v1 v2 v3 v4 v5] wx fun e w' => (∃ b : Bool, e = .returned (.bool b) ∧ (b = true → light p)) ∧ BoxT w A B C w') := hide (fun wx h => (rlight_any v1 v2 v3 v4 v5 p l1 l2 l3 l4 l5 wx (hv.below h.2.2.2)).mono fun e w' ⟨h1, h2⟩ => ⟨h1, h.keep h2⟩)
  have CM : Hid (∀ wx, BoxT w A B C wx → Calls Tryd.prog 10 #[pval q u1 u2 u3 u4 u5] wx fun e w' => (∃ b : Bool, e = .returned (.bool b) ∧ (b = true → light q)) ∧ BoxT w A B C w') := hide (fun wx h => (rlight_any u1 u2 u3 u4 u5 q m1 m2 m3 m4 m5 wx (hu.below h.2.2.2)).mono fun e w' ⟨h1, h2⟩ => ⟨h1, h.keep h2⟩)
  have C1 : Hid (fits p → fits q → x0.size ≤ 100000 → x1.size ≤ 100000 → ∀ wx, BoxT w A B C wx → Calls Tryd.prog 18 #[pval p v1 v2 v3 v4 v5, .string x0] wx fun e w' => e = .returned (.bool (decide (bl x0 ∈ p.el))) ∧ BoxT w A B C w') := hide (fun hf hg hx0 hx1 wx h => (hE v1 v2 v3 v4 v5 p l1 l2 l3 l4 l5 x0 wx (hv.below h.2.2.2) hf hx0).mono fun e w' ⟨h1, h2⟩ => ⟨h1, h.keep h2⟩)
  have C2 : Hid (fits p → fits q → x0.size ≤ 100000 → x1.size ≤ 100000 → ∀ wx, BoxT w A B C wx → Calls Tryd.prog 19 #[v1, .string x0] wx fun e w' => e = .returned (.bool (decide (bl x0 ∈ p.el))) ∧ BoxT w A B C w') := hide (fun hf hg hx0 hx1 wx h => by
    have := rhas_any v1 l1 x0 (by have := (fits_of hf (by simp) hv.e1).1; omega) wx (hv.s1.below h.2.2.2)
    rw [hv.e1] at this
    exact this.mono fun e w' ⟨h1, h2⟩ => ⟨h1, h2 ▸ h⟩)
  have C3 : Hid (fits p → fits q → x0.size ≤ 100000 → x1.size ≤ 100000 → ∀ wx, BoxT w A B C wx → Calls Tryd.prog 20 #[pval p v1 v2 v3 v4 v5, .string x0, .string x1] wx fun e w' => e = .returned (.bool (attrB p (bl x0) (bl x1))) ∧ BoxT w A B C w') := hide (fun hf hg hx0 hx1 wx h => (hA v1 v2 v3 v4 v5 p l1 l2 l3 l4 l5 x0 x1 wx (hv.below h.2.2.2) hf hx0 hx1).mono fun e w' ⟨h1, h2⟩ => ⟨h1, h.keep h2⟩)
  have C4 : Hid (fits p → fits q → x0.size ≤ 100000 → x1.size ≤ 100000 → ∀ wx, BoxT w A B C wx → Calls Tryd.prog 21 #[pval p v1 v2 v3 v4 v5, .string x0, .string x1] wx fun e w' => e = .returned (.bool (attrB p (bl x0) (bl x1))) ∧ BoxT w A B C w') := hide (fun hf hg hx0 hx1 wx h => (rattrB_any v1 v2 v3 v4 v5 p l1 l2 l3 l4 l5 x0 x1 wx (hv.below h.2.2.2) hf hx0 hx1).mono fun e w' ⟨h1, h2⟩ => ⟨h1, h.keep h2⟩)
  have C5 : Hid (fits p → fits q → x0.size ≤ 100000 → x1.size ≤ 100000 → ∀ wx, BoxT w A B C wx → Calls Tryd.prog 22 #[pval p v1 v2 v3 v4 v5, pval q u1 u2 u3 u4 u5] wx fun e w' => e = .returned (.bool (stricter p q)) ∧ BoxT w A B C w') := hide (fun hf hg hx0 hx1 wx h => (hS v1 v2 v3 v4 v5 u1 u2 u3 u4 u5 p q l1 l2 l3 l4 l5 m1 m2 m3 m4 m5 wx (hv.below h.2.2.2) (hu.below h.2.2.2) hf hg).mono fun e w' ⟨h1, h2⟩ => ⟨h1, h.keep h2⟩)
  have C6 : Hid (fits p → fits q → x0.size ≤ 100000 → x1.size ≤ 100000 → ∀ wx, BoxT w A B C wx → Calls Tryd.prog 23 #[pval p v1 v2 v3 v4 v5, pval q u1 u2 u3 u4 u5] wx fun e w' => e = .returned (.bool (stricter p q)) ∧ BoxT w A B C w') := hide (fun hf hg hx0 hx1 wx h => (rstrict_any v1 v2 v3 v4 v5 u1 u2 u3 u4 u5 p q l1 l2 l3 l4 l5 m1 m2 m3 m4 m5 wx (hv.below h.2.2.2) (hu.below h.2.2.2) hf hg).mono fun e w' ⟨h1, h2⟩ => ⟨h1, h.keep h2⟩)
  generalize decide (bl x0 ∈ p.el) = r1 at C1 C2
  generalize attrB p (bl x0) (bl x1) = r2 at C3 C4
  generalize stricter p q = r3 at C5 C6
  have k1 : (r1 == r1) = true := by cases r1 <;> rfl
  have k2 : (r2 == r2) = true := by cases r2 <;> rfl
  have k3 : (r3 == r3) = true := by cases r3 <;> rfl
  have SK : Hid (∀ wx, BoxT w A B C wx → wx.cell? ⟨w.heap.size, 0, none⟩ = some (.int .i64 p.ep) ∧ wx.cell? ⟨w.heap.size, 1, none⟩ = some (v1) ∧ wx.cell? ⟨w.heap.size, 2, none⟩ = some (v2) ∧ wx.cell? ⟨w.heap.size, 3, none⟩ = some (v3) ∧ wx.cell? ⟨w.heap.size, 4, none⟩ = some (v4) ∧ wx.cell? ⟨w.heap.size, 5, none⟩ = some (v5) ∧ wx.cell? ⟨w.heap.size, 6, none⟩ = some (.int .i64 p.dp) ∧ wx.cell? ⟨w.heap.size, 7, none⟩ = some (.int .i64 p.nd) ∧ wx.cell? ⟨w.heap.size, 8, none⟩ = some (.int .i64 p.bt) ∧ wx.cell? ⟨w.heap.size + 1, 0, none⟩ = some (.int .i64 q.ep) ∧ wx.cell? ⟨w.heap.size + 1, 1, none⟩ = some (u1) ∧ wx.cell? ⟨w.heap.size + 1, 2, none⟩ = some (u2) ∧ wx.cell? ⟨w.heap.size + 1, 3, none⟩ = some (u3) ∧ wx.cell? ⟨w.heap.size + 1, 4, none⟩ = some (u4) ∧ wx.cell? ⟨w.heap.size + 1, 5, none⟩ = some (u5) ∧ wx.cell? ⟨w.heap.size + 1, 6, none⟩ = some (.int .i64 q.dp) ∧ wx.cell? ⟨w.heap.size + 1, 7, none⟩ = some (.int .i64 q.nd) ∧ wx.cell? ⟨w.heap.size + 1, 8, none⟩ = some (.int .i64 q.bt) ∧ wx.cell? ⟨w.heap.size + 1 + 1, 0, none⟩ = some (.string x0) ∧ wx.cell? ⟨w.heap.size + 1 + 1, 1, none⟩ = some (.string x1) ∧ Hid (BoxT w A B C wx)) := hide (fun wx h => ⟨h.a 0 _ (by rw [hAA]; rfl), h.a 1 _ (by rw [hAA]; rfl), h.a 2 _ (by rw [hAA]; rfl), h.a 3 _ (by rw [hAA]; rfl), h.a 4 _ (by rw [hAA]; rfl), h.a 5 _ (by rw [hAA]; rfl), h.a 6 _ (by rw [hAA]; rfl), h.a 7 _ (by rw [hAA]; rfl), h.a 8 _ (by rw [hAA]; rfl), h.b 0 _ (by rw [hBB]; rfl), h.b 1 _ (by rw [hBB]; rfl), h.b 2 _ (by rw [hBB]; rfl), h.b 3 _ (by rw [hBB]; rfl), h.b 4 _ (by rw [hBB]; rfl), h.b 5 _ (by rw [hBB]; rfl), h.b 6 _ (by rw [hBB]; rfl), h.b 7 _ (by rw [hBB]; rfl), h.b 8 _ (by rw [hBB]; rfl), h.c 0 _ (by rw [hCC]; rfl), h.c 1 _ (by rw [hCC]; rfl), hide h⟩)
  have SB : Hid (∀ wx, (wx.cell? ⟨w.heap.size, 0, none⟩ = some (.int .i64 p.ep) ∧ wx.cell? ⟨w.heap.size, 1, none⟩ = some (v1) ∧ wx.cell? ⟨w.heap.size, 2, none⟩ = some (v2) ∧ wx.cell? ⟨w.heap.size, 3, none⟩ = some (v3) ∧ wx.cell? ⟨w.heap.size, 4, none⟩ = some (v4) ∧ wx.cell? ⟨w.heap.size, 5, none⟩ = some (v5) ∧ wx.cell? ⟨w.heap.size, 6, none⟩ = some (.int .i64 p.dp) ∧ wx.cell? ⟨w.heap.size, 7, none⟩ = some (.int .i64 p.nd) ∧ wx.cell? ⟨w.heap.size, 8, none⟩ = some (.int .i64 p.bt) ∧ wx.cell? ⟨w.heap.size + 1, 0, none⟩ = some (.int .i64 q.ep) ∧ wx.cell? ⟨w.heap.size + 1, 1, none⟩ = some (u1) ∧ wx.cell? ⟨w.heap.size + 1, 2, none⟩ = some (u2) ∧ wx.cell? ⟨w.heap.size + 1, 3, none⟩ = some (u3) ∧ wx.cell? ⟨w.heap.size + 1, 4, none⟩ = some (u4) ∧ wx.cell? ⟨w.heap.size + 1, 5, none⟩ = some (u5) ∧ wx.cell? ⟨w.heap.size + 1, 6, none⟩ = some (.int .i64 q.dp) ∧ wx.cell? ⟨w.heap.size + 1, 7, none⟩ = some (.int .i64 q.nd) ∧ wx.cell? ⟨w.heap.size + 1, 8, none⟩ = some (.int .i64 q.bt) ∧ wx.cell? ⟨w.heap.size + 1 + 1, 0, none⟩ = some (.string x0) ∧ wx.cell? ⟨w.heap.size + 1 + 1, 1, none⟩ = some (.string x1) ∧ Hid (BoxT w A B C wx)) → BoxT w A B C wx) := hide (fun wx h => h.2.2.2.2.2.2.2.2.2.2.2.2.2.2.2.2.2.2.2.2.out)
  rw [hAA, hBB, hCC] at hw1
  clear hT hR hA hE hS hv hu hAA hBB hCC
  go_enter Tryd.func5, Tryd.ntmps5
  go_upto_region 1 with fail
  rw [← hw1]
  clear hw1
  go_wp2_with fail
  refine (CW.out _ HN.out).mono ?_
  rintro e w2 ⟨rfl, h2⟩
  have H2 := hide h2
  clear h2 CW HN
  obtain ⟨y0, y1, y2, y3, y4, y5, y6, y7, y8, y9, y10, y11, y12, y13, y14, y15, y16, y17, y18, y19, -⟩ := SK.out w2 H2.out
  go_wp2_with fail
  refine (CL.out _ H2.out).mono ?_
  rintro e w3 ⟨⟨b1, rfl, hl1⟩, h3⟩
  have H3 := hide h3
  have HL1 := hide hl1
  clear h3 hl1 CL H2 y0 y1 y2 y3 y4 y5 y6 y7 y8 y9 y10 y11 y12 y13 y14 y15 y16 y17 y18 y19
  obtain ⟨y0, y1, y2, y3, y4, y5, y6, y7, y8, y9, y10, y11, y12, y13, y14, y15, y16, y17, y18, y19, -⟩ := SK.out w3 H3.out
  go_wp2_with fail
  refine (CM.out _ H3.out).mono ?_
  rintro e w4 ⟨⟨b2, rfl, hl2⟩, h4⟩
  have H4 := hide h4
  have HL2 := hide hl2
  clear h4 hl2 CM H3 y0 y1 y2 y3 y4 y5 y6 y7 y8 y9 y10 y11 y12 y13 y14 y15 y16 y17 y18 y19
  cases b1 with
  | false =>
    go_wp2_with fail
    go_ret
    exact ⟨rfl, H4.out.2.2.2⟩
  | true =>
    cases b2 with
    | false =>
      go_wp2_with fail
      go_ret
      exact ⟨rfl, H4.out.2.2.2⟩
    | true =>
      have HF := hide (light_fits (HL1.out rfl))
      have HG := hide (light_fits (HL2.out rfl))
      obtain ⟨y0, y1, y2, y3, y4, y5, y6, y7, y8, y9, y10, y11, y12, y13, y14, y15, y16, y17, y18, y19, -⟩ := SK.out w4 H4.out
      by_cases z0 : x0.size ≤ 200
      · by_cases z1 : x1.size ≤ 200
        · have C1 := hide (C1.out HF.out HG.out (by omega) (by omega))
          have C2 := hide (C2.out HF.out HG.out (by omega) (by omega))
          have C3 := hide (C3.out HF.out HG.out (by omega) (by omega))
          have C4 := hide (C4.out HF.out HG.out (by omega) (by omega))
          have C5 := hide (C5.out HF.out HG.out (by omega) (by omega))
          have C6 := hide (C6.out HF.out HG.out (by omega) (by omega))
          go_wp2_with fail
          clear y0 y1 y2 y3 y4 y5 y6 y7 y8 y9 y10 y11 y12 y13 y14 y15 y16 y17 y18 y19 HL1 HL2 HF HG
          go_region_held3 (fun wx => wx.cell? ⟨w.heap.size, 0, none⟩ = some (.int .i64 p.ep) ∧ wx.cell? ⟨w.heap.size, 1, none⟩ = some (v1) ∧ wx.cell? ⟨w.heap.size, 2, none⟩ = some (v2) ∧ wx.cell? ⟨w.heap.size, 3, none⟩ = some (v3) ∧ wx.cell? ⟨w.heap.size, 4, none⟩ = some (v4) ∧ wx.cell? ⟨w.heap.size, 5, none⟩ = some (v5) ∧ wx.cell? ⟨w.heap.size, 6, none⟩ = some (.int .i64 p.dp) ∧ wx.cell? ⟨w.heap.size, 7, none⟩ = some (.int .i64 p.nd) ∧ wx.cell? ⟨w.heap.size, 8, none⟩ = some (.int .i64 p.bt) ∧ wx.cell? ⟨w.heap.size + 1, 0, none⟩ = some (.int .i64 q.ep) ∧ wx.cell? ⟨w.heap.size + 1, 1, none⟩ = some (u1) ∧ wx.cell? ⟨w.heap.size + 1, 2, none⟩ = some (u2) ∧ wx.cell? ⟨w.heap.size + 1, 3, none⟩ = some (u3) ∧ wx.cell? ⟨w.heap.size + 1, 4, none⟩ = some (u4) ∧ wx.cell? ⟨w.heap.size + 1, 5, none⟩ = some (u5) ∧ wx.cell? ⟨w.heap.size + 1, 6, none⟩ = some (.int .i64 q.dp) ∧ wx.cell? ⟨w.heap.size + 1, 7, none⟩ = some (.int .i64 q.nd) ∧ wx.cell? ⟨w.heap.size + 1, 8, none⟩ = some (.int .i64 q.bt) ∧ wx.cell? ⟨w.heap.size + 1 + 1, 0, none⟩ = some (.string x0) ∧ wx.cell? ⟨w.heap.size + 1 + 1, 1, none⟩ = some (.string x1) ∧ Hid (BoxT w A B C wx))
            (first | exact SK.out _ (H4.out.keep ((Below.refl _ _).drew)) | exact SK.out _ (by assumption))
            (first
              | (go_at_call 18; refine (C1.out _ (SB.out _ (by assumption))).mono ?_; rintro e w6 ⟨rfl, h6⟩)
              | (go_at_call 19; refine (C2.out _ (SB.out _ (by assumption))).mono ?_; rintro e w6 ⟨rfl, h6⟩)
              | (go_at_call 20; refine (C3.out _ (SB.out _ (by assumption))).mono ?_; rintro e w6 ⟨rfl, h6⟩)
              | (go_at_call 21; refine (C4.out _ (SB.out _ (by assumption))).mono ?_; rintro e w6 ⟨rfl, h6⟩)
              | (go_at_call 22; refine (C5.out _ (SB.out _ (by assumption))).mono ?_; rintro e w6 ⟨rfl, h6⟩)
              | (go_at_call 23; refine (C6.out _ (SB.out _ (by assumption))).mono ?_; rintro e w6 ⟨rfl, h6⟩))
          all_goals
            have H7 := hide (SB.out _ (by assumption))
            go_wp2_with fail
            go_ret
            exact ⟨rfl, H7.out.2.2.2⟩
        · go_wp2_with fail
          go_ret
          exact ⟨rfl, H4.out.2.2.2⟩
      · go_wp2_with fail
        go_ret
        exact ⟨rfl, H4.out.2.2.2⟩
end Go.Proofs.YteglmpaapcgfbaaDoor
