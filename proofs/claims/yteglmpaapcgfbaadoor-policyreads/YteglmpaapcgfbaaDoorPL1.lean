/-
  The law PolicyTexts.
-/
import Derived.Test.YteglmpaapcgfbaaDoorPD
import Derived.Test.YteglmpaapcgfbaaDoorQ11
namespace Go.Proofs.YteglmpaapcgfbaaDoor
open Go.RowKit
open Utf1 Pol8

set_option maxRecDepth 100000 in
set_option maxHeartbeats 32000000 in
theorem lawTexts_walk (hT : TextC) (hR : RightC) (hA : AttrC) (v1 v2 v3 v4 v5 : Value) (p : Pol) (l1 l2 l3 l4 l5 : List ByteArray) (w : World) (hv : PolV w v1 v2 v3 v4 v5 p l1 l2 l3 l4 l5) :
    Calls Tryd.prog 3 #[pval p v1 v2 v3 v4 v5] w fun e w' => e = .returned (.bool true) ∧ Below w.heap.size w w' := by
  obtain ⟨A, hAA⟩ : ∃ A : Array Value, A = #[.int .i64 p.ep, v1, v2, v3, v4, v5, .int .i64 p.dp, .int .i64 p.nd, .int .i64 p.bt] := ⟨_, rfl⟩
  obtain ⟨w1, hw1⟩ : ∃ w1, w1 = w.alloc (.cells A 24) := ⟨_, rfl⟩
  have HN : Hid (BoxP w A w1) := hide (by rw [hw1]; exact ⟨new_block _ _ _, bel_alloc (Below.refl _ _) _⟩)
  have CW : Hid (∀ wx, BoxP w A wx → Calls Tryd.prog 9 #[] wx fun e w' => e = .returned (.bool true) ∧ BoxP w A w') := hide (fun wx h => (awake_any hT hR hA wx (hv.below h.2).g).mono fun e w' ⟨h1, h2⟩ => ⟨h1, h.keep h2⟩)
  have CL : Hid (∀ wx, BoxP w A wx → Calls Tryd.prog 10 #[pval p v1 v2 v3 v4 v5] wx fun e w' => (∃ b : Bool, e = .returned (.bool b) ∧ (b = true → light p)) ∧ BoxP w A w') := hide (fun wx h => (rlight_any v1 v2 v3 v4 v5 p l1 l2 l3 l4 l5 wx (hv.below h.2)).mono fun e w' ⟨h1, h2⟩ => ⟨h1, h.keep h2⟩)
  have CT : Hid (fits p → ∀ wx, BoxP w A wx → Calls Tryd.prog 11 #[pval p v1 v2 v3 v4 v5] wx fun e w' => e = .returned (.tuple #[.string (if right p = true then ⟨(text p).toArray⟩ else ⟨#[]⟩), .int .i64 (if right p = true then 0 else 2)]) ∧ BoxP w A w') := hide (fun hf wx h => (hT v1 v2 v3 v4 v5 p l1 l2 l3 l4 l5 wx (hv.below h.2) hf).mono fun e w' ⟨h1, h2⟩ => ⟨h1, h.keep h2⟩)
  have CU : Hid (fits p → ∀ wx, BoxP w A wx → Calls Tryd.prog 12 #[pval p v1 v2 v3 v4 v5] wx fun e w' => e = .returned (.tuple #[.string (if right p = true then ⟨(text p).toArray⟩ else ⟨#[]⟩), .int .i64 (if right p = true then 0 else 2)]) ∧ BoxP w A w') := hide (fun hf wx h => (rtext_any v1 v2 v3 v4 v5 p l1 l2 l3 l4 l5 wx (hv.below h.2) hf).mono fun e w' ⟨h1, h2⟩ => ⟨h1, h.keep h2⟩)
  have CR : Hid (fits p → ∀ wx, BoxP w A wx → Calls Tryd.prog 13 #[pval p v1 v2 v3 v4 v5] wx fun e w' => e = .returned (.bool (right p)) ∧ BoxP w A w') := hide (fun hf wx h => (hR v1 v2 v3 v4 v5 p l1 l2 l3 l4 l5 wx (hv.below h.2) hf).mono fun e w' ⟨h1, h2⟩ => ⟨h1, h.keep h2⟩)
  have CS : Hid (fits p → ∀ wx, BoxP w A wx → Calls Tryd.prog 14 #[pval p v1 v2 v3 v4 v5] wx fun e w' => e = .returned (.bool (right p)) ∧ BoxP w A w') := hide (fun hf wx h => (rright_any v1 v2 v3 v4 v5 p l1 l2 l3 l4 l5 wx (hv.below h.2) hf).mono fun e w' ⟨h1, h2⟩ => ⟨h1, h.keep h2⟩)
  generalize (⟨(text p).toArray⟩ : ByteArray) = TX at CT CU
  generalize right p = r at CT CU CR CS
  generalize (if r = true then TX else ⟨#[]⟩ : ByteArray) = T at CT CU
  generalize (if r = true then 0 else 2 : Int) = E at CT CU
  have q1 : (T.toList == T.toList) = true := beq_same rfl
  have q2 : (r == r) = true := by cases r <;> rfl
  have q3 : (E == E) = true := by simp
  have SK : Hid (∀ wx, BoxP w A wx → wx.cell? ⟨w.heap.size, 0, none⟩ = some (.int .i64 p.ep) ∧ wx.cell? ⟨w.heap.size, 1, none⟩ = some v1 ∧ wx.cell? ⟨w.heap.size, 2, none⟩ = some v2 ∧ wx.cell? ⟨w.heap.size, 3, none⟩ = some v3 ∧ wx.cell? ⟨w.heap.size, 4, none⟩ = some v4 ∧ wx.cell? ⟨w.heap.size, 5, none⟩ = some v5 ∧ wx.cell? ⟨w.heap.size, 6, none⟩ = some (.int .i64 p.dp) ∧ wx.cell? ⟨w.heap.size, 7, none⟩ = some (.int .i64 p.nd) ∧ wx.cell? ⟨w.heap.size, 8, none⟩ = some (.int .i64 p.bt) ∧ Hid (BoxP w A wx)) := hide (fun wx h => ⟨h.cell 0 _ (by rw [hAA]; rfl), h.cell 1 _ (by rw [hAA]; rfl), h.cell 2 _ (by rw [hAA]; rfl), h.cell 3 _ (by rw [hAA]; rfl), h.cell 4 _ (by rw [hAA]; rfl), h.cell 5 _ (by rw [hAA]; rfl), h.cell 6 _ (by rw [hAA]; rfl), h.cell 7 _ (by rw [hAA]; rfl), h.cell 8 _ (by rw [hAA]; rfl), hide h⟩)
  have SB : Hid (∀ wx, (wx.cell? ⟨w.heap.size, 0, none⟩ = some (.int .i64 p.ep) ∧ wx.cell? ⟨w.heap.size, 1, none⟩ = some v1 ∧ wx.cell? ⟨w.heap.size, 2, none⟩ = some v2 ∧ wx.cell? ⟨w.heap.size, 3, none⟩ = some v3 ∧ wx.cell? ⟨w.heap.size, 4, none⟩ = some v4 ∧ wx.cell? ⟨w.heap.size, 5, none⟩ = some v5 ∧ wx.cell? ⟨w.heap.size, 6, none⟩ = some (.int .i64 p.dp) ∧ wx.cell? ⟨w.heap.size, 7, none⟩ = some (.int .i64 p.nd) ∧ wx.cell? ⟨w.heap.size, 8, none⟩ = some (.int .i64 p.bt) ∧ Hid (BoxP w A wx)) → BoxP w A wx) := hide (fun wx h => h.2.2.2.2.2.2.2.2.2.out)
  rw [hAA] at hw1
  clear hT hR hA hv hAA
  go_enter Tryd.func3, Tryd.ntmps3
  go_upto_region 1 with fail
  rw [← hw1]
  clear hw1
  go_wp2_with fail
  refine (CW.out _ HN.out).mono ?_
  rintro e w2 ⟨rfl, h2⟩
  have H2 := hide h2
  clear h2 CW HN
  obtain ⟨y0, y1, y2, y3, y4, y5, y6, y7, y8, -⟩ := SK.out w2 H2.out
  go_wp2_with fail
  refine (CL.out _ H2.out).mono ?_
  rintro e w3 ⟨⟨b, rfl, hlight⟩, h3⟩
  have H3 := hide h3
  have HLI := hide hlight
  clear h3 hlight CL H2 y0 y1 y2 y3 y4 y5 y6 y7 y8
  cases b with
  | false =>
    go_wp2_with fail
    go_ret
    exact ⟨rfl, H3.out.2⟩
  | true =>
    have HF := hide (light_fits (HLI.out rfl))
    obtain ⟨y0, y1, y2, y3, y4, y5, y6, y7, y8, -⟩ := SK.out w3 H3.out
    go_wp2_with fail
    refine (CT.out HF.out _ H3.out).mono ?_
    rintro e w4 ⟨rfl, h4⟩
    have H4 := hide h4
    clear h4 CT H3 y0 y1 y2 y3 y4 y5 y6 y7 y8
    obtain ⟨y0, y1, y2, y3, y4, y5, y6, y7, y8, -⟩ := SK.out w4 H4.out
    go_wp2_with fail
    refine (CU.out HF.out _ H4.out).mono ?_
    rintro e w5 ⟨rfl, h5⟩
    have H5 := hide h5
    clear h5 CU H4 y0 y1 y2 y3 y4 y5 y6 y7 y8
    have C1 := hide (CR.out HF.out)
    have C2 := hide (CS.out HF.out)
    clear CR CS HLI
    go_wp2_with fail
    go_region_held3 (fun wx => wx.cell? ⟨w.heap.size, 0, none⟩ = some (.int .i64 p.ep) ∧ wx.cell? ⟨w.heap.size, 1, none⟩ = some v1 ∧ wx.cell? ⟨w.heap.size, 2, none⟩ = some v2 ∧ wx.cell? ⟨w.heap.size, 3, none⟩ = some v3 ∧ wx.cell? ⟨w.heap.size, 4, none⟩ = some v4 ∧ wx.cell? ⟨w.heap.size, 5, none⟩ = some v5 ∧ wx.cell? ⟨w.heap.size, 6, none⟩ = some (.int .i64 p.dp) ∧ wx.cell? ⟨w.heap.size, 7, none⟩ = some (.int .i64 p.nd) ∧ wx.cell? ⟨w.heap.size, 8, none⟩ = some (.int .i64 p.bt) ∧ Hid (BoxP w A wx))
      (first | exact SK.out _ H5.out.drew | exact SK.out _ (by assumption))
      (first
        | (go_at_call 13; refine (C1.out _ (SB.out _ (by assumption))).mono ?_; rintro e w6 ⟨rfl, h6⟩)
        | (go_at_call 14; refine (C2.out _ (SB.out _ (by assumption))).mono ?_; rintro e w6 ⟨rfl, h6⟩))
    all_goals
      have H7 := hide (SB.out _ (by assumption))
      go_wp2_with fail
      go_ret
      exact ⟨rfl, H7.out.2⟩
end Go.Proofs.YteglmpaapcgfbaaDoor
