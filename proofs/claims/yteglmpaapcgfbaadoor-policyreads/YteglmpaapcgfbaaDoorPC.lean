/-
  What is asked of the functions of package policy, and awake.
-/
import Derived.Test.YteglmpaapcgfbaaDoorQ12
import Derived.KernelRfl
namespace Go.Proofs.YteglmpaapcgfbaaDoor
open Go.RowKit
open Utf1 Pol8

/-- A policy's value. -/
abbrev pval (p : Pol) (v1 v2 v3 v4 v5 : Value) : Value := .agg #[.int .i64 p.ep, v1, v2, v3, v4, v5, .int .i64 p.dp, .int .i64 p.nd, .int .i64 p.bt]
def RightC : Prop := ∀ (v1 v2 v3 v4 v5 : Value) (p : Pol) (l1 l2 l3 l4 l5 : List ByteArray) (w : World), PolV w v1 v2 v3 v4 v5 p l1 l2 l3 l4 l5 → fits p →
  Calls Tryd.prog 13 #[pval p v1 v2 v3 v4 v5] w fun e w' => e = .returned (.bool (right p)) ∧ Below w.heap.size w w'
def TextC : Prop := ∀ (v1 v2 v3 v4 v5 : Value) (p : Pol) (l1 l2 l3 l4 l5 : List ByteArray) (w : World), PolV w v1 v2 v3 v4 v5 p l1 l2 l3 l4 l5 → fits p →
  Calls Tryd.prog 11 #[pval p v1 v2 v3 v4 v5] w fun e w' => e = .returned (.tuple #[.string (if right p = true then ⟨(text p).toArray⟩ else ⟨#[]⟩), .int .i64 (if right p = true then 0 else 2)]) ∧ Below w.heap.size w w'
def ElemC : Prop := ∀ (v1 v2 v3 v4 v5 : Value) (p : Pol) (l1 l2 l3 l4 l5 : List ByteArray) (x : ByteArray) (w : World), PolV w v1 v2 v3 v4 v5 p l1 l2 l3 l4 l5 → fits p → x.size ≤ 100000 →
  Calls Tryd.prog 18 #[pval p v1 v2 v3 v4 v5, .string x] w fun e w' => e = .returned (.bool (decide (bl x ∈ p.el))) ∧ Below w.heap.size w w'
def AttrC : Prop := ∀ (v1 v2 v3 v4 v5 : Value) (p : Pol) (l1 l2 l3 l4 l5 : List ByteArray) (x y : ByteArray) (w : World), PolV w v1 v2 v3 v4 v5 p l1 l2 l3 l4 l5 → fits p → x.size ≤ 100000 → y.size ≤ 100000 →
  Calls Tryd.prog 20 #[pval p v1 v2 v3 v4 v5, .string x, .string y] w fun e w' => e = .returned (.bool (attrB p (bl x) (bl y))) ∧ Below w.heap.size w w'
def awP : Pol := ⟨1, [[97]], [[97, 46, 104, 114, 101, 102]], [], [], [], 9, 99, 999⟩
theorem awP_right : right awP = true := by kernel_rfl
theorem awP_attr : attrB awP [97] [104, 114, 101, 102] = true := by kernel_rfl
theorem awP_text : text awP = [101, 112, 111, 99, 104, 32, 49, 10, 101, 108, 101, 109, 32, 97, 10, 97, 116, 116, 114, 32, 97, 46, 104, 114, 101, 102, 10, 99, 97, 112, 115, 32, 57, 32, 57, 57, 32, 57, 57, 57, 10] := by
  have d1 : dec 1 = [49] := dec_small 1 (by omega)
  have d9 : dec 9 = [57] := dec_small 9 (by omega)
  have d99 : dec 99 = [57, 57] := by
    rw [dec_big 99 (by omega), show 99 / 10 = 9 from rfl, d9]
    rfl
  have d999 : dec 999 = [57, 57, 57] := by
    rw [dec_big 999 (by omega), show 999 / 10 = 99 from rfl, d99]
    rfl
  show kEpoch ++ [32] ++ dec 1 ++ [10] ++ lns kElem [[97]] ++ lns kAttr [[97, 46, 104, 114, 101, 102]] ++ lns kScheme [] ++ lns kClass [] ++ lns kProp [] ++ kCaps ++ [32] ++ dec 9 ++ [32] ++ dec 99 ++ [32] ++ dec 999 ++ [10] = _
  rw [d1, d9, d99, d999]
  rfl
theorem awP_fits : fits awP := by
  intro l hl
  simp only [awP, List.mem_cons, List.not_mem_nil, or_false] at hl
  rcases hl with rfl | rfl | rfl | rfl | rfl <;> simp
theorem one_row (w : World) (x : ByteArray) (t : TypeId) : StrArg (w.alloc (.cells #[.string x] t)) (.slice (some ⟨w.heap.size, 0, none⟩) 1 1) [x] := strArg_row w [x] t

set_option maxRecDepth 100000 in
set_option maxHeartbeats 8000000 in
theorem awake_any (hT : TextC) (hR : RightC) (hA : AttrC) (w : World) (hg : Glob w) :
    Calls Tryd.prog 9 #[] w fun e w' => e = .returned (.bool true) ∧ Below w.heap.size w w' := by
  obtain ⟨s1, hs1⟩ : ∃ s1 : ByteArray, s1 = ⟨#[97]⟩ := ⟨_, rfl⟩
  obtain ⟨w2, hw2⟩ : ∃ w2, w2 = (w.alloc (.cells #[.string ⟨#[97]⟩] 9)).alloc (.cells #[.string ⟨#[97, 46, 104, 114, 101, 102]⟩] 9) := ⟨_, rfl⟩
  obtain ⟨b1, hb1⟩ : ∃ b1, b1 = w.heap.size := ⟨_, rfl⟩
  have hz2 : w2.heap.size = b1 + 1 + 1 := by rw [hw2, hb1]; simp
  obtain ⟨A, hAA⟩ : ∃ A : Array Value, A = #[.int .i64 1, .slice (some ⟨b1, 0, none⟩) 1 1, .slice (some ⟨b1 + 1, 0, none⟩) 1 1, .slice none 0 0, .slice none 0 0, .slice none 0 0, .int .i64 9, .int .i64 99, .int .i64 999] := ⟨_, rfl⟩
  obtain ⟨w3, hw3⟩ : ∃ w3, w3 = w2.alloc (.cells A 24) := ⟨_, rfl⟩
  have HB2 : Hid (Below w.heap.size w w2) := hide (by rw [hw2]; exact bel_alloc (bel_alloc (Below.refl _ _) _) _)
  have HN : Hid (BoxP w2 A w3) := hide (by rw [hw3]; exact ⟨new_block _ _ _, bel_alloc (Below.refl _ _) _⟩)
  have HP : Hid (PolV w2 (.slice (some ⟨b1, 0, none⟩) 1 1) (.slice (some ⟨b1 + 1, 0, none⟩) 1 1) (.slice none 0 0) (.slice none 0 0) (.slice none 0 0) awP [⟨#[97]⟩] [⟨#[97, 46, 104, 114, 101, 102]⟩] [] [] []) := hide (by
    have r1 := one_row w ⟨#[97]⟩ 9
    have r2 := one_row (w.alloc (.cells #[.string ⟨#[97]⟩] 9)) ⟨#[97, 46, 104, 114, 101, 102]⟩ 9
    have e : (w.alloc (.cells #[.string ⟨#[97]⟩] 9)).heap.size = b1 + 1 := by rw [hb1]; simp
    rw [e, ← hw2] at r2
    rw [← hb1] at r1
    have r1' := r1.below (w' := w2) (by rw [hw2]; exact bel_alloc (Below.refl _ _) _)
    exact ⟨r1', r2, strArg_nil _, strArg_nil _, strArg_nil _, rfl, rfl, rfl, rfl, rfl, hg.below HB2.out⟩)
  have CT : Hid (∀ wx, BoxP w2 A wx → Calls Tryd.prog 11 #[.agg #[.int .i64 1, .slice (some ⟨b1, 0, none⟩) 1 1, .slice (some ⟨b1 + 1, 0, none⟩) 1 1, .slice none 0 0, .slice none 0 0, .slice none 0 0, .int .i64 9, .int .i64 99, .int .i64 999]] wx fun e w' => e = .returned (.tuple #[.string ⟨#[101, 112, 111, 99, 104, 32, 49, 10, 101, 108, 101, 109, 32, 97, 10, 97, 116, 116, 114, 32, 97, 46, 104, 114, 101, 102, 10, 99, 97, 112, 115, 32, 57, 32, 57, 57, 32, 57, 57, 57, 10]⟩, .int .i64 0]) ∧ BoxP w2 A w') := hide (fun wx h => by
    have := hT _ _ _ _ _ awP _ _ _ _ _ wx (HP.out.below h.2) awP_fits
    rw [awP_right, if_pos rfl, if_pos rfl, awP_text] at this
    exact this.mono fun e w' ⟨h1, h2⟩ => ⟨h1, h.keep h2⟩)
  have CR : Hid (∀ wx, BoxP w2 A wx → Calls Tryd.prog 13 #[.agg #[.int .i64 1, .slice (some ⟨b1, 0, none⟩) 1 1, .slice (some ⟨b1 + 1, 0, none⟩) 1 1, .slice none 0 0, .slice none 0 0, .slice none 0 0, .int .i64 9, .int .i64 99, .int .i64 999]] wx fun e w' => e = .returned (.bool true) ∧ BoxP w2 A w') := hide (fun wx h => by
    have := hR _ _ _ _ _ awP _ _ _ _ _ wx (HP.out.below h.2) awP_fits
    rw [awP_right] at this
    exact this.mono fun e w' ⟨h1, h2⟩ => ⟨h1, h.keep h2⟩)
  have CA : Hid (∀ wx, BoxP w2 A wx → Calls Tryd.prog 20 #[.agg #[.int .i64 1, .slice (some ⟨b1, 0, none⟩) 1 1, .slice (some ⟨b1 + 1, 0, none⟩) 1 1, .slice none 0 0, .slice none 0 0, .slice none 0 0, .int .i64 9, .int .i64 99, .int .i64 999], .string ⟨#[97]⟩, .string ⟨#[104, 114, 101, 102]⟩] wx fun e w' => e = .returned (.bool true) ∧ BoxP w2 A w') := hide (fun wx h => by
    have := hA _ _ _ _ _ awP _ _ _ _ _ ⟨#[97]⟩ ⟨#[104, 114, 101, 102]⟩ wx (HP.out.below h.2) awP_fits (by decide) (by decide)
    rw [show attrB awP (bl ⟨#[97]⟩) (bl ⟨#[104, 114, 101, 102]⟩) = true from awP_attr] at this
    exact this.mono fun e w' ⟨h1, h2⟩ => ⟨h1, h.keep h2⟩)
  have HY : Hid (∀ wx, BoxP w2 A wx → wx.cell? ⟨b1 + 1 + 1, 0, none⟩ = some (.int .i64 1) ∧ wx.cell? ⟨b1 + 1 + 1, 1, none⟩ = some (.slice (some ⟨b1, 0, none⟩) 1 1) ∧ wx.cell? ⟨b1 + 1 + 1, 2, none⟩ = some (.slice (some ⟨b1 + 1, 0, none⟩) 1 1) ∧ wx.cell? ⟨b1 + 1 + 1, 3, none⟩ = some (.slice none 0 0) ∧ wx.cell? ⟨b1 + 1 + 1, 4, none⟩ = some (.slice none 0 0) ∧ wx.cell? ⟨b1 + 1 + 1, 5, none⟩ = some (.slice none 0 0) ∧ wx.cell? ⟨b1 + 1 + 1, 6, none⟩ = some (.int .i64 9) ∧ wx.cell? ⟨b1 + 1 + 1, 7, none⟩ = some (.int .i64 99) ∧ wx.cell? ⟨b1 + 1 + 1, 8, none⟩ = some (.int .i64 999)) := hide (fun wx h => by
    rw [← hz2]
    exact ⟨h.cell 0 _ (by rw [hAA]; rfl), h.cell 1 _ (by rw [hAA]; rfl), h.cell 2 _ (by rw [hAA]; rfl), h.cell 3 _ (by rw [hAA]; rfl), h.cell 4 _ (by rw [hAA]; rfl), h.cell 5 _ (by rw [hAA]; rfl), h.cell 6 _ (by rw [hAA]; rfl), h.cell 7 _ (by rw [hAA]; rfl), h.cell 8 _ (by rw [hAA]; rfl)⟩)
  rw [hAA, hw2] at hw3
  clear hT hR hA HP hz2 hAA hs1 hw2 hg
  go_enter Tryd.func9, Tryd.ntmps9
  go_upto_region 2 with fail
  rw [← hb1, ← hw3]
  have HB1 := hide hb1
  clear hw3 hb1
  obtain ⟨y0, y1, y2, y3, y4, y5, y6, y7, y8⟩ := HY.out w3 HN.out
  go_wp2_with fail
  refine (CT.out _ HN.out).mono ?_
  rintro e w4 ⟨rfl, h4⟩
  have H4 := hide h4
  clear h4 y0 y1 y2 y3 y4 y5 y6 y7 y8
  obtain ⟨y0, y1, y2, y3, y4, y5, y6, y7, y8⟩ := HY.out w4 H4.out
  go_wp2_with fail
  refine (CR.out _ H4.out).mono ?_
  rintro e w5 ⟨rfl, h5⟩
  have H5 := hide h5
  clear h5 y0 y1 y2 y3 y4 y5 y6 y7 y8
  obtain ⟨y0, y1, y2, y3, y4, y5, y6, y7, y8⟩ := HY.out w5 H5.out
  go_wp2_with fail
  refine (CA.out _ H5.out).mono ?_
  rintro e w6 ⟨rfl, h6⟩
  have H6 := hide h6
  clear h6 y0 y1 y2 y3 y4 y5 y6 y7 y8
  go_wp2_with fail
  go_ret
  exact ⟨rfl, bel2 HB2.out H6.out.2⟩
end Go.Proofs.YteglmpaapcgfbaaDoor
