/-
  The law PolicyBack.
-/
import Derived.Test.YteglmpaapcgfbaaDoorPL1
import Derived.Test.YteglmpaapcgfbaaDoorQ13
namespace Go.Proofs.YteglmpaapcgfbaaDoor
open Go.RowKit
open Utf1 Pol8

/-- What is read, by its shape. -/
theorem readC_use (hD : ReadC) (s : ByteArray) (w : World) (hs : s.size ≤ 99999) (hg : Glob w) (hge : GlobE w) :
    Calls Tryd.prog 15 #[.string s] w fun e w' => (∃ (q : Pol) (E : Int) (p1 : Option Addr) (n1 c1 : Nat) (p2 : Option Addr) (n2 c2 : Nat) (p3 : Option Addr) (n3 c3 : Nat) (p4 : Option Addr) (n4 c4 : Nat) (p5 : Option Addr) (n5 c5 : Nat) (m1 m2 m3 m4 m5 : List ByteArray), e = .returned (.tuple #[.agg #[.int .i64 q.ep, .slice p1 n1 c1, .slice p2 n2 c2, .slice p3 n3 c3, .slice p4 n4 c4, .slice p5 n5 c5, .int .i64 q.dp, .int .i64 q.nd, .int .i64 q.bt], .int .i64 E]) ∧ PolV w' (.slice p1 n1 c1) (.slice p2 n2 c2) (.slice p3 n3 c3) (.slice p4 n4 c4) (.slice p5 n5 c5) q m1 m2 m3 m4 m5 ∧ fits q ∧ ((E = 0 ∧ readP (bl s) = some q) ∨ (E = 2 ∧ readP (bl s) = none))) ∧ Below w.heap.size w w' := by
  have hf := read_fits (bl s) (by rw [bl_len]; exact hs)
  refine (hD s w hs hg hge).mono ?_
  rintro e w' ⟨⟨v1, v2, v3, v4, v5, m1, m2, m3, m4, m5, rfl, hu⟩, hb⟩
  refine ⟨?_, hb⟩
  obtain ⟨p1, c1, rfl, -, -⟩ := id hu.s1
  obtain ⟨p2, c2, rfl, -, -⟩ := id hu.s2
  obtain ⟨p3, c3, rfl, -, -⟩ := id hu.s3
  obtain ⟨p4, c4, rfl, -, -⟩ := id hu.s4
  obtain ⟨p5, c5, rfl, -, -⟩ := id hu.s5
  refine ⟨_, _, p1, m1.length, c1, p2, m2.length, c2, p3, m3.length, c3, p4, m4.length, c4, p5, m5.length, c5, m1, m2, m3, m4, m5, rfl, hu, hf, ?_⟩
  cases h : readP (bl s) with
  | none => exact .inr ⟨by simp, rfl⟩
  | some q => exact .inl ⟨by simp, by simp⟩
/-- A second policy in a block of its own. -/
def BoxB (w : World) (A : Array Value) (b : Nat) (B : Array Value) (wx : World) : Prop := BoxP w A wx ∧ wx.heap[b]? = some (.cells B 24 (0, 0))
theorem BoxB.keep {w wx wy : World} {A : Array Value} {b : Nat} {B : Array Value} (h : BoxB w A b B wx) (hb : Below wx.heap.size wx wy) : BoxB w A b B wy :=
  ⟨h.1.keep hb, (hb.block _ (Array.getElem?_eq_some_iff.1 h.2).1).trans h.2⟩
theorem BoxB.new {w wx : World} {A : Array Value} (h : BoxP w A wx) (B : Array Value) : BoxB w A wx.heap.size B (wx.alloc (.cells B 24)) :=
  ⟨h.keep (bel_alloc (Below.refl _ _) _), new_block _ _ _⟩

set_option maxRecDepth 100000 in
set_option maxHeartbeats 32000000 in
theorem lawBack_walk (hT : TextC) (hR : RightC) (hA : AttrC) (hD : ReadC) (v1 v2 v3 v4 v5 : Value) (p : Pol) (l1 l2 l3 l4 l5 : List ByteArray) (s : ByteArray) (w : World) (hv : PolV w v1 v2 v3 v4 v5 p l1 l2 l3 l4 l5) (hge : GlobE w) :
    Calls Tryd.prog 6 #[pval p v1 v2 v3 v4 v5, .string s] w fun e w' => e = .returned (.bool true) ∧ Below w.heap.size w w' := by
  obtain ⟨A, hAA⟩ : ∃ A : Array Value, A = #[.int .i64 p.ep, v1, v2, v3, v4, v5, .int .i64 p.dp, .int .i64 p.nd, .int .i64 p.bt] := ⟨_, rfl⟩
  obtain ⟨w1, hw1⟩ : ∃ w1, w1 = w.alloc (.cells A 24) := ⟨_, rfl⟩
  have HN : Hid (BoxP w A w1) := hide (by rw [hw1]; exact ⟨new_block _ _ _, bel_alloc (Below.refl _ _) _⟩)
  have HV := hide hv
  have CW : Hid (∀ wx, BoxP w A wx → Calls Tryd.prog 9 #[] wx fun e w' => e = .returned (.bool true) ∧ BoxP w A w') := hide (fun wx h => (awake_any hT hR hA wx (hv.below h.2).g).mono fun e w' ⟨h1, h2⟩ => ⟨h1, h.keep h2⟩)
  have CL : Hid (∀ wx, BoxP w A wx → Calls Tryd.prog 10 #[pval p v1 v2 v3 v4 v5] wx fun e w' => (∃ b : Bool, e = .returned (.bool b) ∧ (b = true → light p)) ∧ BoxP w A w') := hide (fun wx h => (rlight_any v1 v2 v3 v4 v5 p l1 l2 l3 l4 l5 wx (hv.below h.2)).mono fun e w' ⟨h1, h2⟩ => ⟨h1, h.keep h2⟩)
  have CT : Hid (fits p → ∀ wx, BoxP w A wx → Calls Tryd.prog 11 #[pval p v1 v2 v3 v4 v5] wx fun e w' => e = .returned (.tuple #[.string (if right p = true then ⟨(text p).toArray⟩ else ⟨#[]⟩), .int .i64 (if right p = true then 0 else 2)]) ∧ BoxP w A w') := hide (fun hf wx h => (hT v1 v2 v3 v4 v5 p l1 l2 l3 l4 l5 wx (hv.below h.2) hf).mono fun e w' ⟨h1, h2⟩ => ⟨h1, h.keep h2⟩)
  have CR : Hid (fits p → ∀ wx, BoxP w A wx → Calls Tryd.prog 13 #[pval p v1 v2 v3 v4 v5] wx fun e w' => e = .returned (.bool (right p)) ∧ BoxP w A w') := hide (fun hf wx h => (hR v1 v2 v3 v4 v5 p l1 l2 l3 l4 l5 wx (hv.below h.2) hf).mono fun e w' ⟨h1, h2⟩ => ⟨h1, h.keep h2⟩)
  have SK : Hid (∀ wx, BoxP w A wx → wx.cell? ⟨w.heap.size, 0, none⟩ = some (.int .i64 p.ep) ∧ wx.cell? ⟨w.heap.size, 1, none⟩ = some v1 ∧ wx.cell? ⟨w.heap.size, 2, none⟩ = some v2 ∧ wx.cell? ⟨w.heap.size, 3, none⟩ = some v3 ∧ wx.cell? ⟨w.heap.size, 4, none⟩ = some v4 ∧ wx.cell? ⟨w.heap.size, 5, none⟩ = some v5 ∧ wx.cell? ⟨w.heap.size, 6, none⟩ = some (.int .i64 p.dp) ∧ wx.cell? ⟨w.heap.size, 7, none⟩ = some (.int .i64 p.nd) ∧ wx.cell? ⟨w.heap.size, 8, none⟩ = some (.int .i64 p.bt)) := hide (fun wx h => ⟨h.cell 0 _ (by rw [hAA]; rfl), h.cell 1 _ (by rw [hAA]; rfl), h.cell 2 _ (by rw [hAA]; rfl), h.cell 3 _ (by rw [hAA]; rfl), h.cell 4 _ (by rw [hAA]; rfl), h.cell 5 _ (by rw [hAA]; rfl), h.cell 6 _ (by rw [hAA]; rfl), h.cell 7 _ (by rw [hAA]; rfl), h.cell 8 _ (by rw [hAA]; rfl)⟩)
  have HD : Hid (∀ (s : ByteArray) (wx : World), s.size ≤ 99999 → Below w.heap.size w wx → _) := hide (fun s wx h hb => readC_use hD s wx h (hv.below hb).g (hge.below hb))
  have HT := hide hT
  have HR := hide hR
  rw [hAA] at hw1
  clear hT hR hA hD hv hAA hge
  go_enter Tryd.func6, Tryd.ntmps6
  go_upto_region 1 with fail
  rw [← hw1]
  clear hw1
  go_wp2_with fail
  refine (CW.out _ HN.out).mono ?_
  rintro e w2 ⟨rfl, h2⟩
  have H2 := hide h2
  clear h2 CW HN
  obtain ⟨y0, y1, y2, y3, y4, y5, y6, y7, y8⟩ := SK.out w2 H2.out
  go_wp2_with fail
  refine (CL.out _ H2.out).mono ?_
  rintro e w3 ⟨⟨b, rfl, hlight⟩, h3⟩
  have H3 := hide h3
  have HLI := hide hlight
  clear h3 hlight CL H2 y0 y1 y2 y3 y4 y5 y6 y7 y8
  cases b with
  | false =>
    go_wp2_with fail
    go_ret
    exact ⟨rfl, H3.out.2⟩
  | true =>
    have HF := hide (light_fits (HLI.out rfl))
    obtain ⟨y0, y1, y2, y3, y4, y5, y6, y7, y8⟩ := SK.out w3 H3.out
    by_cases hs : s.size ≤ 5000
    · go_wp2_with fail
      refine (CT.out HF.out _ H3.out).mono ?_
      rintro e w4 ⟨rfl, h4⟩
      have H4 := hide h4
      clear h4 CT H3 y0 y1 y2 y3 y4 y5 y6 y7 y8
      cases hr : right p with
      | true =>
        rw [if_pos rfl, if_pos rfl]
        have HRT := hide hr
        have HSZ : Hid ((⟨(text p).toArray⟩ : ByteArray).size ≤ 99999) := hide (by rw [size_mk]; have := text_len ((right_iff p).1 hr) (by first | exact HLI.out rfl | exact HLI.out trivial); omega)
        have HRD : Hid (readP (bl ⟨(text p).toArray⟩) = some p) := hide (read_text ((right_iff p).1 hr))
        clear hr
        generalize (⟨(text p).toArray⟩ : ByteArray) = TX at HSZ HRD ⊢
        go_wp2_with fail
        refine (HD.out TX _ HSZ.out H4.out.2).mono ?_
        rintro e w7 ⟨⟨q, E, p1, n1, c1, p2, n2, c2, p3, n3, c3, p4, n4, c4, p5, n5, c5, m1, m2, m3, m4, m5, rfl, hu, hfq, hE⟩, hb7⟩
        have H7 := hide (H4.out.keep hb7)
        have HU := hide hu
        have HFQ := hide hfq
        have HE := hide hE
        clear hu hfq hE hb7 H4
        obtain ⟨w8, hw8⟩ : ∃ w8, w8 = w7.alloc (.cells #[.int .i64 q.ep, .slice p1 n1 c1, .slice p2 n2 c2, .slice p3 n3 c3, .slice p4 n4 c4, .slice p5 n5 c5, .int .i64 q.dp, .int .i64 q.nd, .int .i64 q.bt] 24) := ⟨_, rfl⟩
        have H8 : Hid (BoxB w A w7.heap.size #[.int .i64 q.ep, .slice p1 n1 c1, .slice p2 n2 c2, .slice p3 n3 c3, .slice p4 n4 c4, .slice p5 n5 c5, .int .i64 q.dp, .int .i64 q.nd, .int .i64 q.bt] w8) := hide (by rw [hw8]; exact BoxB.new H7.out _)
        have HQ8 : Hid (∀ wx, Below w8.heap.size w8 wx → PolV wx (.slice p1 n1 c1) (.slice p2 n2 c2) (.slice p3 n3 c3) (.slice p4 n4 c4) (.slice p5 n5 c5) q m1 m2 m3 m4 m5) := hide (fun wx h => by
          have h1 : Below w7.heap.size w7 w8 := by rw [hw8]; exact bel_alloc (Below.refl _ _) _
          exact HU.out.below (bel2 h1 h))
        go_upto_region 8 with fail
        rw [← hw8]
        clear hw8 H7 HU
        generalize w7.heap.size = N7 at H8 ⊢
        have SQ : Hid (∀ wx, BoxB w A N7 #[.int .i64 q.ep, .slice p1 n1 c1, .slice p2 n2 c2, .slice p3 n3 c3, .slice p4 n4 c4, .slice p5 n5 c5, .int .i64 q.dp, .int .i64 q.nd, .int .i64 q.bt] wx → wx.cell? ⟨N7, 0, none⟩ = some (.int .i64 q.ep) ∧ wx.cell? ⟨N7, 1, none⟩ = some (.slice p1 n1 c1) ∧ wx.cell? ⟨N7, 2, none⟩ = some (.slice p2 n2 c2) ∧ wx.cell? ⟨N7, 3, none⟩ = some (.slice p3 n3 c3) ∧ wx.cell? ⟨N7, 4, none⟩ = some (.slice p4 n4 c4) ∧ wx.cell? ⟨N7, 5, none⟩ = some (.slice p5 n5 c5) ∧ wx.cell? ⟨N7, 6, none⟩ = some (.int .i64 q.dp) ∧ wx.cell? ⟨N7, 7, none⟩ = some (.int .i64 q.nd) ∧ wx.cell? ⟨N7, 8, none⟩ = some (.int .i64 q.bt)) := hide (fun wx h => ⟨tag_cell h.2 0 _ rfl, tag_cell h.2 1 _ rfl, tag_cell h.2 2 _ rfl, tag_cell h.2 3 _ rfl, tag_cell h.2 4 _ rfl, tag_cell h.2 5 _ rfl, tag_cell h.2 6 _ rfl, tag_cell h.2 7 _ rfl, tag_cell h.2 8 _ rfl⟩)
        obtain ⟨rfl, hrd⟩ | ⟨rfl, hrd⟩ := HE.out
        · have hqp : q = p := by rw [HRD.out] at hrd; injection hrd with h; exact h.symm
          subst hqp
          clear hrd HE HRD HSZ
          obtain ⟨y0, y1, y2, y3, y4, y5, y6, y7, y8⟩ := SK.out w8 H8.out.1
          obtain ⟨z0, z1, z2, z3, z4, z5, z6, z7, z8⟩ := SQ.out w8 H8.out
          go_wp2_with fail
          refine (rsameP_any _ _ _ _ _ _ _ _ _ _ q q l1 l2 l3 l4 l5 m1 m2 m3 m4 m5 _ (HV.out.below H8.out.1.2) (HQ8.out _ (Below.refl _ _)) HF.out HF.out).mono ?_
          rw [(sameP_iff q q).2 rfl]
          rintro e w9 ⟨rfl, hb9⟩
          have H9 := hide (H8.out.1.keep hb9)
          clear hb9 y0 y1 y2 y3 y4 y5 y6 y7 y8 z0 z1 z2 z3 z4 z5 z6 z7 z8 H8 HQ8 SQ HFQ
          go_wp2_with fail
          refine (HD.out s _ (by omega) H9.out.2).mono ?_
          rintro e x7 ⟨⟨r, E, a1, b1, d1, a2, b2, d2, a3, b3, d3, a4, b4, d4, a5, b5, d5, k1, k2, k3, k4, k5, rfl, hu, hfq, hE⟩, hb7⟩
          have H7x := hide (H9.out.keep hb7)
          have HU := hide hu
          have HFQ := hide hfq
          have HE := hide hE
          clear hu hfq hE hb7 H9
          obtain ⟨x8, hw8⟩ : ∃ x8, x8 = x7.alloc (.cells #[.int .i64 r.ep, .slice a1 b1 d1, .slice a2 b2 d2, .slice a3 b3 d3, .slice a4 b4 d4, .slice a5 b5 d5, .int .i64 r.dp, .int .i64 r.nd, .int .i64 r.bt] 24) := ⟨_, rfl⟩
          have H8x : Hid (BoxB w A x7.heap.size #[.int .i64 r.ep, .slice a1 b1 d1, .slice a2 b2 d2, .slice a3 b3 d3, .slice a4 b4 d4, .slice a5 b5 d5, .int .i64 r.dp, .int .i64 r.nd, .int .i64 r.bt] x8) := hide (by rw [hw8]; exact BoxB.new H7x.out _)
          have HQ8x : Hid (∀ wx, Below x8.heap.size x8 wx → PolV wx (.slice a1 b1 d1) (.slice a2 b2 d2) (.slice a3 b3 d3) (.slice a4 b4 d4) (.slice a5 b5 d5) r k1 k2 k3 k4 k5) := hide (fun wx h => by
            have h1 : Below x7.heap.size x7 x8 := by rw [hw8]; exact bel_alloc (Below.refl _ _) _
            exact HU.out.below (bel2 h1 h))
          go_upto_region 12 with fail
          rw [← hw8]
          clear hw8 H7x HU
          generalize x7.heap.size = N7x at H8x ⊢
          have SQ : Hid (∀ wx, BoxB w A N7x #[.int .i64 r.ep, .slice a1 b1 d1, .slice a2 b2 d2, .slice a3 b3 d3, .slice a4 b4 d4, .slice a5 b5 d5, .int .i64 r.dp, .int .i64 r.nd, .int .i64 r.bt] wx → wx.cell? ⟨N7x, 0, none⟩ = some (.int .i64 r.ep) ∧ wx.cell? ⟨N7x, 1, none⟩ = some (.slice a1 b1 d1) ∧ wx.cell? ⟨N7x, 2, none⟩ = some (.slice a2 b2 d2) ∧ wx.cell? ⟨N7x, 3, none⟩ = some (.slice a3 b3 d3) ∧ wx.cell? ⟨N7x, 4, none⟩ = some (.slice a4 b4 d4) ∧ wx.cell? ⟨N7x, 5, none⟩ = some (.slice a5 b5 d5) ∧ wx.cell? ⟨N7x, 6, none⟩ = some (.int .i64 r.dp) ∧ wx.cell? ⟨N7x, 7, none⟩ = some (.int .i64 r.nd) ∧ wx.cell? ⟨N7x, 8, none⟩ = some (.int .i64 r.bt)) := hide (fun wx h => ⟨tag_cell h.2 0 _ rfl, tag_cell h.2 1 _ rfl, tag_cell h.2 2 _ rfl, tag_cell h.2 3 _ rfl, tag_cell h.2 4 _ rfl, tag_cell h.2 5 _ rfl, tag_cell h.2 6 _ rfl, tag_cell h.2 7 _ rfl, tag_cell h.2 8 _ rfl⟩)
          obtain ⟨rfl, hrd⟩ | ⟨rfl, hrd⟩ := HE.out
          · have HRQ : Hid (right r = true) := hide ((right_iff r).2 (read_some hrd).1)
            have HTQ : Hid ((⟨(text r).toArray⟩ : ByteArray) = s) := hide (by rw [(read_some hrd).2])
            clear hrd HE CR SK
            have q1 : (s.toList == s.toList) = true := beq_same rfl
            obtain ⟨z0, z1, z2, z3, z4, z5, z6, z7, z8⟩ := SQ.out x8 H8x.out
            go_wp2_with fail
            refine (HT.out _ _ _ _ _ r _ _ _ _ _ _ (HQ8x.out _ (Below.refl _ _)) HFQ.out).mono ?_
            rw [HRQ.out, if_pos rfl, if_pos rfl, HTQ.out]
            rintro e x9 ⟨rfl, hb9⟩
            have H9x := hide (H8x.out.keep hb9)
            have HQ9x : Hid (PolV x9 (.slice a1 b1 d1) (.slice a2 b2 d2) (.slice a3 b3 d3) (.slice a4 b4 d4) (.slice a5 b5 d5) r k1 k2 k3 k4 k5) := hide (HQ8x.out _ hb9)
            clear hb9 z0 z1 z2 z3 z4 z5 z6 z7 z8
            obtain ⟨z0, z1, z2, z3, z4, z5, z6, z7, z8⟩ := SQ.out x9 H9x.out
            go_wp2_with fail
            refine (HR.out _ _ _ _ _ r _ _ _ _ _ _ HQ9x.out HFQ.out).mono ?_
            rw [HRQ.out]
            rintro e x10 ⟨rfl, hb10⟩
            have H10x := hide (H9x.out.keep hb10)
            clear hb10 z0 z1 z2 z3 z4 z5 z6 z7 z8
            go_wp2_with fail
            go_ret
            exact ⟨rfl, H10x.out.1.2⟩
          · clear hrd HE SQ
            obtain ⟨y0, y1, y2, y3, y4, y5, y6, y7, y8⟩ := SK.out x8 H8x.out.1
            go_wp2_with fail
            refine (CR.out HF.out _ H8x.out.1).mono ?_
            rw [HRT.out]
            rintro e x9 ⟨rfl, h9⟩
            have H9x := hide h9
            clear h9 y0 y1 y2 y3 y4 y5 y6 y7 y8
            go_wp2_with fail
            go_ret
            exact ⟨rfl, H9x.out.2⟩
        · rw [HRD.out] at hrd
          cases hrd
      | false =>
        rw [if_neg (by simp), if_neg (by simp)]
        have HRT := hide hr
        clear hr
        go_wp2_with fail
        refine (HD.out s _ (by omega) H4.out.2).mono ?_
        rintro e w7 ⟨⟨q, E, p1, n1, c1, p2, n2, c2, p3, n3, c3, p4, n4, c4, p5, n5, c5, m1, m2, m3, m4, m5, rfl, hu, hfq, hE⟩, hb7⟩
        have H7 := hide (H4.out.keep hb7)
        have HU := hide hu
        have HFQ := hide hfq
        have HE := hide hE
        clear hu hfq hE hb7 H4
        obtain ⟨w8, hw8⟩ : ∃ w8, w8 = w7.alloc (.cells #[.int .i64 q.ep, .slice p1 n1 c1, .slice p2 n2 c2, .slice p3 n3 c3, .slice p4 n4 c4, .slice p5 n5 c5, .int .i64 q.dp, .int .i64 q.nd, .int .i64 q.bt] 24) := ⟨_, rfl⟩
        have H8 : Hid (BoxB w A w7.heap.size #[.int .i64 q.ep, .slice p1 n1 c1, .slice p2 n2 c2, .slice p3 n3 c3, .slice p4 n4 c4, .slice p5 n5 c5, .int .i64 q.dp, .int .i64 q.nd, .int .i64 q.bt] w8) := hide (by rw [hw8]; exact BoxB.new H7.out _)
        have HQ8 : Hid (∀ wx, Below w8.heap.size w8 wx → PolV wx (.slice p1 n1 c1) (.slice p2 n2 c2) (.slice p3 n3 c3) (.slice p4 n4 c4) (.slice p5 n5 c5) q m1 m2 m3 m4 m5) := hide (fun wx h => by
          have h1 : Below w7.heap.size w7 w8 := by rw [hw8]; exact bel_alloc (Below.refl _ _) _
          exact HU.out.below (bel2 h1 h))
        go_upto_region 12 with fail
        rw [← hw8]
        clear hw8 H7 HU
        generalize w7.heap.size = N7 at H8 ⊢
        have SQ : Hid (∀ wx, BoxB w A N7 #[.int .i64 q.ep, .slice p1 n1 c1, .slice p2 n2 c2, .slice p3 n3 c3, .slice p4 n4 c4, .slice p5 n5 c5, .int .i64 q.dp, .int .i64 q.nd, .int .i64 q.bt] wx → wx.cell? ⟨N7, 0, none⟩ = some (.int .i64 q.ep) ∧ wx.cell? ⟨N7, 1, none⟩ = some (.slice p1 n1 c1) ∧ wx.cell? ⟨N7, 2, none⟩ = some (.slice p2 n2 c2) ∧ wx.cell? ⟨N7, 3, none⟩ = some (.slice p3 n3 c3) ∧ wx.cell? ⟨N7, 4, none⟩ = some (.slice p4 n4 c4) ∧ wx.cell? ⟨N7, 5, none⟩ = some (.slice p5 n5 c5) ∧ wx.cell? ⟨N7, 6, none⟩ = some (.int .i64 q.dp) ∧ wx.cell? ⟨N7, 7, none⟩ = some (.int .i64 q.nd) ∧ wx.cell? ⟨N7, 8, none⟩ = some (.int .i64 q.bt)) := hide (fun wx h => ⟨tag_cell h.2 0 _ rfl, tag_cell h.2 1 _ rfl, tag_cell h.2 2 _ rfl, tag_cell h.2 3 _ rfl, tag_cell h.2 4 _ rfl, tag_cell h.2 5 _ rfl, tag_cell h.2 6 _ rfl, tag_cell h.2 7 _ rfl, tag_cell h.2 8 _ rfl⟩)
        obtain ⟨rfl, hrd⟩ | ⟨rfl, hrd⟩ := HE.out
        · have HRQ : Hid (right q = true) := hide ((right_iff q).2 (read_some hrd).1)
          have HTQ : Hid ((⟨(text q).toArray⟩ : ByteArray) = s) := hide (by rw [(read_some hrd).2])
          clear hrd HE CR SK
          have q1 : (s.toList == s.toList) = true := beq_same rfl
          obtain ⟨z0, z1, z2, z3, z4, z5, z6, z7, z8⟩ := SQ.out w8 H8.out
          go_wp2_with fail
          refine (HT.out _ _ _ _ _ q _ _ _ _ _ _ (HQ8.out _ (Below.refl _ _)) HFQ.out).mono ?_
          rw [HRQ.out, if_pos rfl, if_pos rfl, HTQ.out]
          rintro e w9 ⟨rfl, hb9⟩
          have H9 := hide (H8.out.keep hb9)
          have HQ9 : Hid (PolV w9 (.slice p1 n1 c1) (.slice p2 n2 c2) (.slice p3 n3 c3) (.slice p4 n4 c4) (.slice p5 n5 c5) q m1 m2 m3 m4 m5) := hide (HQ8.out _ hb9)
          clear hb9 z0 z1 z2 z3 z4 z5 z6 z7 z8
          obtain ⟨z0, z1, z2, z3, z4, z5, z6, z7, z8⟩ := SQ.out w9 H9.out
          go_wp2_with fail
          refine (HR.out _ _ _ _ _ q _ _ _ _ _ _ HQ9.out HFQ.out).mono ?_
          rw [HRQ.out]
          rintro e w10 ⟨rfl, hb10⟩
          have H10 := hide (H9.out.keep hb10)
          clear hb10 z0 z1 z2 z3 z4 z5 z6 z7 z8
          go_wp2_with fail
          go_ret
          exact ⟨rfl, H10.out.1.2⟩
        · clear hrd HE SQ
          obtain ⟨y0, y1, y2, y3, y4, y5, y6, y7, y8⟩ := SK.out w8 H8.out.1
          go_wp2_with fail
          refine (CR.out HF.out _ H8.out.1).mono ?_
          rw [HRT.out]
          rintro e w9 ⟨rfl, h9⟩
          have H9 := hide h9
          clear h9 y0 y1 y2 y3 y4 y5 y6 y7 y8
          go_wp2_with fail
          go_ret
          exact ⟨rfl, H9.out.2⟩
    · go_wp2_with fail
      go_ret
      exact ⟨rfl, H3.out.2⟩
end Go.Proofs.YteglmpaapcgfbaaDoor
