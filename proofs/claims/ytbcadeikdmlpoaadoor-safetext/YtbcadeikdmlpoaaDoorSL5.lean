/-
  The law SafeText.
-/
import Derived.Test.YtbcadeikdmlpoaaDoorSLX
import Derived.Test.YtbcadeikdmlpoaaDoorN12
namespace Go.Proofs.YtbcadeikdmlpoaaDoor
open Go.RowKit
open Utf1 Pol8

theorem nat_text {w : World} {g : Nat} {s : ByteArray} (hg : w.heap[g]? = some (.cells #[.string ⟨#[]⟩, .slice none 0 0, .string s, .slice none 0 0] 36 (0, 0))) (hz : s.size ≤ 100000) : Dm.NAt w (.slice (some ⟨g, 0, none⟩) 1 1) [.mk [] [] (bl s) []] := by
  refine ⟨2, some ⟨g, 0, none⟩, 1, rfl, (show 1 ≤ 9223372036854775807 by decide), fun i nd hi => ?_⟩
  have h0 : i = 0 := by
    have := (List.getElem?_eq_some_iff.1 hi).1
    simp at this
    exact this
  subst h0
  have e : Nd.mk [] [] (bl s) [] = nd := by simpa using hi
  subst e
  refine ⟨g, 0, none, 0, 0, none, 0, 0, rfl, tag_cell hg 0 _ rfl, tag_cell hg 1 _ rfl, tag_cell hg 2 _ rfl, tag_cell hg 3 _ rfl, ⟨Nat.zero_le _, by show (bl s).length ≤ _; rw [bl_len]; omega⟩, Dm.arow_nil w, ⟨none, 0, rfl, Nat.zero_le _, fun i nd h => absurd h (by show ([] : List Nd)[i]? ≠ some nd; simp)⟩⟩

set_option maxRecDepth 100000 in
set_option maxHeartbeats 16000000 in
theorem lawSaText_walk (hS : SafeC) (hR : RightC) (v1 v2 v3 v4 v5 : Value) (p : Pol) (l1 l2 l3 l4 l5 : List ByteArray) (s : ByteArray) (w : World) (hv : PolV w v1 v2 v3 v4 v5 p l1 l2 l3 l4 l5) :
    Calls Tryd.prog 5 #[pval p v1 v2 v3 v4 v5, .string s] w fun e w' => e = .returned (.bool true) ∧ Below w.heap.size w w' := by
  have HV := hide hv
  obtain ⟨o1, k1, rfl, -, -⟩ := hv.s1
  obtain ⟨o2, k2, rfl, -, -⟩ := hv.s2
  obtain ⟨o3, k3, rfl, -, -⟩ := hv.s3
  obtain ⟨o4, k4, rfl, -, -⟩ := hv.s4
  obtain ⟨o5, k5, rfl, -, -⟩ := hv.s5
  clear hv
  obtain ⟨w1, hw1⟩ : ∃ w1, w1 = w.alloc (.cells #[.int .i64 p.ep, .slice o1 (List.length l1) k1, .slice o2 (List.length l2) k2, .slice o3 (List.length l3) k3, .slice o4 (List.length l4) k4, .slice o5 (List.length l5) k5, .int .i64 p.dp, .int .i64 p.nd, .int .i64 p.bt] 24) := ⟨_, rfl⟩
  have H1 : Hid (BoxP w #[.int .i64 p.ep, .slice o1 (List.length l1) k1, .slice o2 (List.length l2) k2, .slice o3 (List.length l3) k3, .slice o4 (List.length l4) k4, .slice o5 (List.length l5) k5, .int .i64 p.dp, .int .i64 p.nd, .int .i64 p.bt] w1) := hide (by rw [hw1]; exact ⟨new_block _ _ _, bel_alloc (Below.refl _ _) _⟩)
  have SK : Hid (∀ wx, BoxP w #[.int .i64 p.ep, .slice o1 (List.length l1) k1, .slice o2 (List.length l2) k2, .slice o3 (List.length l3) k3, .slice o4 (List.length l4) k4, .slice o5 (List.length l5) k5, .int .i64 p.dp, .int .i64 p.nd, .int .i64 p.bt] wx → wx.cell? ⟨w.heap.size, 0, none⟩ = some (.int .i64 p.ep) ∧ wx.cell? ⟨w.heap.size, 1, none⟩ = some (.slice o1 (List.length l1) k1) ∧ wx.cell? ⟨w.heap.size, 2, none⟩ = some (.slice o2 (List.length l2) k2) ∧ wx.cell? ⟨w.heap.size, 3, none⟩ = some (.slice o3 (List.length l3) k3) ∧ wx.cell? ⟨w.heap.size, 4, none⟩ = some (.slice o4 (List.length l4) k4) ∧ wx.cell? ⟨w.heap.size, 5, none⟩ = some (.slice o5 (List.length l5) k5) ∧ wx.cell? ⟨w.heap.size, 6, none⟩ = some (.int .i64 p.dp) ∧ wx.cell? ⟨w.heap.size, 7, none⟩ = some (.int .i64 p.nd) ∧ wx.cell? ⟨w.heap.size, 8, none⟩ = some (.int .i64 p.bt) ∧ Hid (BoxP w #[.int .i64 p.ep, .slice o1 (List.length l1) k1, .slice o2 (List.length l2) k2, .slice o3 (List.length l3) k3, .slice o4 (List.length l4) k4, .slice o5 (List.length l5) k5, .int .i64 p.dp, .int .i64 p.nd, .int .i64 p.bt] wx)) := hide (fun wx h => ⟨h.cell 0 _ rfl, h.cell 1 _ rfl, h.cell 2 _ rfl, h.cell 3 _ rfl, h.cell 4 _ rfl, h.cell 5 _ rfl, h.cell 6 _ rfl, h.cell 7 _ rfl, h.cell 8 _ rfl, hide h⟩)
  have CW : Hid (∀ wx, BoxP w #[.int .i64 p.ep, .slice o1 (List.length l1) k1, .slice o2 (List.length l2) k2, .slice o3 (List.length l3) k3, .slice o4 (List.length l4) k4, .slice o5 (List.length l5) k5, .int .i64 p.dp, .int .i64 p.nd, .int .i64 p.bt] wx → Calls Tryd.prog 7 #[] wx fun e w' => e = .returned (.bool true) ∧ BoxP w #[.int .i64 p.ep, .slice o1 (List.length l1) k1, .slice o2 (List.length l2) k2, .slice o3 (List.length l3) k3, .slice o4 (List.length l4) k4, .slice o5 (List.length l5) k5, .int .i64 p.dp, .int .i64 p.nd, .int .i64 p.bt] w') := hide (fun wx h => (awake_any hS wx).mono fun _ w' ⟨h1, h2⟩ => ⟨h1, h.keep h2⟩)
  have CL : Hid (∀ wx, BoxP w #[.int .i64 p.ep, .slice o1 (List.length l1) k1, .slice o2 (List.length l2) k2, .slice o3 (List.length l3) k3, .slice o4 (List.length l4) k4, .slice o5 (List.length l5) k5, .int .i64 p.dp, .int .i64 p.nd, .int .i64 p.bt] wx → Calls Tryd.prog 8 #[.agg #[.int .i64 p.ep, .slice o1 (List.length l1) k1, .slice o2 (List.length l2) k2, .slice o3 (List.length l3) k3, .slice o4 (List.length l4) k4, .slice o5 (List.length l5) k5, .int .i64 p.dp, .int .i64 p.nd, .int .i64 p.bt]] wx fun e w' => (∃ b : Bool, e = .returned (.bool b) ∧ (b = true → light p)) ∧ BoxP w #[.int .i64 p.ep, .slice o1 (List.length l1) k1, .slice o2 (List.length l2) k2, .slice o3 (List.length l3) k3, .slice o4 (List.length l4) k4, .slice o5 (List.length l5) k5, .int .i64 p.dp, .int .i64 p.nd, .int .i64 p.bt] w') := hide (fun wx h => (rlight_any _ _ _ _ _ p _ _ _ _ _ wx (HV.out.below h.2)).mono fun _ w' ⟨h1, h2⟩ => ⟨h1, h.keep h2⟩)
  have CR : Hid (fits p → ∀ wx, BoxP w #[.int .i64 p.ep, .slice o1 (List.length l1) k1, .slice o2 (List.length l2) k2, .slice o3 (List.length l3) k3, .slice o4 (List.length l4) k4, .slice o5 (List.length l5) k5, .int .i64 p.dp, .int .i64 p.nd, .int .i64 p.bt] wx → Calls Tryd.prog 15 #[.agg #[.int .i64 p.ep, .slice o1 (List.length l1) k1, .slice o2 (List.length l2) k2, .slice o3 (List.length l3) k3, .slice o4 (List.length l4) k4, .slice o5 (List.length l5) k5, .int .i64 p.dp, .int .i64 p.nd, .int .i64 p.bt]] wx fun e w' => e = .returned (.bool (right p)) ∧ BoxP w #[.int .i64 p.ep, .slice o1 (List.length l1) k1, .slice o2 (List.length l2) k2, .slice o3 (List.length l3) k3, .slice o4 (List.length l4) k4, .slice o5 (List.length l5) k5, .int .i64 p.dp, .int .i64 p.nd, .int .i64 p.bt] w') := hide (fun hf wx h => (hR _ _ _ _ _ p _ _ _ _ _ wx (HV.out.below h.2) hf).mono fun _ w' ⟨h1, h2⟩ => ⟨h1, h.keep h2⟩)
  have C1 : Hid (fits p → right p = true → ∀ wx, BoxP w #[.int .i64 p.ep, .slice o1 (List.length l1) k1, .slice o2 (List.length l2) k2, .slice o3 (List.length l3) k3, .slice o4 (List.length l4) k4, .slice o5 (List.length l5) k5, .int .i64 p.dp, .int .i64 p.nd, .int .i64 p.bt] wx → Calls Tryd.prog 14 #[.agg #[.int .i64 p.ep, .slice o1 (List.length l1) k1, .slice o2 (List.length l2) k2, .slice o3 (List.length l3) k3, .slice o4 (List.length l4) k4, .slice o5 (List.length l5) k5, .int .i64 p.dp, .int .i64 p.nd, .int .i64 p.bt], .slice none 0 0] wx fun e w' => e = .returned (.bool true) ∧ BoxP w #[.int .i64 p.ep, .slice o1 (List.length l1) k1, .slice o2 (List.length l2) k2, .slice o3 (List.length l3) k3, .slice o4 (List.length l4) k4, .slice o5 (List.length l5) k5, .int .i64 p.dp, .int .i64 p.nd, .int .i64 p.bt] w') := hide (fun hf hr wx h => by
    have := hS _ _ _ _ _ p _ _ _ _ _ (.slice none 0 0) [] wx (HV.out.below h.2) hf (Dm.nat_nil wx) (by decide)
    rw [Saf.safe_nil ((right_iff p).1 hr)] at this
    exact this.mono fun _ w' ⟨h1, h2⟩ => ⟨h1, h.keep h2⟩)
  have C2 : Hid (fits p → right p = true → s.size ≤ 3000 → ∀ wx v, BoxP w #[.int .i64 p.ep, .slice o1 (List.length l1) k1, .slice o2 (List.length l2) k2, .slice o3 (List.length l3) k3, .slice o4 (List.length l4) k4, .slice o5 (List.length l5) k5, .int .i64 p.dp, .int .i64 p.nd, .int .i64 p.bt] wx → Dm.NAt wx v [.mk [] [] (bl s) []] → Calls Tryd.prog 14 #[.agg #[.int .i64 p.ep, .slice o1 (List.length l1) k1, .slice o2 (List.length l2) k2, .slice o3 (List.length l3) k3, .slice o4 (List.length l4) k4, .slice o5 (List.length l5) k5, .int .i64 p.dp, .int .i64 p.nd, .int .i64 p.bt], v] wx fun e w' => e = .returned (.bool (decide (bl s ≠ []))) ∧ BoxP w #[.int .i64 p.ep, .slice o1 (List.length l1) k1, .slice o2 (List.length l2) k2, .slice o3 (List.length l3) k3, .slice o4 (List.length l4) k4, .slice o5 (List.length l5) k5, .int .i64 p.dp, .int .i64 p.nd, .int .i64 p.bt] w') := hide (fun hf hr hz wx v h hn => by
    have := hS _ _ _ _ _ p _ _ _ _ _ v _ wx (HV.out.below h.2) hf hn (by rw [wsL, wsL, wsN]; simp only [List.length_nil, bl_len, waL, wsL]; omega)
    rw [Saf.safe_text ((right_iff p).1 hr)] at this
    exact this.mono fun _ w' ⟨h1, h2⟩ => ⟨h1, h.keep h2⟩)
  have g1 : s.toList.isEmpty = !decide (bl s ≠ []) := by
    rw [empty_bl]
    by_cases h : bl s = []
    · rw [decide_eq_true h, decide_eq_false (fun e => e h)]
      rfl
    · rw [decide_eq_false h, decide_eq_true h]
      rfl
  generalize decide (bl s ≠ []) = t at C2 g1
  have q1 : (t == t) = true := by cases t <;> rfl
  clear hS hR HV
  go_enter Tryd.func5, Tryd.ntmps5
  go_upto_region 1 with fail
  rw [← hw1]
  clear hw1
  go_wp2_with fail
  refine (CW.out _ H1.out).mono ?_
  rintro e w2 ⟨rfl, h2⟩
  have H2 := hide h2
  clear h2 CW H1
  obtain ⟨y0, y1, y2, y3, y4, y5, y6, y7, y8, -⟩ := SK.out w2 H2.out
  go_wp2_with fail
  refine (CL.out _ H2.out).mono ?_
  rintro e w3 ⟨⟨b1, rfl, hb1⟩, h3⟩
  have H3 := hide h3
  have HB1 := hide hb1
  clear h3 hb1 CL H2 y0 y1 y2 y3 y4 y5 y6 y7 y8
  cases b1 with
  | false =>
    go_wp2_with fail
    go_ret
    exact ⟨rfl, H3.out.2⟩
  | true =>
    by_cases hz : s.size ≤ 3000
    · have F1 := hide (light_fits (HB1.out rfl))
      have K0 := hide (CR.out F1.out)
      obtain ⟨y0, y1, y2, y3, y4, y5, y6, y7, y8, -⟩ := SK.out w3 H3.out
      clear HB1 CR
      go_wp2_with fail
      refine (K0.out _ H3.out).mono ?_
      rintro e w4 ⟨rfl, h4⟩
      have H4 := hide h4
      clear h4 K0 H3 y0 y1 y2 y3 y4 y5 y6 y7 y8
      cases hr : right p with
      | false =>
        go_wp2_with fail
        go_ret
        exact ⟨rfl, H4.out.2⟩
      | true =>
        have K1 := hide (C1.out F1.out hr)
        have K2 := hide (C2.out F1.out hr hz)
        clear C1 C2 F1 hr
        obtain ⟨y0, y1, y2, y3, y4, y5, y6, y7, y8, -⟩ := SK.out w4 H4.out
        go_wp2_with fail
        refine (K1.out _ H4.out).mono ?_
        rintro e w5 ⟨rfl, h5⟩
        have H5 := hide h5
        clear h5 K1 H4 y0 y1 y2 y3 y4 y5 y6 y7 y8
        obtain ⟨y0, y1, y2, y3, y4, y5, y6, y7, y8, -⟩ := SK.out w5 H5.out
        obtain ⟨w6, hw6⟩ : ∃ w6, w6 = w5.alloc (.cells #[.string ⟨#[]⟩, .slice none 0 0, .string s, .slice none 0 0] 36) := ⟨_, rfl⟩
        have HN6 : Hid (Dm.NAt w6 (.slice (some ⟨w5.heap.size, 0, none⟩) 1 1) [.mk [] [] (bl s) []] ∧ BoxP w #[.int .i64 p.ep, .slice o1 (List.length l1) k1, .slice o2 (List.length l2) k2, .slice o3 (List.length l3) k3, .slice o4 (List.length l4) k4, .slice o5 (List.length l5) k5, .int .i64 p.dp, .int .i64 p.nd, .int .i64 p.bt] w6) := hide (by
          rw [hw6]
          exact ⟨nat_text (new_block _ _ _) (by omega), H5.out.keep (bel_alloc (Below.refl _ _) _)⟩)
        go_wp2_with fail
        rw [← hw6]
        clear hw6
        refine (K2.out w6 _ HN6.out.2 HN6.out.1).mono ?_
        rintro e w7 ⟨rfl, h7⟩
        have H7 := hide h7
        clear h7 K2 HN6 H5 y0 y1 y2 y3 y4 y5 y6 y7 y8
        go_wp2_with fail
        go_ret
        exact ⟨ret_bool (by cases t <;> rfl), H7.out.2⟩
    · go_wp2_with fail
      go_ret
      exact ⟨rfl, H3.out.2⟩
end Go.Proofs.YtbcadeikdmlpoaaDoor
