/-
  The law MsgTexts.
-/
import Derived.Test.YtebcpmgooodmpaaGreatDoorML4
import Derived.Test.YtebcpmgooodmpaaGreatDoorMD9
namespace Go.Proofs.YtebcpmgooodmpaaGreatDoor
open Go.RowKit
open Utf1
open Pol8 hiding text right Right
open Msg15

set_option maxRecDepth 100000 in
set_option maxHeartbeats 64000000 in
theorem texts_walk {m : Ms} {vi vp v1 v2 v3 v4 v5 : Value} {ids : List ByteArray} {ts : List (ByteArray × ByteArray)} {l1 l2 l3 l4 l5 : List ByteArray} (w : World) (ha : MA w m vi vp v1 v2 v3 v4 v5 ids ts l1 l2 l3 l4 l5) (hge : GlobE w) :
    Calls Tryz.prog 3 #[mval m.kind m.fr m.to m.ep vi vp m.pol v1 v2 v3 v4 v5] w fun e w' => e = .returned (.bool true) ∧ Below w.heap.size w w' := by
  have hg := ha.hv.g
  have CA : Hid (∀ wx, Below w.heap.size w wx → Calls Tryz.prog 9 #[] wx fun e w' => e = .returned (.bool true) ∧ Below wx.heap.size wx w') := hide (fun wx hx => eawake_any wx (hg.below hx) (hge.below hx))
  have CL : Hid (∀ wx, Below w.heap.size w wx → Calls Tryz.prog 10 #[mval m.kind m.fr m.to m.ep vi vp m.pol v1 v2 v3 v4 v5] wx fun e w' => LightQ m e ∧ Below wx.heap.size wx w') := hide (fun wx hx => light_go (ha.below hx))
  obtain ⟨r, hr⟩ : ∃ r : Bool, r = true ↔ MRight m := by
    by_cases h : MRight m
    · exact ⟨true, fun _ => h, fun _ => rfl⟩
    · exact ⟨false, fun h' => (by cases h'), fun h' => absurd h' h⟩
  obtain ⟨T, hT⟩ : ∃ T : ByteArray, T = if r = true then ⟨(textM m).toArray⟩ else ⟨#[]⟩ := ⟨_, rfl⟩
  obtain ⟨z, hz⟩ : ∃ z : Int, z = if r = true then 0 else 2 := ⟨_, rfl⟩
  have HEQ : Hid (∀ e, EncQ m e → e = .returned (.tuple #[.string T, .int .i64 z])) := hide (fun e h => by
    rcases h with ⟨h1, h2⟩ | ⟨h1, h2⟩
    · rw [h2, hT, hz, if_pos (hr.2 h1), if_pos (hr.2 h1)]
    · have hf : r ≠ true := fun h => h1 (hr.1 h)
      rw [h2, hT, hz, if_neg hf, if_neg hf])
  have CE : Hid (light m.pol ∧ m.ids.length ≤ 100 ∧ m.posts.length ≤ 100 → ∀ wx, Below w.heap.size w wx → Calls Tryz.prog 11 #[mval m.kind m.fr m.to m.ep vi vp m.pol v1 v2 v3 v4 v5] wx fun e w' => e = .returned (.tuple #[.string T, .int .i64 z]) ∧ Below wx.heap.size wx w') := hide (fun hl wx hx => (eencode_any m _ _ _ _ _ _ _ ids ts l1 l2 l3 l4 l5 wx ((ha.below hx).mv hl.1 hl.2.1 hl.2.2)).mono fun e w' ⟨h1, h2⟩ => ⟨HEQ.out e h1, h2⟩)
  have CM : Hid (light m.pol ∧ m.ids.length ≤ 100 ∧ m.posts.length ≤ 100 → ∀ wx, Below w.heap.size w wx → Calls Tryz.prog 12 #[mval m.kind m.fr m.to m.ep vi vp m.pol v1 v2 v3 v4 v5] wx fun e w' => e = .returned (.tuple #[.string T, .int .i64 z]) ∧ Below wx.heap.size wx w') := hide (fun hl wx hx => (mencode_any m _ _ _ _ _ _ _ ids ts l1 l2 l3 l4 l5 wx ((ha.below hx).mv hl.1 hl.2.1 hl.2.2)).mono fun e w' ⟨h1, h2⟩ => ⟨HEQ.out e h1, h2⟩)
  have CR : Hid (light m.pol ∧ m.ids.length ≤ 100 ∧ m.posts.length ≤ 100 → ∀ wx, Below w.heap.size w wx → Calls Tryz.prog 13 #[mval m.kind m.fr m.to m.ep vi vp m.pol v1 v2 v3 v4 v5] wx fun e w' => e = .returned (.bool r) ∧ Below wx.heap.size wx w') := hide (fun hl wx hx => by
    have h2 := (ha.below hx).mv hl.1 hl.2.1 hl.2.2
    refine (eright_any m.kind m.fr m.to m.ep _ _ ids ts _ _ _ _ _ m.pol l1 l2 l3 l4 l5 wx h2.hi h2.hp h2.hv h2.hf h2.li h2.lp m (by rw [← h2.ei, ← h2.ep])).mono ?_
    rintro e w' ⟨⟨b, rfl, hb⟩, hbel⟩
    have : b = r := by rw [Bool.eq_iff_iff, hb, hr]
    rw [this]
    exact ⟨rfl, hbel⟩)
  have CQ : Hid (light m.pol ∧ m.ids.length ≤ 100 ∧ m.posts.length ≤ 100 → ∀ wx, Below w.heap.size w wx → Calls Tryz.prog 14 #[mval m.kind m.fr m.to m.ep vi vp m.pol v1 v2 v3 v4 v5] wx fun e w' => e = .returned (.bool r) ∧ Below wx.heap.size wx w') := hide (fun hl wx hx => by
    have h2 := (ha.below hx).mv hl.1 hl.2.1 hl.2.2
    refine (mright_any m.kind m.fr m.to m.ep _ _ ids ts _ _ _ _ _ m.pol l1 l2 l3 l4 l5 wx h2.hi h2.hp h2.hv h2.hf h2.li h2.lp m (by rw [← h2.ei, ← h2.ep])).mono ?_
    rintro e w' ⟨⟨b, rfl, hb⟩, hbel⟩
    have : b = r := by rw [Bool.eq_iff_iff, hb, hr]
    rw [this]
    exact ⟨rfl, hbel⟩)
  obtain ⟨pi, ni, ci, rfl⟩ : ∃ q n c, vi = .slice q n c := by obtain ⟨q, c, e, -, -⟩ := ha.hi; exact ⟨_, _, _, e⟩
  obtain ⟨pp, np, cp, rfl⟩ : ∃ q n c, vp = .slice q n c := by obtain ⟨q, c, e, -, -, -⟩ := ha.hp; exact ⟨_, _, _, e⟩
  obtain ⟨q1, n1, c1, rfl⟩ : ∃ q n c, v1 = .slice q n c := by obtain ⟨q, c, e, -, -⟩ := ha.hv.s1; exact ⟨_, _, _, e⟩
  obtain ⟨q2, n2, c2, rfl⟩ : ∃ q n c, v2 = .slice q n c := by obtain ⟨q, c, e, -, -⟩ := ha.hv.s2; exact ⟨_, _, _, e⟩
  obtain ⟨q3, n3, c3, rfl⟩ : ∃ q n c, v3 = .slice q n c := by obtain ⟨q, c, e, -, -⟩ := ha.hv.s3; exact ⟨_, _, _, e⟩
  obtain ⟨q4, n4, c4, rfl⟩ : ∃ q n c, v4 = .slice q n c := by obtain ⟨q, c, e, -, -⟩ := ha.hv.s4; exact ⟨_, _, _, e⟩
  obtain ⟨q5, n5, c5, rfl⟩ : ∃ q n c, v5 = .slice q n c := by obtain ⟨q, c, e, -, -⟩ := ha.hv.s5; exact ⟨_, _, _, e⟩
  clear ha hg hge hr hT hz HEQ
  obtain ⟨A, hA⟩ : ∃ A : Array Value, A = #[.int .i64 m.kind, .int .i64 m.fr, .int .i64 m.to, .int .i64 m.ep, .slice pi ni ci, .slice pp np cp, .int .i64 m.pol.ep, .slice q1 n1 c1, .slice q2 n2 c2, .slice q3 n3 c3, .slice q4 n4 c4, .slice q5 n5 c5, .int .i64 m.pol.dp, .int .i64 m.pol.nd, .int .i64 m.pol.bt] := ⟨_, rfl⟩
  obtain ⟨w1, hw1⟩ : ∃ w1, w1 = w.alloc (.cells A 27) := ⟨_, rfl⟩
  have HN1 : Hid (MBox w A w1) := hide (by rw [hw1]; exact ⟨new_block _ _ _, bel_alloc (Below.refl _ _) _⟩)
  have SK : Hid (∀ wx, MBox w A wx → wx.cell? ⟨w.heap.size, 0, none⟩ = some (.int .i64 m.kind) ∧ wx.cell? ⟨w.heap.size, 1, none⟩ = some (.int .i64 m.fr) ∧ wx.cell? ⟨w.heap.size, 2, none⟩ = some (.int .i64 m.to) ∧ wx.cell? ⟨w.heap.size, 3, none⟩ = some (.int .i64 m.ep) ∧ wx.cell? ⟨w.heap.size, 4, none⟩ = some (.slice pi ni ci) ∧ wx.cell? ⟨w.heap.size, 5, none⟩ = some (.slice pp np cp) ∧ wx.cell? ⟨w.heap.size, 6, none⟩ = some (.int .i64 m.pol.ep) ∧ wx.cell? ⟨w.heap.size, 7, none⟩ = some (.slice q1 n1 c1) ∧ wx.cell? ⟨w.heap.size, 8, none⟩ = some (.slice q2 n2 c2) ∧ wx.cell? ⟨w.heap.size, 9, none⟩ = some (.slice q3 n3 c3) ∧ wx.cell? ⟨w.heap.size, 10, none⟩ = some (.slice q4 n4 c4) ∧ wx.cell? ⟨w.heap.size, 11, none⟩ = some (.slice q5 n5 c5) ∧ wx.cell? ⟨w.heap.size, 12, none⟩ = some (.int .i64 m.pol.dp) ∧ wx.cell? ⟨w.heap.size, 13, none⟩ = some (.int .i64 m.pol.nd) ∧ wx.cell? ⟨w.heap.size, 14, none⟩ = some (.int .i64 m.pol.bt)) := hide (fun wx h => by
    subst hA
    exact ⟨h.cell 0 _ rfl, h.cell 1 _ rfl, h.cell 2 _ rfl, h.cell 3 _ rfl, h.cell 4 _ rfl, h.cell 5 _ rfl, h.cell 6 _ rfl, h.cell 7 _ rfl, h.cell 8 _ rfl, h.cell 9 _ rfl, h.cell 10 _ rfl, h.cell 11 _ rfl, h.cell 12 _ rfl, h.cell 13 _ rfl, h.cell 14 _ rfl⟩)
  have SN : Hid (∀ wx, MBox w A wx → wx.cell? ⟨w.heap.size, 0, none⟩ = some (.int .i64 m.kind) ∧ wx.cell? ⟨w.heap.size, 1, none⟩ = some (.int .i64 m.fr) ∧ wx.cell? ⟨w.heap.size, 2, none⟩ = some (.int .i64 m.to) ∧ wx.cell? ⟨w.heap.size, 3, none⟩ = some (.int .i64 m.ep) ∧ wx.cell? ⟨w.heap.size, 4, none⟩ = some (.slice pi ni ci) ∧ wx.cell? ⟨w.heap.size, 5, none⟩ = some (.slice pp np cp) ∧ wx.cell? ⟨w.heap.size, 6, none⟩ = some (.int .i64 m.pol.ep) ∧ wx.cell? ⟨w.heap.size, 7, none⟩ = some (.slice q1 n1 c1) ∧ wx.cell? ⟨w.heap.size, 8, none⟩ = some (.slice q2 n2 c2) ∧ wx.cell? ⟨w.heap.size, 9, none⟩ = some (.slice q3 n3 c3) ∧ wx.cell? ⟨w.heap.size, 10, none⟩ = some (.slice q4 n4 c4) ∧ wx.cell? ⟨w.heap.size, 11, none⟩ = some (.slice q5 n5 c5) ∧ wx.cell? ⟨w.heap.size, 12, none⟩ = some (.int .i64 m.pol.dp) ∧ wx.cell? ⟨w.heap.size, 13, none⟩ = some (.int .i64 m.pol.nd) ∧ wx.cell? ⟨w.heap.size, 14, none⟩ = some (.int .i64 m.pol.bt) ∧ Hid (MBox w A wx)) := hide (fun wx h => by
    obtain ⟨y0, y1, y2, y3, y4, y5, y6, y7, y8, y9, y10, y11, y12, y13, y14⟩ := SK.out wx h
    exact ⟨y0, y1, y2, y3, y4, y5, y6, y7, y8, y9, y10, y11, y12, y13, y14, h⟩)
  have SB : Hid (∀ wx, (wx.cell? ⟨w.heap.size, 0, none⟩ = some (.int .i64 m.kind) ∧ wx.cell? ⟨w.heap.size, 1, none⟩ = some (.int .i64 m.fr) ∧ wx.cell? ⟨w.heap.size, 2, none⟩ = some (.int .i64 m.to) ∧ wx.cell? ⟨w.heap.size, 3, none⟩ = some (.int .i64 m.ep) ∧ wx.cell? ⟨w.heap.size, 4, none⟩ = some (.slice pi ni ci) ∧ wx.cell? ⟨w.heap.size, 5, none⟩ = some (.slice pp np cp) ∧ wx.cell? ⟨w.heap.size, 6, none⟩ = some (.int .i64 m.pol.ep) ∧ wx.cell? ⟨w.heap.size, 7, none⟩ = some (.slice q1 n1 c1) ∧ wx.cell? ⟨w.heap.size, 8, none⟩ = some (.slice q2 n2 c2) ∧ wx.cell? ⟨w.heap.size, 9, none⟩ = some (.slice q3 n3 c3) ∧ wx.cell? ⟨w.heap.size, 10, none⟩ = some (.slice q4 n4 c4) ∧ wx.cell? ⟨w.heap.size, 11, none⟩ = some (.slice q5 n5 c5) ∧ wx.cell? ⟨w.heap.size, 12, none⟩ = some (.int .i64 m.pol.dp) ∧ wx.cell? ⟨w.heap.size, 13, none⟩ = some (.int .i64 m.pol.nd) ∧ wx.cell? ⟨w.heap.size, 14, none⟩ = some (.int .i64 m.pol.bt) ∧ Hid (MBox w A wx)) → MBox w A wx) := hide (fun wx h => h.2.2.2.2.2.2.2.2.2.2.2.2.2.2.2)
  rw [hA] at hw1
  clear hA
  go_enter Tryz.func3, Tryz.ntmps3
  go_upto_region 1 with fail
  rw [← hw1]
  clear hw1
  go_wp2_with fail
  refine (CA.out _ HN1.out.2).mono ?_
  rintro e w2 ⟨rfl, hb2⟩
  have HN2 := hide (HN1.out.keep hb2)
  clear hb2 CA HN1
  obtain ⟨y0, y1, y2, y3, y4, y5, y6, y7, y8, y9, y10, y11, y12, y13, y14⟩ := SK.out _ HN2.out
  go_wp2_with fail
  refine (CL.out _ HN2.out.2).mono ?_
  rintro e w3 ⟨⟨b, rfl, hb⟩, hb3⟩
  have HN3 := hide (HN2.out.keep hb3)
  have HL := hide hb
  clear hb hb3 CL HN2 y0 y1 y2 y3 y4 y5 y6 y7 y8 y9 y10 y11 y12 y13 y14
  cases hbb : b with
  | false =>
    subst hbb
    go_wp2_with fail
    go_ret
    exact ⟨rfl, HN3.out.2⟩
  | true =>
  have HLL := hide (HL.out hbb)
  subst hbb
  have CE2 := hide (CE.out ⟨HLL.out.1, HLL.out.2.1, HLL.out.2.2.1⟩)
  have CM2 := hide (CM.out ⟨HLL.out.1, HLL.out.2.1, HLL.out.2.2.1⟩)
  have CR2 : Hid (∀ wx, MBox w A wx → Calls Tryz.prog 13 #[.agg #[.int .i64 m.kind, .int .i64 m.fr, .int .i64 m.to, .int .i64 m.ep, .slice pi ni ci, .slice pp np cp, .int .i64 m.pol.ep, .slice q1 n1 c1, .slice q2 n2 c2, .slice q3 n3 c3, .slice q4 n4 c4, .slice q5 n5 c5, .int .i64 m.pol.dp, .int .i64 m.pol.nd, .int .i64 m.pol.bt]] wx fun e w' => e = .returned (.bool r) ∧ MBox w A w') := hide (fun wx hx => (CR.out ⟨HLL.out.1, HLL.out.2.1, HLL.out.2.2.1⟩ wx hx.2).mono fun e w' ⟨h1, h2⟩ => ⟨h1, hx.keep h2⟩)
  have CQ2 : Hid (∀ wx, MBox w A wx → Calls Tryz.prog 14 #[.agg #[.int .i64 m.kind, .int .i64 m.fr, .int .i64 m.to, .int .i64 m.ep, .slice pi ni ci, .slice pp np cp, .int .i64 m.pol.ep, .slice q1 n1 c1, .slice q2 n2 c2, .slice q3 n3 c3, .slice q4 n4 c4, .slice q5 n5 c5, .int .i64 m.pol.dp, .int .i64 m.pol.nd, .int .i64 m.pol.bt]] wx fun e w' => e = .returned (.bool r) ∧ MBox w A w') := hide (fun wx hx => (CQ.out ⟨HLL.out.1, HLL.out.2.1, HLL.out.2.2.1⟩ wx hx.2).mono fun e w' ⟨h1, h2⟩ => ⟨h1, hx.keep h2⟩)
  clear CE CM CR CQ HL HLL
  obtain ⟨y0, y1, y2, y3, y4, y5, y6, y7, y8, y9, y10, y11, y12, y13, y14⟩ := SK.out _ HN3.out
  go_wp2_with fail
  refine (CE2.out _ HN3.out.2).mono ?_
  rintro e w4 ⟨rfl, hb4⟩
  have HN4 := hide (HN3.out.keep hb4)
  clear hb4 CE2 HN3 y0 y1 y2 y3 y4 y5 y6 y7 y8 y9 y10 y11 y12 y13 y14
  obtain ⟨y0, y1, y2, y3, y4, y5, y6, y7, y8, y9, y10, y11, y12, y13, y14⟩ := SK.out _ HN4.out
  go_wp2_with fail
  refine (CM2.out _ HN4.out.2).mono ?_
  rintro e w5 ⟨rfl, hb5⟩
  have HN5 := hide (HN4.out.keep hb5)
  clear hb5 CM2 HN4 y0 y1 y2 y3 y4 y5 y6 y7 y8 y9 y10 y11 y12 y13 y14
  have eT : (T.toList == T.toList) = true := beq_same rfl
  have ez : (z == z) = true := by simp
  have er : (r == r) = true := by simp
  go_wp2_with fail
  go_region_held3 (fun wx => wx.cell? ⟨w.heap.size, 0, none⟩ = some (.int .i64 m.kind) ∧ wx.cell? ⟨w.heap.size, 1, none⟩ = some (.int .i64 m.fr) ∧ wx.cell? ⟨w.heap.size, 2, none⟩ = some (.int .i64 m.to) ∧ wx.cell? ⟨w.heap.size, 3, none⟩ = some (.int .i64 m.ep) ∧ wx.cell? ⟨w.heap.size, 4, none⟩ = some (.slice pi ni ci) ∧ wx.cell? ⟨w.heap.size, 5, none⟩ = some (.slice pp np cp) ∧ wx.cell? ⟨w.heap.size, 6, none⟩ = some (.int .i64 m.pol.ep) ∧ wx.cell? ⟨w.heap.size, 7, none⟩ = some (.slice q1 n1 c1) ∧ wx.cell? ⟨w.heap.size, 8, none⟩ = some (.slice q2 n2 c2) ∧ wx.cell? ⟨w.heap.size, 9, none⟩ = some (.slice q3 n3 c3) ∧ wx.cell? ⟨w.heap.size, 10, none⟩ = some (.slice q4 n4 c4) ∧ wx.cell? ⟨w.heap.size, 11, none⟩ = some (.slice q5 n5 c5) ∧ wx.cell? ⟨w.heap.size, 12, none⟩ = some (.int .i64 m.pol.dp) ∧ wx.cell? ⟨w.heap.size, 13, none⟩ = some (.int .i64 m.pol.nd) ∧ wx.cell? ⟨w.heap.size, 14, none⟩ = some (.int .i64 m.pol.bt) ∧ Hid (MBox w A wx))
    (first | exact SN.out _ (HN5.out.keep ((Below.refl _ _).drew)) | exact SN.out _ (by assumption))
    (first
      | (go_at_call 13; refine (CR2.out _ (SB.out _ (by assumption))).mono ?_; rintro e w6 ⟨rfl, hB6⟩)
      | (go_at_call 14; refine (CQ2.out _ (SB.out _ (by assumption))).mono ?_; rintro e w6 ⟨rfl, hB6⟩))
  have HN6 := hide (SB.out _ (by assumption))
  clear CR2 CQ2 SN SB HN5
  go_wp2_with fail
  go_ret
  exact ⟨rfl, HN6.out.2⟩
end Go.Proofs.YtebcpmgooodmpaaGreatDoor
