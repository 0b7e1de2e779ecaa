/-
  The law MsgCut.
-/
import Derived.Test.YtebcpmgooodmpaaGreatDoorML4
namespace Go.Proofs.YtebcpmgooodmpaaGreatDoor
open Go.RowKit
open Utf1
open Pol8 hiding text right Right
open Msg15

set_option maxRecDepth 100000 in
set_option maxHeartbeats 32000000 in
theorem cut_walk {m : Ms} {vi vp v1 v2 v3 v4 v5 : Value} {ids : List ByteArray} {ts : List (ByteArray × ByteArray)} {l1 l2 l3 l4 l5 : List ByteArray} (cut : Int) (w : World) (ha : MA w m vi vp v1 v2 v3 v4 v5 ids ts l1 l2 l3 l4 l5) (hge : GlobE w) :
    Calls Tryz.prog 6 #[mval m.kind m.fr m.to m.ep vi vp m.pol v1 v2 v3 v4 v5, .int .i64 cut] w fun e w' => e = .returned (.bool true) ∧ Below w.heap.size w w' := by
  have hg := ha.hv.g
  have CA : Hid (∀ wx, Below w.heap.size w wx → Calls Tryz.prog 9 #[] wx fun e w' => e = .returned (.bool true) ∧ Below wx.heap.size wx w') := hide (fun wx hx => eawake_any wx (hg.below hx) (hge.below hx))
  have CL : Hid (∀ wx, Below w.heap.size w wx → Calls Tryz.prog 10 #[mval m.kind m.fr m.to m.ep vi vp m.pol v1 v2 v3 v4 v5] wx fun e w' => LightQ m e ∧ Below wx.heap.size wx w') := hide (fun wx hx => light_go (ha.below hx))
  have CE : Hid (light m.pol ∧ m.ids.length ≤ 100 ∧ m.posts.length ≤ 100 → ∀ wx, Below w.heap.size w wx → Calls Tryz.prog 11 #[mval m.kind m.fr m.to m.ep vi vp m.pol v1 v2 v3 v4 v5] wx fun e w' => EncQ m e ∧ Below wx.heap.size wx w') := hide (fun hl wx hx => eencode_any m _ _ _ _ _ _ _ ids ts l1 l2 l3 l4 l5 wx ((ha.below hx).mv hl.1 hl.2.1 hl.2.2))
  have CD : Hid (∀ (s : ByteArray) wx, s.size ≤ 99999 → Below w.heap.size w wx → Calls Tryz.prog 15 #[.string s] wx fun e w' => DecQ w' (bl s) e ∧ Below wx.heap.size wx w') := hide (fun s wx hs hx => edecode_any s hs wx (hg.below hx) (hge.below hx))
  obtain ⟨pi, ni, ci, rfl⟩ : ∃ q n c, vi = .slice q n c := by obtain ⟨q, c, e, -, -⟩ := ha.hi; exact ⟨_, _, _, e⟩
  obtain ⟨pp, np, cp, rfl⟩ : ∃ q n c, vp = .slice q n c := by obtain ⟨q, c, e, -, -, -⟩ := ha.hp; exact ⟨_, _, _, e⟩
  obtain ⟨q1, n1, c1, rfl⟩ : ∃ q n c, v1 = .slice q n c := by obtain ⟨q, c, e, -, -⟩ := ha.hv.s1; exact ⟨_, _, _, e⟩
  obtain ⟨q2, n2, c2, rfl⟩ : ∃ q n c, v2 = .slice q n c := by obtain ⟨q, c, e, -, -⟩ := ha.hv.s2; exact ⟨_, _, _, e⟩
  obtain ⟨q3, n3, c3, rfl⟩ : ∃ q n c, v3 = .slice q n c := by obtain ⟨q, c, e, -, -⟩ := ha.hv.s3; exact ⟨_, _, _, e⟩
  obtain ⟨q4, n4, c4, rfl⟩ : ∃ q n c, v4 = .slice q n c := by obtain ⟨q, c, e, -, -⟩ := ha.hv.s4; exact ⟨_, _, _, e⟩
  obtain ⟨q5, n5, c5, rfl⟩ : ∃ q n c, v5 = .slice q n c := by obtain ⟨q, c, e, -, -⟩ := ha.hv.s5; exact ⟨_, _, _, e⟩
  clear ha hg hge
  obtain ⟨A, hA⟩ : ∃ A : Array Value, A = #[.int .i64 m.kind, .int .i64 m.fr, .int .i64 m.to, .int .i64 m.ep, .slice pi ni ci, .slice pp np cp, .int .i64 m.pol.ep, .slice q1 n1 c1, .slice q2 n2 c2, .slice q3 n3 c3, .slice q4 n4 c4, .slice q5 n5 c5, .int .i64 m.pol.dp, .int .i64 m.pol.nd, .int .i64 m.pol.bt] := ⟨_, rfl⟩
  obtain ⟨w1, hw1⟩ : ∃ w1, w1 = w.alloc (.cells A 27) := ⟨_, rfl⟩
  have HN1 : Hid (MBox w A w1) := hide (by rw [hw1]; exact ⟨new_block _ _ _, bel_alloc (Below.refl _ _) _⟩)
  have SK : Hid (∀ wx, MBox w A wx → wx.cell? ⟨w.heap.size, 0, none⟩ = some (.int .i64 m.kind) ∧ wx.cell? ⟨w.heap.size, 1, none⟩ = some (.int .i64 m.fr) ∧ wx.cell? ⟨w.heap.size, 2, none⟩ = some (.int .i64 m.to) ∧ wx.cell? ⟨w.heap.size, 3, none⟩ = some (.int .i64 m.ep) ∧ wx.cell? ⟨w.heap.size, 4, none⟩ = some (.slice pi ni ci) ∧ wx.cell? ⟨w.heap.size, 5, none⟩ = some (.slice pp np cp) ∧ wx.cell? ⟨w.heap.size, 6, none⟩ = some (.int .i64 m.pol.ep) ∧ wx.cell? ⟨w.heap.size, 7, none⟩ = some (.slice q1 n1 c1) ∧ wx.cell? ⟨w.heap.size, 8, none⟩ = some (.slice q2 n2 c2) ∧ wx.cell? ⟨w.heap.size, 9, none⟩ = some (.slice q3 n3 c3) ∧ wx.cell? ⟨w.heap.size, 10, none⟩ = some (.slice q4 n4 c4) ∧ wx.cell? ⟨w.heap.size, 11, none⟩ = some (.slice q5 n5 c5) ∧ wx.cell? ⟨w.heap.size, 12, none⟩ = some (.int .i64 m.pol.dp) ∧ wx.cell? ⟨w.heap.size, 13, none⟩ = some (.int .i64 m.pol.nd) ∧ wx.cell? ⟨w.heap.size, 14, none⟩ = some (.int .i64 m.pol.bt)) := hide (fun wx h => by
    subst hA
    exact ⟨h.cell 0 _ rfl, h.cell 1 _ rfl, h.cell 2 _ rfl, h.cell 3 _ rfl, h.cell 4 _ rfl, h.cell 5 _ rfl, h.cell 6 _ rfl, h.cell 7 _ rfl, h.cell 8 _ rfl, h.cell 9 _ rfl, h.cell 10 _ rfl, h.cell 11 _ rfl, h.cell 12 _ rfl, h.cell 13 _ rfl, h.cell 14 _ rfl⟩)
  rw [hA] at hw1
  clear hA
  go_enter Tryz.func6, Tryz.ntmps6
  go_upto_region 1 with fail
  rw [← hw1]
  clear hw1
  go_wp2_with fail
  refine (CA.out _ HN1.out.2).mono ?_
  rintro e w2 ⟨rfl, hb2⟩
  have HN2 := hide (HN1.out.keep hb2)
  clear hb2 CA HN1
  obtain ⟨y0, y1, y2, y3, y4, y5, y6, y7, y8, y9, y10, y11, y12, y13, y14⟩ := SK.out _ HN2.out
  go_wp2_with fail
  refine (CL.out _ HN2.out.2).mono ?_
  rintro e w3 ⟨⟨b, rfl, hb⟩, hb3⟩
  have HN3 := hide (HN2.out.keep hb3)
  have HL := hide hb
  clear hb hb3 CL HN2 y0 y1 y2 y3 y4 y5 y6 y7 y8 y9 y10 y11 y12 y13 y14
  cases hbb : b with
  | false =>
    subst hbb
    go_wp2_with fail
    go_ret
    exact ⟨rfl, HN3.out.2⟩
  | true =>
  have HLL := hide (HL.out hbb)
  subst hbb
  by_cases h0 : cut < 0
  · have d0 : decide (cut < 0) = true := decide_eq_true h0
    clear h0
    go_wp2_with fail
    go_ret
    exact ⟨rfl, HN3.out.2⟩
  have d0 : decide (cut < 0) = false := decide_eq_false h0
  obtain ⟨cn, rfl⟩ : ∃ cn : Nat, cut = (cn : Int) := ⟨cut.toNat, by omega⟩
  obtain ⟨y0, y1, y2, y3, y4, y5, y6, y7, y8, y9, y10, y11, y12, y13, y14⟩ := SK.out _ HN3.out
  have CE2 := hide (CE.out ⟨HLL.out.1, HLL.out.2.1, HLL.out.2.2.1⟩ _ HN3.out.2)
  clear CE HL h0
  go_wp2_with fail
  refine CE2.out.mono ?_
  rintro e w4 ⟨hq, hb4⟩
  have HN4 := hide (HN3.out.keep hb4)
  clear hb4 CE2 HN3 y0 y1 y2 y3 y4 y5 y6 y7 y8 y9 y10 y11 y12 y13 y14
  rcases hq with ⟨hR, rfl⟩ | ⟨hR, rfl⟩
  rotate_left
  · clear hR
    go_wp2_with fail
    go_ret
    exact ⟨rfl, HN4.out.2⟩
  have HR := hide hR
  obtain ⟨T, hT⟩ : ∃ T : ByteArray, T = ⟨(textM m).toArray⟩ := ⟨_, rfl⟩
  have hTb : bl T = textM m := by rw [hT]
  have hTs : T.size ≤ 60000 := by rw [← bl_len, hTb]; exact light_short hR HLL.out.2.2.2 HLL.out.1
  have hT0 : 0 < T.size := by
    rw [← bl_len, hTb]
    exact List.length_pos_iff.2 (textM_ne m)
  rw [← hT]
  have hTe : (T.toList == []) = false := by rw [ByteArray.toList_eq]; exact beq_eq_false_iff_ne.2 (fun e => by have h1 : (bl T).length = 0 := (congrArg List.length e); rw [bl_len] at h1; omega)
  have hTe2 : T.toList.isEmpty = false := by rw [empty_bl]; exact decide_eq_false (fun e => by have h1 : (bl T).length = 0 := (congrArg List.length e); rw [bl_len] at h1; omega)
  have hT0' : ((T.size : Int) == 0) = false := beq_eq_false_iff_ne.2 (by omega)
  obtain ⟨k, hk⟩ : ∃ k : Nat, k = cn % T.size := ⟨_, rfl⟩
  have hkl : k < T.size := by rw [hk]; exact Nat.mod_lt _ hT0
  have hrem : (cn : Int).tmod (T.size : Int) = (k : Int) := by rw [hk]; rfl
  have C5 := hide (CD.out (T.extract 0 k) w4 (by rw [← bl_len, extract_bl, List.length_take]; exact Nat.le_trans (Nat.min_le_left (k - 0) _) (by omega)) HN4.out.2)
  have e5 : bl (T.extract 0 k) = (textM m).take k := by rw [extract_bl, hTb]; simp
  rw [e5] at C5
  have HKL : Hid (k < (textM m).length) := hide (by rw [← hTb, bl_len]; exact hkl)
  have C6 : Hid (∀ wx, MBox w A wx → Calls Tryz.prog 15 #[.string (T ++ ⟨#[120]⟩)] wx fun e w' => DecQ w' (textM m ++ [120]) e ∧ Below wx.heap.size wx w') := hide (fun wx hx => by
    have h := CD.out (T ++ ⟨#[120]⟩) wx (by rw [app_size]; show T.size + 1 ≤ 99999; omega) hx.2
    rw [app_bl, hTb] at h
    exact h)
  clear hR hT hTb hk e5 CD
  go_wp2_with fail
  refine C5.out.mono ?_
  rintro e w5 ⟨hq, hbx⟩
  obtain ⟨mx, zx, pix, nix, cix, ppx, npx, cpx, q1x, n1x, c1x, q2x, n2x, c2x, q3x, n3x, c3x, q4x, n4x, c4x, q5x, n5x, c5x, idsx, tsx, k1x, k2x, k3x, k4x, k5x, rfl, hmvx, hdx⟩ := hq.shape
  clear hq
  obtain ⟨w6, hw6⟩ : ∃ w6, w6 = w5.alloc (.cells #[.int .i64 mx.kind, .int .i64 mx.fr, .int .i64 mx.to, .int .i64 mx.ep, .slice pix nix cix, .slice ppx npx cpx, .int .i64 mx.pol.ep, .slice q1x n1x c1x, .slice q2x n2x c2x, .slice q3x n3x c3x, .slice q4x n4x c4x, .slice q5x n5x c5x, .int .i64 mx.pol.dp, .int .i64 mx.pol.nd, .int .i64 mx.pol.bt] 27) := ⟨_, rfl⟩
  have hnx : Below w5.heap.size w5 w6 := by rw [hw6]; exact bel_alloc (Below.refl _ _) _
  have hbnx := hbx.trans (hnx.mono hbx.size)
  have Hx := hide (HN4.out.keep hbnx)
  have HZ := hide (dcd_cut HR.out HKL.out hdx).2
  have C7 := hide (C6.out _ Hx.out)
  clear hnx hbnx hmvx hdx hbx C5 C6 HN4 HKL
  go_upto_region 10 with fail
  rw [← hw6]
  clear hw6
  go_wp2_with fail
  refine C7.out.mono ?_
  rintro e w7 ⟨hq, hbu⟩
  obtain ⟨mu, zu, piu, niu, ciu, ppu, npu, cpu, q1u, n1u, c1u, q2u, n2u, c2u, q3u, n3u, c3u, q4u, n4u, c4u, q5u, n5u, c5u, idsu, tsu, k1u, k2u, k3u, k4u, k5u, rfl, hmvu, hdu⟩ := hq.shape
  clear hq
  obtain ⟨w8, hw8⟩ : ∃ w8, w8 = w7.alloc (.cells #[.int .i64 mu.kind, .int .i64 mu.fr, .int .i64 mu.to, .int .i64 mu.ep, .slice piu niu ciu, .slice ppu npu cpu, .int .i64 mu.pol.ep, .slice q1u n1u c1u, .slice q2u n2u c2u, .slice q3u n3u c3u, .slice q4u n4u c4u, .slice q5u n5u c5u, .int .i64 mu.pol.dp, .int .i64 mu.pol.nd, .int .i64 mu.pol.bt] 27) := ⟨_, rfl⟩
  have hnu : Below w7.heap.size w7 w8 := by rw [hw8]; exact bel_alloc (Below.refl _ _) _
  have hbnu := hbu.trans (hnu.mono hbu.size)
  have Hu := hide (Hx.out.keep hbnu)
  have hzu := (dcd_more HR.out hdu).2
  clear hnu hbnu hmvu hdu hbu C7 HR
  go_upto_region 11 with fail
  rw [← hw8]
  clear hw8
  subst hzu
  rcases HZ.out with rfl | rfl
  · go_wp2_with fail
    go_ret
    exact ⟨rfl, Hu.out.2⟩
  · go_wp2_with fail
    go_ret
    exact ⟨rfl, Hu.out.2⟩
end Go.Proofs.YtebcpmgooodmpaaGreatDoor
