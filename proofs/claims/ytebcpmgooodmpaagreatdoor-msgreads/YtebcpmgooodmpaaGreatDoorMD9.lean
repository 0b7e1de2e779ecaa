/-
  The document's Encode of a message, walked.
-/
import Derived.Test.YtebcpmgooodmpaaGreatDoorMD9Y
namespace Go.Proofs.YtebcpmgooodmpaaGreatDoor
open Go.RowKit
open Utf1
open Pol8 hiding text right Right
open Msg15

set_option maxRecDepth 100000 in
set_option maxHeartbeats 16000000 in
theorem mencode_bad (m : Ms) (vi vp v1 v2 v3 v4 v5 : Value) (ids : List ByteArray) (ts : List (ByteArray × ByteArray)) (l1 l2 l3 l4 l5 : List ByteArray) (w : World) (ha : MV w m vi vp v1 v2 v3 v4 v5 ids ts l1 l2 l3 l4 l5) (hR : ¬ MRight m) :
    Calls Tryz.prog 12 #[mval m.kind m.fr m.to m.ep vi vp m.pol v1 v2 v3 v4 v5] w fun e w' => e = .returned (.tuple #[.string ⟨#[]⟩, .int .i64 2]) ∧ Below w.heap.size w w' := by
  have CR : Hid (∀ wx, Below w.heap.size w wx → Calls Tryz.prog 14 #[mval m.kind m.fr m.to m.ep vi vp m.pol v1 v2 v3 v4 v5] wx fun e w' => (∃ b : Bool, e = .returned (.bool b) ∧ (b = true ↔ MRight m)) ∧ Below wx.heap.size wx w') := hide (fun wx hx => mright_any m.kind m.fr m.to m.ep _ _ ids ts _ _ _ _ _ m.pol l1 l2 l3 l4 l5 wx (ha.hi.below hx) (ha.hp.below hx) (ha.hv.below hx) ha.hf ha.li ha.lp m (by rw [← ha.ei, ← ha.ep]))
  have HR := hide hR
  obtain ⟨pi, ni, ci, rfl⟩ : ∃ q n c, vi = .slice q n c := by obtain ⟨q, c, e, -, -⟩ := ha.hi; exact ⟨_, _, _, e⟩
  obtain ⟨pp, np, cp, rfl⟩ : ∃ q n c, vp = .slice q n c := by obtain ⟨q, c, e, -, -, -⟩ := ha.hp; exact ⟨_, _, _, e⟩
  obtain ⟨q1, n1, c1, rfl⟩ : ∃ q n c, v1 = .slice q n c := by obtain ⟨q, c, e, -, -⟩ := ha.hv.s1; exact ⟨_, _, _, e⟩
  obtain ⟨q2, n2, c2, rfl⟩ : ∃ q n c, v2 = .slice q n c := by obtain ⟨q, c, e, -, -⟩ := ha.hv.s2; exact ⟨_, _, _, e⟩
  obtain ⟨q3, n3, c3, rfl⟩ : ∃ q n c, v3 = .slice q n c := by obtain ⟨q, c, e, -, -⟩ := ha.hv.s3; exact ⟨_, _, _, e⟩
  obtain ⟨q4, n4, c4, rfl⟩ : ∃ q n c, v4 = .slice q n c := by obtain ⟨q, c, e, -, -⟩ := ha.hv.s4; exact ⟨_, _, _, e⟩
  obtain ⟨q5, n5, c5, rfl⟩ : ∃ q n c, v5 = .slice q n c := by obtain ⟨q, c, e, -, -⟩ := ha.hv.s5; exact ⟨_, _, _, e⟩
  clear ha hR
  obtain ⟨A, hA⟩ : ∃ A : Array Value, A = #[.int .i64 m.kind, .int .i64 m.fr, .int .i64 m.to, .int .i64 m.ep, .slice pi ni ci, .slice pp np cp, .int .i64 m.pol.ep, .slice q1 n1 c1, .slice q2 n2 c2, .slice q3 n3 c3, .slice q4 n4 c4, .slice q5 n5 c5, .int .i64 m.pol.dp, .int .i64 m.pol.nd, .int .i64 m.pol.bt] := ⟨_, rfl⟩
  obtain ⟨w1, hw1⟩ : ∃ w1, w1 = w.alloc (.cells A 27) := ⟨_, rfl⟩
  have HN1 : Hid (MBox w A w1) := hide (by rw [hw1]; exact ⟨new_block _ _ _, bel_alloc (Below.refl _ _) _⟩)
  have SK : Hid (∀ wx, MBox w A wx → wx.cell? ⟨w.heap.size, 0, none⟩ = some (.int .i64 m.kind) ∧ wx.cell? ⟨w.heap.size, 1, none⟩ = some (.int .i64 m.fr) ∧ wx.cell? ⟨w.heap.size, 2, none⟩ = some (.int .i64 m.to) ∧ wx.cell? ⟨w.heap.size, 3, none⟩ = some (.int .i64 m.ep) ∧ wx.cell? ⟨w.heap.size, 4, none⟩ = some (.slice pi ni ci) ∧ wx.cell? ⟨w.heap.size, 5, none⟩ = some (.slice pp np cp) ∧ wx.cell? ⟨w.heap.size, 6, none⟩ = some (.int .i64 m.pol.ep) ∧ wx.cell? ⟨w.heap.size, 7, none⟩ = some (.slice q1 n1 c1) ∧ wx.cell? ⟨w.heap.size, 8, none⟩ = some (.slice q2 n2 c2) ∧ wx.cell? ⟨w.heap.size, 9, none⟩ = some (.slice q3 n3 c3) ∧ wx.cell? ⟨w.heap.size, 10, none⟩ = some (.slice q4 n4 c4) ∧ wx.cell? ⟨w.heap.size, 11, none⟩ = some (.slice q5 n5 c5) ∧ wx.cell? ⟨w.heap.size, 12, none⟩ = some (.int .i64 m.pol.dp) ∧ wx.cell? ⟨w.heap.size, 13, none⟩ = some (.int .i64 m.pol.nd) ∧ wx.cell? ⟨w.heap.size, 14, none⟩ = some (.int .i64 m.pol.bt)) := hide (fun wx h => by
    subst hA
    exact ⟨h.cell 0 _ rfl, h.cell 1 _ rfl, h.cell 2 _ rfl, h.cell 3 _ rfl, h.cell 4 _ rfl, h.cell 5 _ rfl, h.cell 6 _ rfl, h.cell 7 _ rfl, h.cell 8 _ rfl, h.cell 9 _ rfl, h.cell 10 _ rfl, h.cell 11 _ rfl, h.cell 12 _ rfl, h.cell 13 _ rfl, h.cell 14 _ rfl⟩)
  rw [hA] at hw1
  clear hA
  go_enter Tryz.func12, Tryz.ntmps12
  go_upto_region 1 with fail
  rw [← hw1]
  clear hw1
  obtain ⟨y0, y1, y2, y3, y4, y5, y6, y7, y8, y9, y10, y11, y12, y13, y14⟩ := SK.out _ HN1.out
  go_wp2_with fail
  refine (CR.out _ HN1.out.2).mono ?_
  rintro e w2 ⟨⟨b, rfl, hb⟩, hb2⟩
  have hbt : b = false := by cases h : b with | false => rfl | true => exact absurd (hb.1 h) HR.out
  subst hbt
  have HN2 := hide (HN1.out.keep hb2)
  clear hb hb2 CR HN1 y0 y1 y2 y3 y4 y5 y6 y7 y8 y9 y10 y11 y12 y13 y14
  go_wp2_with fail
  go_ret2
  exact ⟨rfl, HN2.out.2⟩
theorem mencode_any (m : Ms) (vi vp v1 v2 v3 v4 v5 : Value) (ids : List ByteArray) (ts : List (ByteArray × ByteArray)) (l1 l2 l3 l4 l5 : List ByteArray) (w : World) (ha : MV w m vi vp v1 v2 v3 v4 v5 ids ts l1 l2 l3 l4 l5) :
    Calls Tryz.prog 12 #[mval m.kind m.fr m.to m.ep vi vp m.pol v1 v2 v3 v4 v5] w fun e w' => EncQ m e ∧ Below w.heap.size w w' := by
  by_cases hR : MRight m
  · have hgood : Calls Tryz.prog 12 #[mval m.kind m.fr m.to m.ep vi vp m.pol v1 v2 v3 v4 v5] w fun e w' => e = .returned (.tuple #[.string ⟨(textM m).toArray⟩, .int .i64 0]) ∧ Below w.heap.size w w' := by
      rcases kinds hR with hk | hk | hk | hk
      · exact mencode_ids m vi vp v1 v2 v3 v4 v5 ids ts l1 l2 l3 l4 l5 w ha hR hk
      · exact mencode_posts m vi vp v1 v2 v3 v4 v5 ids ts l1 l2 l3 l4 l5 w ha hR hk
      · exact mencode_pol m vi vp v1 v2 v3 v4 v5 ids ts l1 l2 l3 l4 l5 w ha hR hk
      · exact mencode_ack m vi vp v1 v2 v3 v4 v5 ids ts l1 l2 l3 l4 l5 w ha hR hk
    exact hgood.mono fun e w' ⟨h1, h2⟩ => ⟨.inl ⟨hR, h1⟩, h2⟩
  · exact (mencode_bad m vi vp v1 v2 v3 v4 v5 ids ts l1 l2 l3 l4 l5 w ha hR).mono fun e w' ⟨h1, h2⟩ => ⟨.inr ⟨hR, h1⟩, h2⟩
end Go.Proofs.YtebcpmgooodmpaaGreatDoor
