/-
  The law MsgUnlike.
-/
import Derived.Test.YtebcpmgooodmpaaGreatDoorML4
import Derived.Test.YtebcpmgooodmpaaGreatDoorMD8
namespace Go.Proofs.YtebcpmgooodmpaaGreatDoor
open Go.RowKit
open Utf1
open Pol8 hiding text right Right
open Msg15

set_option maxRecDepth 100000 in
set_option maxHeartbeats 32000000 in
theorem unlike_walk {a : Ms} {vi vp v1 v2 v3 v4 v5 : Value} {ids : List ByteArray} {ts : List (ByteArray × ByteArray)} {l1 l2 l3 l4 l5 : List ByteArray} {b : Ms} {ui up u1 u2 u3 u4 u5 : Value} {idsx : List ByteArray} {tsx : List (ByteArray × ByteArray)} {k1 k2 k3 k4 k5 : List ByteArray} (w : World) (ha : MA w a vi vp v1 v2 v3 v4 v5 ids ts l1 l2 l3 l4 l5) (hb : MA w b ui up u1 u2 u3 u4 u5 idsx tsx k1 k2 k3 k4 k5) (hge : GlobE w) :
    Calls Tryz.prog 7 #[mval a.kind a.fr a.to a.ep vi vp a.pol v1 v2 v3 v4 v5, mval b.kind b.fr b.to b.ep ui up b.pol u1 u2 u3 u4 u5] w fun e w' => e = .returned (.bool true) ∧ Below w.heap.size w w' := by
  have hg := ha.hv.g
  have CA : Hid (∀ wx, Below w.heap.size w wx → Calls Tryz.prog 9 #[] wx fun e w' => e = .returned (.bool true) ∧ Below wx.heap.size wx w') := hide (fun wx hx => eawake_any wx (hg.below hx) (hge.below hx))
  have CL1 : Hid (∀ wx, Below w.heap.size w wx → Calls Tryz.prog 10 #[mval a.kind a.fr a.to a.ep vi vp a.pol v1 v2 v3 v4 v5] wx fun e w' => LightQ a e ∧ Below wx.heap.size wx w') := hide (fun wx hx => light_go (ha.below hx))
  have CL2 : Hid (∀ wx, Below w.heap.size w wx → Calls Tryz.prog 10 #[mval b.kind b.fr b.to b.ep ui up b.pol u1 u2 u3 u4 u5] wx fun e w' => LightQ b e ∧ Below wx.heap.size wx w') := hide (fun wx hx => light_go (hb.below hx))
  have CE1 : Hid (light a.pol ∧ a.ids.length ≤ 100 ∧ a.posts.length ≤ 100 → ∀ wx, Below w.heap.size w wx → Calls Tryz.prog 11 #[mval a.kind a.fr a.to a.ep vi vp a.pol v1 v2 v3 v4 v5] wx fun e w' => EncQ a e ∧ Below wx.heap.size wx w') := hide (fun hl wx hx => eencode_any a _ _ _ _ _ _ _ ids ts l1 l2 l3 l4 l5 wx ((ha.below hx).mv hl.1 hl.2.1 hl.2.2))
  have CE2 : Hid (light b.pol ∧ b.ids.length ≤ 100 ∧ b.posts.length ≤ 100 → ∀ wx, Below w.heap.size w wx → Calls Tryz.prog 11 #[mval b.kind b.fr b.to b.ep ui up b.pol u1 u2 u3 u4 u5] wx fun e w' => EncQ b e ∧ Below wx.heap.size wx w') := hide (fun hl wx hx => eencode_any b _ _ _ _ _ _ _ idsx tsx k1 k2 k3 k4 k5 wx ((hb.below hx).mv hl.1 hl.2.1 hl.2.2))
  have CS : Hid (light a.pol ∧ a.ids.length ≤ 100 ∧ a.posts.length ≤ 100 → light b.pol ∧ b.ids.length ≤ 100 ∧ b.posts.length ≤ 100 → ∀ wx, Below w.heap.size w wx → Calls Tryz.prog 17 #[mval a.kind a.fr a.to a.ep vi vp a.pol v1 v2 v3 v4 v5, mval b.kind b.fr b.to b.ep ui up b.pol u1 u2 u3 u4 u5] wx fun e w' => BoolOf (a = b) e ∧ Below wx.heap.size wx w') := hide (fun h1 h2 wx hx => msame_any a b _ _ _ _ _ _ _ _ _ _ _ _ _ _ ids ts l1 l2 l3 l4 l5 idsx tsx k1 k2 k3 k4 k5 wx ((ha.below hx).mv h1.1 h1.2.1 h1.2.2) ((hb.below hx).mv h2.1 h2.2.1 h2.2.2))
  obtain ⟨pi, ni, ci, rfl⟩ : ∃ q n c, vi = .slice q n c := by obtain ⟨q, c, e, -, -⟩ := ha.hi; exact ⟨_, _, _, e⟩
  obtain ⟨pp, np, cp, rfl⟩ : ∃ q n c, vp = .slice q n c := by obtain ⟨q, c, e, -, -, -⟩ := ha.hp; exact ⟨_, _, _, e⟩
  obtain ⟨q1, n1, c1, rfl⟩ : ∃ q n c, v1 = .slice q n c := by obtain ⟨q, c, e, -, -⟩ := ha.hv.s1; exact ⟨_, _, _, e⟩
  obtain ⟨q2, n2, c2, rfl⟩ : ∃ q n c, v2 = .slice q n c := by obtain ⟨q, c, e, -, -⟩ := ha.hv.s2; exact ⟨_, _, _, e⟩
  obtain ⟨q3, n3, c3, rfl⟩ : ∃ q n c, v3 = .slice q n c := by obtain ⟨q, c, e, -, -⟩ := ha.hv.s3; exact ⟨_, _, _, e⟩
  obtain ⟨q4, n4, c4, rfl⟩ : ∃ q n c, v4 = .slice q n c := by obtain ⟨q, c, e, -, -⟩ := ha.hv.s4; exact ⟨_, _, _, e⟩
  obtain ⟨q5, n5, c5, rfl⟩ : ∃ q n c, v5 = .slice q n c := by obtain ⟨q, c, e, -, -⟩ := ha.hv.s5; exact ⟨_, _, _, e⟩
  obtain ⟨pix, nix, cix, rfl⟩ : ∃ q n c, ui = .slice q n c := by obtain ⟨q, c, e, -, -⟩ := hb.hi; exact ⟨_, _, _, e⟩
  obtain ⟨ppx, npx, cpx, rfl⟩ : ∃ q n c, up = .slice q n c := by obtain ⟨q, c, e, -, -, -⟩ := hb.hp; exact ⟨_, _, _, e⟩
  obtain ⟨q1x, n1x, c1x, rfl⟩ : ∃ q n c, u1 = .slice q n c := by obtain ⟨q, c, e, -, -⟩ := hb.hv.s1; exact ⟨_, _, _, e⟩
  obtain ⟨q2x, n2x, c2x, rfl⟩ : ∃ q n c, u2 = .slice q n c := by obtain ⟨q, c, e, -, -⟩ := hb.hv.s2; exact ⟨_, _, _, e⟩
  obtain ⟨q3x, n3x, c3x, rfl⟩ : ∃ q n c, u3 = .slice q n c := by obtain ⟨q, c, e, -, -⟩ := hb.hv.s3; exact ⟨_, _, _, e⟩
  obtain ⟨q4x, n4x, c4x, rfl⟩ : ∃ q n c, u4 = .slice q n c := by obtain ⟨q, c, e, -, -⟩ := hb.hv.s4; exact ⟨_, _, _, e⟩
  obtain ⟨q5x, n5x, c5x, rfl⟩ : ∃ q n c, u5 = .slice q n c := by obtain ⟨q, c, e, -, -⟩ := hb.hv.s5; exact ⟨_, _, _, e⟩
  clear ha hb hg hge
  obtain ⟨A, hA⟩ : ∃ A : Array Value, A = #[.int .i64 a.kind, .int .i64 a.fr, .int .i64 a.to, .int .i64 a.ep, .slice pi ni ci, .slice pp np cp, .int .i64 a.pol.ep, .slice q1 n1 c1, .slice q2 n2 c2, .slice q3 n3 c3, .slice q4 n4 c4, .slice q5 n5 c5, .int .i64 a.pol.dp, .int .i64 a.pol.nd, .int .i64 a.pol.bt] := ⟨_, rfl⟩
  obtain ⟨B, hB⟩ : ∃ B : Array Value, B = #[.int .i64 b.kind, .int .i64 b.fr, .int .i64 b.to, .int .i64 b.ep, .slice pix nix cix, .slice ppx npx cpx, .int .i64 b.pol.ep, .slice q1x n1x c1x, .slice q2x n2x c2x, .slice q3x n3x c3x, .slice q4x n4x c4x, .slice q5x n5x c5x, .int .i64 b.pol.dp, .int .i64 b.pol.nd, .int .i64 b.pol.bt] := ⟨_, rfl⟩
  obtain ⟨w1, hw1⟩ : ∃ w1, w1 = (w.alloc (.cells A 27)).alloc (.cells B 27) := ⟨_, rfl⟩
  have HN1 : Hid (BoxM w A B w1) := hide (by rw [hw1]; exact BoxM.new w A B)
  have SA : Hid (∀ wx, BoxM w A B wx → wx.cell? ⟨w.heap.size, 0, none⟩ = some (.int .i64 a.kind) ∧ wx.cell? ⟨w.heap.size, 1, none⟩ = some (.int .i64 a.fr) ∧ wx.cell? ⟨w.heap.size, 2, none⟩ = some (.int .i64 a.to) ∧ wx.cell? ⟨w.heap.size, 3, none⟩ = some (.int .i64 a.ep) ∧ wx.cell? ⟨w.heap.size, 4, none⟩ = some (.slice pi ni ci) ∧ wx.cell? ⟨w.heap.size, 5, none⟩ = some (.slice pp np cp) ∧ wx.cell? ⟨w.heap.size, 6, none⟩ = some (.int .i64 a.pol.ep) ∧ wx.cell? ⟨w.heap.size, 7, none⟩ = some (.slice q1 n1 c1) ∧ wx.cell? ⟨w.heap.size, 8, none⟩ = some (.slice q2 n2 c2) ∧ wx.cell? ⟨w.heap.size, 9, none⟩ = some (.slice q3 n3 c3) ∧ wx.cell? ⟨w.heap.size, 10, none⟩ = some (.slice q4 n4 c4) ∧ wx.cell? ⟨w.heap.size, 11, none⟩ = some (.slice q5 n5 c5) ∧ wx.cell? ⟨w.heap.size, 12, none⟩ = some (.int .i64 a.pol.dp) ∧ wx.cell? ⟨w.heap.size, 13, none⟩ = some (.int .i64 a.pol.nd) ∧ wx.cell? ⟨w.heap.size, 14, none⟩ = some (.int .i64 a.pol.bt)) := hide (fun wx h => by
    subst hA
    exact ⟨h.a 0 _ rfl, h.a 1 _ rfl, h.a 2 _ rfl, h.a 3 _ rfl, h.a 4 _ rfl, h.a 5 _ rfl, h.a 6 _ rfl, h.a 7 _ rfl, h.a 8 _ rfl, h.a 9 _ rfl, h.a 10 _ rfl, h.a 11 _ rfl, h.a 12 _ rfl, h.a 13 _ rfl, h.a 14 _ rfl⟩)
  have SB : Hid (∀ wx, BoxM w A B wx → wx.cell? ⟨w.heap.size + 1, 0, none⟩ = some (.int .i64 b.kind) ∧ wx.cell? ⟨w.heap.size + 1, 1, none⟩ = some (.int .i64 b.fr) ∧ wx.cell? ⟨w.heap.size + 1, 2, none⟩ = some (.int .i64 b.to) ∧ wx.cell? ⟨w.heap.size + 1, 3, none⟩ = some (.int .i64 b.ep) ∧ wx.cell? ⟨w.heap.size + 1, 4, none⟩ = some (.slice pix nix cix) ∧ wx.cell? ⟨w.heap.size + 1, 5, none⟩ = some (.slice ppx npx cpx) ∧ wx.cell? ⟨w.heap.size + 1, 6, none⟩ = some (.int .i64 b.pol.ep) ∧ wx.cell? ⟨w.heap.size + 1, 7, none⟩ = some (.slice q1x n1x c1x) ∧ wx.cell? ⟨w.heap.size + 1, 8, none⟩ = some (.slice q2x n2x c2x) ∧ wx.cell? ⟨w.heap.size + 1, 9, none⟩ = some (.slice q3x n3x c3x) ∧ wx.cell? ⟨w.heap.size + 1, 10, none⟩ = some (.slice q4x n4x c4x) ∧ wx.cell? ⟨w.heap.size + 1, 11, none⟩ = some (.slice q5x n5x c5x) ∧ wx.cell? ⟨w.heap.size + 1, 12, none⟩ = some (.int .i64 b.pol.dp) ∧ wx.cell? ⟨w.heap.size + 1, 13, none⟩ = some (.int .i64 b.pol.nd) ∧ wx.cell? ⟨w.heap.size + 1, 14, none⟩ = some (.int .i64 b.pol.bt)) := hide (fun wx h => by
    subst hB
    exact ⟨h.b 0 _ rfl, h.b 1 _ rfl, h.b 2 _ rfl, h.b 3 _ rfl, h.b 4 _ rfl, h.b 5 _ rfl, h.b 6 _ rfl, h.b 7 _ rfl, h.b 8 _ rfl, h.b 9 _ rfl, h.b 10 _ rfl, h.b 11 _ rfl, h.b 12 _ rfl, h.b 13 _ rfl, h.b 14 _ rfl⟩)
  rw [hA, hB] at hw1
  clear hA hB
  go_enter Tryz.func7, Tryz.ntmps7
  go_upto_region 1 with fail
  rw [← hw1]
  clear hw1
  go_wp2_with fail
  refine (CA.out _ HN1.out.2.2).mono ?_
  rintro e w2 ⟨rfl, hb2⟩
  have HN2 := hide (HN1.out.keep hb2)
  clear hb2 CA HN1
  obtain ⟨y0, y1, y2, y3, y4, y5, y6, y7, y8, y9, y10, y11, y12, y13, y14⟩ := SA.out _ HN2.out
  go_wp2_with fail
  refine (CL1.out _ HN2.out.2.2).mono ?_
  rintro e w3 ⟨⟨b1, rfl, hq1⟩, hb3⟩
  have HN3 := hide (HN2.out.keep hb3)
  have HL1 := hide hq1
  clear hq1 hb3 CL1 HN2 y0 y1 y2 y3 y4 y5 y6 y7 y8 y9 y10 y11 y12 y13 y14
  obtain ⟨z0, z1, z2, z3, z4, z5, z6, z7, z8, z9, z10, z11, z12, z13, z14⟩ := SB.out _ HN3.out
  go_wp2_with fail
  refine (CL2.out _ HN3.out.2.2).mono ?_
  rintro e w4 ⟨⟨b2, rfl, hq2⟩, hb4⟩
  have HN4 := hide (HN3.out.keep hb4)
  have HL2 := hide hq2
  clear hq2 hb4 CL2 HN3 z0 z1 z2 z3 z4 z5 z6 z7 z8 z9 z10 z11 z12 z13 z14
  cases h1 : b1 with
  | false =>
    subst h1
    go_wp2_with fail
    go_ret
    exact ⟨rfl, HN4.out.2.2⟩
  | true =>
  cases h2 : b2 with
  | false =>
    subst h1 h2
    go_wp2_with fail
    go_ret
    exact ⟨rfl, HN4.out.2.2⟩
  | true =>
  have HM1 := hide (HL1.out h1)
  have HM2 := hide (HL2.out h2)
  subst h1 h2
  have CE1' := hide (CE1.out ⟨HM1.out.1, HM1.out.2.1, HM1.out.2.2.1⟩ _ HN4.out.2.2)
  have CS' := hide (CS.out ⟨HM1.out.1, HM1.out.2.1, HM1.out.2.2.1⟩ ⟨HM2.out.1, HM2.out.2.1, HM2.out.2.2.1⟩)
  have CE2' := hide (CE2.out ⟨HM2.out.1, HM2.out.2.1, HM2.out.2.2.1⟩)
  clear CE1 CE2 CS HL1 HL2 HM1 HM2
  obtain ⟨y0, y1, y2, y3, y4, y5, y6, y7, y8, y9, y10, y11, y12, y13, y14⟩ := SA.out _ HN4.out
  go_wp2_with fail
  refine CE1'.out.mono ?_
  rintro e w5 ⟨hq1, hb5⟩
  have HN5 := hide (HN4.out.keep hb5)
  clear hb5 CE1' HN4 y0 y1 y2 y3 y4 y5 y6 y7 y8 y9 y10 y11 y12 y13 y14
  obtain ⟨T1, z1, rfl, hT1⟩ : ∃ (T : ByteArray) (z : Int), e = .returned (.tuple #[.string T, .int .i64 z]) ∧ ((z = 0 ∧ MRight a ∧ bl T = textM a) ∨ z = 2) := by
    rcases hq1 with ⟨h, e⟩ | ⟨_, e⟩
    · exact ⟨_, _, e, .inl ⟨rfl, h, rfl⟩⟩
    · exact ⟨_, _, e, .inr rfl⟩
  obtain ⟨z0, z1, z2, z3, z4, z5, z6, z7, z8, z9, z10, z11, z12, z13, z14⟩ := SB.out _ HN5.out
  go_wp2_with fail
  refine (CE2'.out _ HN5.out.2.2).mono ?_
  rintro e w6 ⟨hq2, hb6⟩
  have HN6 := hide (HN5.out.keep hb6)
  clear hb6 CE2' HN5 z0 z1 z2 z3 z4 z5 z6 z7 z8 z9 z10 z11 z12 z13 z14
  obtain ⟨T2, z2, rfl, hT2⟩ : ∃ (T : ByteArray) (z : Int), e = .returned (.tuple #[.string T, .int .i64 z]) ∧ ((z = 0 ∧ MRight b ∧ bl T = textM b) ∨ z = 2) := by
    rcases hq2 with ⟨h, e⟩ | ⟨_, e⟩
    · exact ⟨_, _, e, .inl ⟨rfl, h, rfl⟩⟩
    · exact ⟨_, _, e, .inr rfl⟩
  rcases hT1 with ⟨rfl, hr1, ht1⟩ | rfl
  rotate_left
  · clear hT2
    go_wp2_with fail
    go_ret
    exact ⟨rfl, HN6.out.2.2⟩
  rcases hT2 with ⟨rfl, hr2, ht2⟩ | rfl
  rotate_left
  · clear hr1 ht1
    go_wp2_with fail
    go_ret
    exact ⟨rfl, HN6.out.2.2⟩
  have HEQ : Hid ((a = b) ↔ bl T1 = bl T2) := hide (by
    rw [ht1, ht2]
    exact ⟨fun h => by rw [h], fun h => text_inj hr1 hr2 h⟩)
  clear hr1 ht1 hr2 ht2
  obtain ⟨y0, y1, y2, y3, y4, y5, y6, y7, y8, y9, y10, y11, y12, y13, y14⟩ := SA.out _ HN6.out
  obtain ⟨z0, z1, z2, z3, z4, z5, z6, z7, z8, z9, z10, z11, z12, z13, z14⟩ := SB.out _ HN6.out
  go_wp2_with fail
  refine (CS'.out _ HN6.out.2.2).mono ?_
  rintro e w7 ⟨⟨t, rfl, ht⟩, hb7⟩
  have HN7 := hide (HN6.out.keep hb7)
  rw [HEQ.out] at ht
  clear hb7 CS' HN6 y0 y1 y2 y3 y4 y5 y6 y7 y8 y9 y10 y11 y12 y13 y14 z0 z1 z2 z3 z4 z5 z6 z7 z8 z9 z10 z11 z12 z13 z14
  by_cases he : bl T1 = bl T2
  · have hq := beq_same he
    have htt : t = true := ht.2 he
    subst htt
    clear he ht HEQ
    go_wp2_with fail
    go_ret
    exact ⟨rfl, HN7.out.2.2⟩
  · have hq := beq_ne he
    have htt : t = false := by cases hh : t with | false => rfl | true => exact absurd (ht.1 hh) he
    subst htt
    clear he ht HEQ
    go_wp2_with fail
    go_ret
    exact ⟨rfl, HN7.out.2.2⟩
end Go.Proofs.YtebcpmgooodmpaaGreatDoor
