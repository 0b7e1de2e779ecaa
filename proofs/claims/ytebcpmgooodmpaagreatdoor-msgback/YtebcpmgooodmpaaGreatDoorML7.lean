/-
  The law MsgBack.
-/
import Derived.Test.YtebcpmgooodmpaaGreatDoorML7a
namespace Go.Proofs.YtebcpmgooodmpaaGreatDoor
open Go.RowKit
open Utf1
open Pol8 hiding text right Right
open Msg15

set_option maxRecDepth 100000 in
set_option maxHeartbeats 64000000 in
theorem mback_good {m : Ms} {vi vp v1 v2 v3 v4 v5 : Value} {ids : List ByteArray} {ts : List (ByteArray × ByteArray)} {l1 l2 l3 l4 l5 : List ByteArray} (s : ByteArray) (w : World) (ha : MA w m vi vp v1 v2 v3 v4 v5 ids ts l1 l2 l3 l4 l5) (hge : GlobE w) (hRR : MRight m) :
    Calls Tryz.prog 5 #[mval m.kind m.fr m.to m.ep vi vp m.pol v1 v2 v3 v4 v5, .string s] w fun e w' => e = .returned (.bool true) ∧ Below w.heap.size w w' := by
  have HRR := hide hRR
  clear hRR
  have hg := ha.hv.g
  have CA : Hid (∀ wx, Below w.heap.size w wx → Calls Tryz.prog 9 #[] wx fun e w' => e = .returned (.bool true) ∧ Below wx.heap.size wx w') := hide (fun wx hx => eawake_any wx (hg.below hx) (hge.below hx))
  have CL : Hid (∀ wx, Below w.heap.size w wx → Calls Tryz.prog 10 #[mval m.kind m.fr m.to m.ep vi vp m.pol v1 v2 v3 v4 v5] wx fun e w' => LightQ m e ∧ Below wx.heap.size wx w') := hide (fun wx hx => light_go (ha.below hx))
  have HML : Hid (light m.pol ∧ m.ids.length ≤ 100 ∧ m.posts.length ≤ 100 → ∀ wx, Below w.heap.size w wx → MV wx m vi vp v1 v2 v3 v4 v5 ids ts l1 l2 l3 l4 l5) := hide (fun hl wx hx => (ha.below hx).mv hl.1 hl.2.1 hl.2.2)
  have CE : Hid (∀ wx, MV wx m vi vp v1 v2 v3 v4 v5 ids ts l1 l2 l3 l4 l5 → Calls Tryz.prog 11 #[mval m.kind m.fr m.to m.ep vi vp m.pol v1 v2 v3 v4 v5] wx fun e w' => EncQ m e ∧ Below wx.heap.size wx w') := hide (fun wx hx => eencode_any m _ _ _ _ _ _ _ ids ts l1 l2 l3 l4 l5 wx hx)
  have CRR : Hid (∀ wx, MV wx m vi vp v1 v2 v3 v4 v5 ids ts l1 l2 l3 l4 l5 → Calls Tryz.prog 13 #[mval m.kind m.fr m.to m.ep vi vp m.pol v1 v2 v3 v4 v5] wx fun e w' => BoolOf (MRight m) e ∧ Below wx.heap.size wx w') := hide (fun wx h2 => eright_any m.kind m.fr m.to m.ep _ _ ids ts _ _ _ _ _ m.pol l1 l2 l3 l4 l5 wx h2.hi h2.hp h2.hv h2.hf h2.li h2.lp m (by rw [← h2.ei, ← h2.ep]))
  have CD : Hid (∀ (s : ByteArray) wx, s.size ≤ 99999 → Below w.heap.size w wx → Calls Tryz.prog 15 #[.string s] wx fun e w' => DecQ w' (bl s) e ∧ Below wx.heap.size wx w') := hide (fun s wx hs hx => edecode_any s hs wx (hg.below hx) (hge.below hx))
  have CSA : Hid (∀ (b : Ms) (pix : Option Addr) (nix cix : Nat) (ppx : Option Addr) (npx cpx : Nat) (q1x : Option Addr) (n1x c1x : Nat) (q2x : Option Addr) (n2x c2x : Nat) (q3x : Option Addr) (n3x c3x : Nat) (q4x : Option Addr) (n4x c4x : Nat) (q5x : Option Addr) (n5x c5x : Nat) (idsx : List ByteArray) (tsx : List (ByteArray × ByteArray)) (k1 k2 k3 k4 k5 : List ByteArray) (wx : World), MV wx m vi vp v1 v2 v3 v4 v5 ids ts l1 l2 l3 l4 l5 → MV wx b (.slice pix nix cix) (.slice ppx npx cpx) (.slice q1x n1x c1x) (.slice q2x n2x c2x) (.slice q3x n3x c3x) (.slice q4x n4x c4x) (.slice q5x n5x c5x) idsx tsx k1 k2 k3 k4 k5 → Calls Tryz.prog 17 #[mval m.kind m.fr m.to m.ep vi vp m.pol v1 v2 v3 v4 v5, .agg #[.int .i64 b.kind, .int .i64 b.fr, .int .i64 b.to, .int .i64 b.ep, .slice pix nix cix, .slice ppx npx cpx, .int .i64 b.pol.ep, .slice q1x n1x c1x, .slice q2x n2x c2x, .slice q3x n3x c3x, .slice q4x n4x c4x, .slice q5x n5x c5x, .int .i64 b.pol.dp, .int .i64 b.pol.nd, .int .i64 b.pol.bt]] wx fun e w' => BoolOf (m = b) e ∧ Below wx.heap.size wx w') := hide (fun b pix nix cix ppx npx cpx q1x n1x c1x q2x n2x c2x q3x n3x c3x q4x n4x c4x q5x n5x c5x idsx tsx k1 k2 k3 k4 k5 wx h1 h2 => msame_any m b _ _ _ _ _ _ _ _ _ _ _ _ _ _ ids ts l1 l2 l3 l4 l5 idsx tsx k1 k2 k3 k4 k5 wx h1 h2)
  obtain ⟨pi, ni, ci, rfl⟩ : ∃ q n c, vi = .slice q n c := by obtain ⟨q, c, e, -, -⟩ := ha.hi; exact ⟨_, _, _, e⟩
  obtain ⟨pp, np, cp, rfl⟩ : ∃ q n c, vp = .slice q n c := by obtain ⟨q, c, e, -, -, -⟩ := ha.hp; exact ⟨_, _, _, e⟩
  obtain ⟨q1, n1, c1, rfl⟩ : ∃ q n c, v1 = .slice q n c := by obtain ⟨q, c, e, -, -⟩ := ha.hv.s1; exact ⟨_, _, _, e⟩
  obtain ⟨q2, n2, c2, rfl⟩ : ∃ q n c, v2 = .slice q n c := by obtain ⟨q, c, e, -, -⟩ := ha.hv.s2; exact ⟨_, _, _, e⟩
  obtain ⟨q3, n3, c3, rfl⟩ : ∃ q n c, v3 = .slice q n c := by obtain ⟨q, c, e, -, -⟩ := ha.hv.s3; exact ⟨_, _, _, e⟩
  obtain ⟨q4, n4, c4, rfl⟩ : ∃ q n c, v4 = .slice q n c := by obtain ⟨q, c, e, -, -⟩ := ha.hv.s4; exact ⟨_, _, _, e⟩
  obtain ⟨q5, n5, c5, rfl⟩ : ∃ q n c, v5 = .slice q n c := by obtain ⟨q, c, e, -, -⟩ := ha.hv.s5; exact ⟨_, _, _, e⟩
  clear ha hg hge
  obtain ⟨A, hA⟩ : ∃ A : Array Value, A = #[.int .i64 m.kind, .int .i64 m.fr, .int .i64 m.to, .int .i64 m.ep, .slice pi ni ci, .slice pp np cp, .int .i64 m.pol.ep, .slice q1 n1 c1, .slice q2 n2 c2, .slice q3 n3 c3, .slice q4 n4 c4, .slice q5 n5 c5, .int .i64 m.pol.dp, .int .i64 m.pol.nd, .int .i64 m.pol.bt] := ⟨_, rfl⟩
  obtain ⟨w1, hw1⟩ : ∃ w1, w1 = w.alloc (.cells A 27) := ⟨_, rfl⟩
  have HN1 : Hid (MBox w A w1) := hide (by rw [hw1]; exact ⟨new_block _ _ _, bel_alloc (Below.refl _ _) _⟩)
  have SK : Hid (∀ wx, MBox w A wx → wx.cell? ⟨w.heap.size, 0, none⟩ = some (.int .i64 m.kind) ∧ wx.cell? ⟨w.heap.size, 1, none⟩ = some (.int .i64 m.fr) ∧ wx.cell? ⟨w.heap.size, 2, none⟩ = some (.int .i64 m.to) ∧ wx.cell? ⟨w.heap.size, 3, none⟩ = some (.int .i64 m.ep) ∧ wx.cell? ⟨w.heap.size, 4, none⟩ = some (.slice pi ni ci) ∧ wx.cell? ⟨w.heap.size, 5, none⟩ = some (.slice pp np cp) ∧ wx.cell? ⟨w.heap.size, 6, none⟩ = some (.int .i64 m.pol.ep) ∧ wx.cell? ⟨w.heap.size, 7, none⟩ = some (.slice q1 n1 c1) ∧ wx.cell? ⟨w.heap.size, 8, none⟩ = some (.slice q2 n2 c2) ∧ wx.cell? ⟨w.heap.size, 9, none⟩ = some (.slice q3 n3 c3) ∧ wx.cell? ⟨w.heap.size, 10, none⟩ = some (.slice q4 n4 c4) ∧ wx.cell? ⟨w.heap.size, 11, none⟩ = some (.slice q5 n5 c5) ∧ wx.cell? ⟨w.heap.size, 12, none⟩ = some (.int .i64 m.pol.dp) ∧ wx.cell? ⟨w.heap.size, 13, none⟩ = some (.int .i64 m.pol.nd) ∧ wx.cell? ⟨w.heap.size, 14, none⟩ = some (.int .i64 m.pol.bt)) := hide (fun wx h => by
    subst hA
    exact ⟨h.cell 0 _ rfl, h.cell 1 _ rfl, h.cell 2 _ rfl, h.cell 3 _ rfl, h.cell 4 _ rfl, h.cell 5 _ rfl, h.cell 6 _ rfl, h.cell 7 _ rfl, h.cell 8 _ rfl, h.cell 9 _ rfl, h.cell 10 _ rfl, h.cell 11 _ rfl, h.cell 12 _ rfl, h.cell 13 _ rfl, h.cell 14 _ rfl⟩)
  rw [hA] at hw1
  clear hA
  go_enter Tryz.func5, Tryz.ntmps5
  go_upto_region 1 with fail
  rw [← hw1]
  clear hw1
  go_wp2_with fail
  refine (CA.out _ HN1.out.2).mono ?_
  rintro e w2 ⟨rfl, hb2⟩
  have HN2 := hide (HN1.out.keep hb2)
  clear hb2 CA HN1
  obtain ⟨y0, y1, y2, y3, y4, y5, y6, y7, y8, y9, y10, y11, y12, y13, y14⟩ := SK.out _ HN2.out
  go_wp2_with fail
  refine (CL.out _ HN2.out.2).mono ?_
  rintro e w3 ⟨⟨b, rfl, hb⟩, hb3⟩
  have HN3 := hide (HN2.out.keep hb3)
  have HL := hide hb
  clear hb hb3 CL HN2 y0 y1 y2 y3 y4 y5 y6 y7 y8 y9 y10 y11 y12 y13 y14
  cases hbb : b with
  | false =>
    subst hbb
    go_wp2_with fail
    go_ret
    exact ⟨rfl, HN3.out.2⟩
  | true =>
  have HLL := hide (HL.out hbb)
  subst hbb
  by_cases h0 : 8000 < s.size
  · have d0 : decide ((8000 : Int) < (s.size : Int)) = true := decide_eq_true (by omega)
    clear h0
    go_wp2_with fail
    go_ret
    exact ⟨rfl, HN3.out.2⟩
  have d0 : decide ((8000 : Int) < (s.size : Int)) = false := decide_eq_false (by omega)
  have hs8 : s.size ≤ 8000 := by omega
  have HMV := hide (HML.out ⟨HLL.out.1, HLL.out.2.1, HLL.out.2.2.1⟩)
  have CE2 := hide (CE.out _ (HMV.out _ HN3.out.2))
  obtain ⟨y0, y1, y2, y3, y4, y5, y6, y7, y8, y9, y10, y11, y12, y13, y14⟩ := SK.out _ HN3.out
  clear HL h0
  go_wp2_with fail
  refine CE2.out.mono ?_
  rintro e w4 ⟨hq, hb4⟩
  have HN4 := hide (HN3.out.keep hb4)
  clear hb4 CE2 HN3 y0 y1 y2 y3 y4 y5 y6 y7 y8 y9 y10 y11 y12 y13 y14
  rcases hq with ⟨hR, rfl⟩ | ⟨hR, _⟩
  rotate_left
  · exact absurd HRR.out hR
  have HR := hide hR
  obtain ⟨T, hT⟩ : ∃ T : ByteArray, T = ⟨(textM m).toArray⟩ := ⟨_, rfl⟩
  have hTb : bl T = textM m := by rw [hT]
  have hTs : T.size ≤ 60000 := by rw [← bl_len, hTb]; exact light_short hR HLL.out.2.2.2 HLL.out.1
  rw [← hT]
  have C5 := hide (CD.out T w4 (by omega) HN4.out.2)
  rw [hTb] at C5
  clear hR hT hTb hTs d0
  go_wp2_with fail
  refine C5.out.mono ?_
  rintro e w5 ⟨hq, hb5⟩
  obtain ⟨mx, zx, pix, nix, cix, ppx, npx, cpx, q1x, n1x, c1x, q2x, n2x, c2x, q3x, n3x, c3x, q4x, n4x, c4x, q5x, n5x, c5x, idsx, tsx, k1, k2, k3, k4, k5, rfl, hmv, hd⟩ := hq.shape
  obtain ⟨hmx, rfl⟩ := hd.one (dcd_text HR.out)
  obtain ⟨w6, hw6⟩ : ∃ w6, w6 = w5.alloc (.cells #[.int .i64 mx.kind, .int .i64 mx.fr, .int .i64 mx.to, .int .i64 mx.ep, .slice pix nix cix, .slice ppx npx cpx, .int .i64 mx.pol.ep, .slice q1x n1x c1x, .slice q2x n2x c2x, .slice q3x n3x c3x, .slice q4x n4x c4x, .slice q5x n5x c5x, .int .i64 mx.pol.dp, .int .i64 mx.pol.nd, .int .i64 mx.pol.bt] 27) := ⟨_, rfl⟩
  have hn6 : Below w5.heap.size w5 w6 := by rw [hw6]; exact bel_alloc (Below.refl _ _) _
  have HN6 := hide (HN4.out.keep (hb5.trans (hn6.mono hb5.size)))
  have N6 : Hid (w6.heap[w5.heap.size]? = some (.cells #[.int .i64 mx.kind, .int .i64 mx.fr, .int .i64 mx.to, .int .i64 mx.ep, .slice pix nix cix, .slice ppx npx cpx, .int .i64 mx.pol.ep, .slice q1x n1x c1x, .slice q2x n2x c2x, .slice q3x n3x c3x, .slice q4x n4x c4x, .slice q5x n5x c5x, .int .i64 mx.pol.dp, .int .i64 mx.pol.nd, .int .i64 mx.pol.bt] 27 (0, 0))) := hide (by rw [hw6]; exact new_block _ _ _)
  have C6 := hide (CSA.out mx pix nix cix ppx npx cpx q1x n1x c1x q2x n2x c2x q3x n3x c3x q4x n4x c4x q5x n5x c5x idsx tsx k1 k2 k3 k4 k5 w6 (HMV.out _ HN6.out.2) (hmv.below hn6))
  have HMX := hide hmx
  clear hq hd hmv hn6 hb5 C5 hmx HN4
  go_upto_region 8 with fail
  rw [← hw6]
  clear hw6
  obtain ⟨y0, y1, y2, y3, y4, y5, y6, y7, y8, y9, y10, y11, y12, y13, y14⟩ := SK.out _ HN6.out
  have u0 := tag_cell N6.out 0 _ rfl
  have u1 := tag_cell N6.out 1 _ rfl
  have u2 := tag_cell N6.out 2 _ rfl
  have u3 := tag_cell N6.out 3 _ rfl
  have u4 := tag_cell N6.out 4 _ rfl
  have u5 := tag_cell N6.out 5 _ rfl
  have u6 := tag_cell N6.out 6 _ rfl
  have u7 := tag_cell N6.out 7 _ rfl
  have u8 := tag_cell N6.out 8 _ rfl
  have u9 := tag_cell N6.out 9 _ rfl
  have u10 := tag_cell N6.out 10 _ rfl
  have u11 := tag_cell N6.out 11 _ rfl
  have u12 := tag_cell N6.out 12 _ rfl
  have u13 := tag_cell N6.out 13 _ rfl
  have u14 := tag_cell N6.out 14 _ rfl
  go_wp2_with fail
  refine C6.out.mono ?_
  rintro e w7 ⟨⟨t, rfl, ht⟩, hb7⟩
  have htt : t = true := ht.2 HMX.out.symm
  subst htt
  have HN7 := hide (HN6.out.keep hb7)
  have C8 := hide (CRR.out _ (HMV.out _ HN7.out.2))
  clear ht hb7 C6 HN6 N6 y0 y1 y2 y3 y4 y5 y6 y7 y8 y9 y10 y11 y12 y13 y14 u0 u1 u2 u3 u4 u5 u6 u7 u8 u9 u10 u11 u12 u13 u14
  obtain ⟨y0, y1, y2, y3, y4, y5, y6, y7, y8, y9, y10, y11, y12, y13, y14⟩ := SK.out _ HN7.out
  go_wp2_with fail
  refine C8.out.mono ?_
  rintro e w70 ⟨⟨t, rfl, ht⟩, hb70⟩
  have htt : t = true := ht.2 HR.out
  subst htt
  have HN70 := hide (HN7.out.keep hb70)
  clear ht hb70 C8 HN7 y0 y1 y2 y3 y4 y5 y6 y7 y8 y9 y10 y11 y12 y13 y14
  clear HMV HLL HR HMX
  clear CE CSA CRR HML
  have C7 := hide (CD.out s _ (by omega) HN70.out.2)
  have CZ : Hid (∀ (mz : Ms) (piz : Option Addr) (niz ciz : Nat) (ppz : Option Addr) (npz cpz : Nat) (q1z : Option Addr) (n1z c1z : Nat) (q2z : Option Addr) (n2z c2z : Nat) (q3z : Option Addr) (n3z c3z : Nat) (q4z : Option Addr) (n4z c4z : Nat) (q5z : Option Addr) (n5z c5z : Nat) (idsz : List ByteArray) (tsz : List (ByteArray × ByteArray)) (g1 g2 g3 g4 g5 : List ByteArray) (wx : World), MV wx mz (.slice piz niz ciz) (.slice ppz npz cpz) (.slice q1z n1z c1z) (.slice q2z n2z c2z) (.slice q3z n3z c3z) (.slice q4z n4z c4z) (.slice q5z n5z c5z) idsz tsz g1 g2 g3 g4 g5 → Calls Tryz.prog 11 #[.agg #[.int .i64 mz.kind, .int .i64 mz.fr, .int .i64 mz.to, .int .i64 mz.ep, .slice piz niz ciz, .slice ppz npz cpz, .int .i64 mz.pol.ep, .slice q1z n1z c1z, .slice q2z n2z c2z, .slice q3z n3z c3z, .slice q4z n4z c4z, .slice q5z n5z c5z, .int .i64 mz.pol.dp, .int .i64 mz.pol.nd, .int .i64 mz.pol.bt]] wx fun e w' => EncQ mz e ∧ Below wx.heap.size wx w') := hide (fun mz piz niz ciz ppz npz cpz q1z n1z c1z q2z n2z c2z q3z n3z c3z q4z n4z c4z q5z n5z c5z idsz tsz g1 g2 g3 g4 g5 wx h => eencode_any mz _ _ _ _ _ _ _ idsz tsz g1 g2 g3 g4 g5 wx h)
  clear CD
  go_wp2_with fail
  refine C7.out.mono ?_
  rintro e w8 ⟨hq, hb8⟩
  obtain ⟨mz, z, piz, niz, ciz, ppz, npz, cpz, q1z, n1z, c1z, q2z, n2z, c2z, q3z, n3z, c3z, q4z, n4z, c4z, q5z, n5z, c5z, idsz, tsz, g1, g2, g3, g4, g5, rfl, hmv, hd⟩ := hq.shape
  clear hq
  obtain ⟨w9, hw9⟩ : ∃ w9, w9 = w8.alloc (.cells #[.int .i64 mz.kind, .int .i64 mz.fr, .int .i64 mz.to, .int .i64 mz.ep, .slice piz niz ciz, .slice ppz npz cpz, .int .i64 mz.pol.ep, .slice q1z n1z c1z, .slice q2z n2z c2z, .slice q3z n3z c3z, .slice q4z n4z c4z, .slice q5z n5z c5z, .int .i64 mz.pol.dp, .int .i64 mz.pol.nd, .int .i64 mz.pol.bt] 27) := ⟨_, rfl⟩
  have hn9 : Below w8.heap.size w8 w9 := by rw [hw9]; exact bel_alloc (Below.refl _ _) _
  have HB9 : Hid (Below w.heap.size w w9) := hide ((HN70.out.keep (hb8.trans (hn9.mono hb8.size))).2)
  have N9 : Hid (w9.heap[w8.heap.size]? = some (.cells #[.int .i64 mz.kind, .int .i64 mz.fr, .int .i64 mz.to, .int .i64 mz.ep, .slice piz niz ciz, .slice ppz npz cpz, .int .i64 mz.pol.ep, .slice q1z n1z c1z, .slice q2z n2z c2z, .slice q3z n3z c3z, .slice q4z n4z c4z, .slice q5z n5z c5z, .int .i64 mz.pol.dp, .int .i64 mz.pol.nd, .int .i64 mz.pol.bt] 27 (0, 0))) := hide (by rw [hw9]; exact new_block _ _ _)
  have C9 := hide (CZ.out mz piz niz ciz ppz npz cpz q1z n1z c1z q2z n2z c2z q3z n3z c3z q4z n4z c4z q5z n5z c5z idsz tsz g1 g2 g3 g4 g5 w9 (hmv.below hn9))
  have HD := hide hd
  clear hmv hn9 hb8 hd C7 CZ HN70
  go_upto_region 12 with fail
  rw [← hw9]
  clear hw9
  have u0 := tag_cell N9.out 0 _ rfl
  have u1 := tag_cell N9.out 1 _ rfl
  have u2 := tag_cell N9.out 2 _ rfl
  have u3 := tag_cell N9.out 3 _ rfl
  have u4 := tag_cell N9.out 4 _ rfl
  have u5 := tag_cell N9.out 5 _ rfl
  have u6 := tag_cell N9.out 6 _ rfl
  have u7 := tag_cell N9.out 7 _ rfl
  have u8 := tag_cell N9.out 8 _ rfl
  have u9 := tag_cell N9.out 9 _ rfl
  have u10 := tag_cell N9.out 10 _ rfl
  have u11 := tag_cell N9.out 11 _ rfl
  have u12 := tag_cell N9.out 12 _ rfl
  have u13 := tag_cell N9.out 13 _ rfl
  have u14 := tag_cell N9.out 14 _ rfl
  rcases HD.out with ⟨hR, hT, hz⟩ | ⟨_, hm, l, left, _, hz⟩
  · have HRT := hide (And.intro hR hT)
    subst hz
    clear hR hT HD
    go_wp2_with fail
    refine C9.out.mono ?_
    rintro e w10 ⟨hq, hb10⟩
    have HB10 := hide (HB9.out.trans (hb10.mono HB9.out.size))
    rcases hq with ⟨_, rfl⟩ | ⟨hn, _⟩
    rotate_left
    · exact absurd HRT.out.1 hn
    obtain ⟨U, hU⟩ : ∃ U : ByteArray, U = ⟨(textM mz).toArray⟩ := ⟨_, rfl⟩
    have hUb : bl U = bl s := by rw [hU, ← HRT.out.2]
    rw [← hU]
    have hq2 := beq_same hUb
    clear hU hUb hb10 C9 u0 u1 u2 u3 u4 u5 u6 u7 u8 u9 u10 u11 u12 u13 u14
    go_wp2_with fail
    go_ret
    exact ⟨rfl, HB10.out⟩
  · have hz0 : (z != 0) = true := by rw [hz]; split <;> rfl
    have hk : (mz.kind == 0) = true := by rw [hm]; rfl
    clear hm hz C9 HD
    go_wp2_with fail
    go_ret
    exact ⟨rfl, HB9.out⟩
theorem mback_walk {m : Ms} {vi vp v1 v2 v3 v4 v5 : Value} {ids : List ByteArray} {ts : List (ByteArray × ByteArray)} {l1 l2 l3 l4 l5 : List ByteArray} (s : ByteArray) (w : World) (ha : MA w m vi vp v1 v2 v3 v4 v5 ids ts l1 l2 l3 l4 l5) (hge : GlobE w) :
    Calls Tryz.prog 5 #[mval m.kind m.fr m.to m.ep vi vp m.pol v1 v2 v3 v4 v5, .string s] w fun e w' => e = .returned (.bool true) ∧ Below w.heap.size w w' := by
  by_cases h : MRight m
  · exact mback_good s w ha hge h
  · exact mback_bad s w ha hge h
end Go.Proofs.YtebcpmgooodmpaaGreatDoor
