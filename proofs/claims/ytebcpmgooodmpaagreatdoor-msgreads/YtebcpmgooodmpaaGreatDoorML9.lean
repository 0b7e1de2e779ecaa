/-
  The law MsgReads.
-/
import Derived.Test.YtebcpmgooodmpaaGreatDoorMD10c
import Derived.Test.YtebcpmgooodmpaaGreatDoorMD8
import Derived.Test.YtebcpmgooodmpaaGreatDoorML1
namespace Go.Proofs.YtebcpmgooodmpaaGreatDoor
open Go.RowKit
open Utf1
open Pol8 hiding text right Right
open Msg15

theorem mdecode_any (s : ByteArray) (hs : s.size ≤ 8000) (w : World) (hg : Glob w) :
    Calls Tryz.prog 16 #[.string s] w fun e w' => DecQ w' (bl s) e ∧ Below w.heap.size w w' := by
  obtain ⟨l, left, hfl⟩ := fl_all (bl s)
  by_cases hb : begB left = true
  · exact mdecode_short s hs w hg l left hfl hb
  have hbf : begB left = false := by simpa using hb
  by_cases hn : left ≠ [] ∨ l.length < 4
  · exact mdecode_form s hs w hg l left hfl hbf hn
  · have h1 : left = [] := by
      by_cases h : left = []
      · exact h
      · exact absurd (.inl h) hn
    have h2 : 4 ≤ l.length := by
      by_cases h : l.length < 4
      · exact absurd (.inr h) hn
      · omega
    exact mdecode_good s hs w hg l left hfl h1 h2

set_option maxRecDepth 100000 in
set_option maxHeartbeats 32000000 in
theorem reads_walk (s : ByteArray) (w : World) (hg : Glob w) (hge : GlobE w) :
    Calls Tryz.prog 4 #[.string s] w fun e w' => e = .returned (.bool true) ∧ Below w.heap.size w w' := by
  have CA := hide (eawake_any w hg hge)
  by_cases h8 : 8000 < s.size
  · have d0 : decide ((8000 : Int) < (s.size : Int)) = true := decide_eq_true (by omega)
    have d1 : decide (8000 < s.size) = true := decide_eq_true h8
    clear h8
    go_enter Tryz.func4, Tryz.ntmps4
    go_wp2_with fail
    refine CA.out.mono ?_
    rintro e w1 ⟨rfl, hb1⟩
    go_wp2_with fail
    go_ret
    exact ⟨rfl, hb1⟩
  have d0 : decide ((8000 : Int) < (s.size : Int)) = false := decide_eq_false (by omega)
  have d1 : decide (8000 < s.size) = false := decide_eq_false h8
  have CD : Hid (∀ wx, Below w.heap.size w wx → Calls Tryz.prog 15 #[.string s] wx fun e w' => DecQ w' (bl s) e ∧ Below wx.heap.size wx w') := hide (fun wx hx => edecode_any s (by omega) wx (hg.below hx) (hge.below hx))
  have CM : Hid (∀ wx, Below w.heap.size w wx → Calls Tryz.prog 16 #[.string s] wx fun e w' => DecQ w' (bl s) e ∧ Below wx.heap.size wx w') := hide (fun wx hx => mdecode_any s (by omega) wx (hg.below hx))
  clear h8 hg hge
  go_enter Tryz.func4, Tryz.ntmps4
  go_wp2_with fail
  refine CA.out.mono ?_
  rintro e w1 ⟨rfl, hb1⟩
  have HB1 := hide hb1
  clear hb1 CA
  go_wp2_with fail
  refine (CD.out _ HB1.out).mono ?_
  rintro e w2 ⟨hq, hb2⟩
  obtain ⟨m, z, pia, nia, cia, ppa, npa, cpa, q1a, n1a, c1a, q2a, n2a, c2a, q3a, n3a, c3a, q4a, n4a, c4a, q5a, n5a, c5a, ids1, ts1, l1, l2, l3, l4, l5, rfl, hmv, hd⟩ := hq.shape
  clear hq
  obtain ⟨w3, hw3⟩ : ∃ w3, w3 = w2.alloc (.cells #[.int .i64 m.kind, .int .i64 m.fr, .int .i64 m.to, .int .i64 m.ep, .slice pia nia cia, .slice ppa npa cpa, .int .i64 m.pol.ep, .slice q1a n1a c1a, .slice q2a n2a c2a, .slice q3a n3a c3a, .slice q4a n4a c4a, .slice q5a n5a c5a, .int .i64 m.pol.dp, .int .i64 m.pol.nd, .int .i64 m.pol.bt] 27) := ⟨_, rfl⟩
  have hn3 : Below w2.heap.size w2 w3 := by rw [hw3]; exact bel_alloc (Below.refl _ _) _
  have HB3 : Hid (Below w.heap.size w w3) := hide (HB1.out.trans ((hb2.trans (hn3.mono hb2.size)).mono HB1.out.size))
  have N3 : Hid (w3.heap[w2.heap.size]? = some (.cells #[.int .i64 m.kind, .int .i64 m.fr, .int .i64 m.to, .int .i64 m.ep, .slice pia nia cia, .slice ppa npa cpa, .int .i64 m.pol.ep, .slice q1a n1a c1a, .slice q2a n2a c2a, .slice q3a n3a c3a, .slice q4a n4a c4a, .slice q5a n5a c5a, .int .i64 m.pol.dp, .int .i64 m.pol.nd, .int .i64 m.pol.bt] 27 (0, 0))) := hide (by rw [hw3]; exact new_block _ _ _)
  have HMV3 := hide (hmv.below hn3)
  have HD := hide hd
  clear hb2 hn3 hmv hd CD HB1
  go_upto_region 5 with fail
  rw [← hw3]
  clear hw3
  go_wp2_with fail
  refine (CM.out _ HB3.out).mono ?_
  rintro e w4 ⟨hq, hb4⟩
  obtain ⟨n, y, piz, niz, ciz, ppz, npz, cpz, q1z, n1z, c1z, q2z, n2z, c2z, q3z, n3z, c3z, q4z, n4z, c4z, q5z, n5z, c5z, ids2, ts2, k1, k2, k3, k4, k5, rfl, hmv, hd⟩ := hq.shape
  clear hq
  obtain ⟨rfl, rfl⟩ := HD.out.one hd
  obtain ⟨w5, hw5⟩ : ∃ w5, w5 = w4.alloc (.cells #[.int .i64 m.kind, .int .i64 m.fr, .int .i64 m.to, .int .i64 m.ep, .slice piz niz ciz, .slice ppz npz cpz, .int .i64 m.pol.ep, .slice q1z n1z c1z, .slice q2z n2z c2z, .slice q3z n3z c3z, .slice q4z n4z c4z, .slice q5z n5z c5z, .int .i64 m.pol.dp, .int .i64 m.pol.nd, .int .i64 m.pol.bt] 27) := ⟨_, rfl⟩
  have hn5 : Below w4.heap.size w4 w5 := by rw [hw5]; exact bel_alloc (Below.refl _ _) _
  have hb5 : Below w3.heap.size w3 w5 := hb4.trans (hn5.mono hb4.size)
  have HB5 : Hid (Below w.heap.size w w5) := hide (HB3.out.trans (hb5.mono HB3.out.size))
  have N5 : Hid (w5.heap[w4.heap.size]? = some (.cells #[.int .i64 m.kind, .int .i64 m.fr, .int .i64 m.to, .int .i64 m.ep, .slice piz niz ciz, .slice ppz npz cpz, .int .i64 m.pol.ep, .slice q1z n1z c1z, .slice q2z n2z c2z, .slice q3z n3z c3z, .slice q4z n4z c4z, .slice q5z n5z c5z, .int .i64 m.pol.dp, .int .i64 m.pol.nd, .int .i64 m.pol.bt] 27 (0, 0))) := hide (by rw [hw5]; exact new_block _ _ _)
  have N4 : Hid (w5.heap[w2.heap.size]? = some (.cells #[.int .i64 m.kind, .int .i64 m.fr, .int .i64 m.to, .int .i64 m.ep, .slice pia nia cia, .slice ppa npa cpa, .int .i64 m.pol.ep, .slice q1a n1a c1a, .slice q2a n2a c2a, .slice q3a n3a c3a, .slice q4a n4a c4a, .slice q5a n5a c5a, .int .i64 m.pol.dp, .int .i64 m.pol.nd, .int .i64 m.pol.bt] 27 (0, 0))) := hide ((hb5.block _ (Array.getElem?_eq_some_iff.1 N3.out).1).trans N3.out)
  have CS := hide (msame_any m m (.slice pia nia cia) (.slice ppa npa cpa) (.slice q1a n1a c1a) (.slice q2a n2a c2a) (.slice q3a n3a c3a) (.slice q4a n4a c4a) (.slice q5a n5a c5a) (.slice piz niz ciz) (.slice ppz npz cpz) (.slice q1z n1z c1z) (.slice q2z n2z c2z) (.slice q3z n3z c3z) (.slice q4z n4z c4z) (.slice q5z n5z c5z) ids1 ts1 l1 l2 l3 l4 l5 ids2 ts2 k1 k2 k3 k4 k5 w5 (HMV3.out.below hb5) (hmv.below hn5))
  clear hb4 hn5 hb5 hmv hd CM HB3 HD N3 HMV3
  go_upto_region 6 with fail
  rw [← hw5]
  clear hw5
  have y0 := tag_cell N4.out 0 _ rfl
  have y1 := tag_cell N4.out 1 _ rfl
  have y2 := tag_cell N4.out 2 _ rfl
  have y3 := tag_cell N4.out 3 _ rfl
  have y4 := tag_cell N4.out 4 _ rfl
  have y5 := tag_cell N4.out 5 _ rfl
  have y6 := tag_cell N4.out 6 _ rfl
  have y7 := tag_cell N4.out 7 _ rfl
  have y8 := tag_cell N4.out 8 _ rfl
  have y9 := tag_cell N4.out 9 _ rfl
  have y10 := tag_cell N4.out 10 _ rfl
  have y11 := tag_cell N4.out 11 _ rfl
  have y12 := tag_cell N4.out 12 _ rfl
  have y13 := tag_cell N4.out 13 _ rfl
  have y14 := tag_cell N4.out 14 _ rfl
  have u0 := tag_cell N5.out 0 _ rfl
  have u1 := tag_cell N5.out 1 _ rfl
  have u2 := tag_cell N5.out 2 _ rfl
  have u3 := tag_cell N5.out 3 _ rfl
  have u4 := tag_cell N5.out 4 _ rfl
  have u5 := tag_cell N5.out 5 _ rfl
  have u6 := tag_cell N5.out 6 _ rfl
  have u7 := tag_cell N5.out 7 _ rfl
  have u8 := tag_cell N5.out 8 _ rfl
  have u9 := tag_cell N5.out 9 _ rfl
  have u10 := tag_cell N5.out 10 _ rfl
  have u11 := tag_cell N5.out 11 _ rfl
  have u12 := tag_cell N5.out 12 _ rfl
  have u13 := tag_cell N5.out 13 _ rfl
  have u14 := tag_cell N5.out 14 _ rfl
  have hzz : (z == z) = true := beq_self_eq_true z
  go_wp2_with fail
  refine CS.out.mono ?_
  rintro e w6 ⟨⟨b, rfl, hb⟩, hb6⟩
  have hbt : b = true := hb.2 (by first | trivial | rfl)
  subst hbt
  have HB6 := hide (HB5.out.trans (hb6.mono HB5.out.size))
  clear hb hb6 CS y0 y1 y2 y3 y4 y5 y6 y7 y8 y9 y10 y11 y12 y13 y14 u0 u1 u2 u3 u4 u5 u6 u7 u8 u9 u10 u11 u12 u13 u14
  go_wp2_with fail
  go_ret
  exact ⟨rfl, HB6.out⟩
end Go.Proofs.YtebcpmgooodmpaaGreatDoor
