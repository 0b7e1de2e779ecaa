/-
  The law MsgAcks.
-/
import Derived.Test.YtebcpmgooodmpaaGreatDoorML1
namespace Go.Proofs.YtebcpmgooodmpaaGreatDoor
open Go.RowKit
open Utf1
open Pol8 hiding text right Right
open Msg15

theorem ack_len {f t ep : Int} (h1 : 0 ≤ f ∧ f ≤ 5) (h2 : 0 ≤ t ∧ t ≤ 5) (h4 : 0 ≤ ep ∧ ep ≤ 1000000) : (textM ⟨4, f, t, ep, [], [], Pol.zero⟩).length ≤ 22 := by
  have d : ∀ n : Nat, n < 10 → (fld (dec n)).length = 4 := fun n hn => by
    unfold fld
    rw [dec_small n hn]
    show (dec 1 ++ _).length = _
    rw [dec_small 1 (by decide)]
    rfl
  have h7 := dec_len ep.toNat 6 (by omega)
  have h8 : (fld (dec ep.toNat)).length ≤ 10 := by
    unfold fld
    have h9 := dec_small (dec ep.toNat).length (by omega)
    rw [h9]
    simp
    omega
  show (fld (dec 4) ++ (fld (dec f.toNat) ++ (fld (dec t.toNat) ++ (fld (dec ep.toNat) ++ [])))).length ≤ 22
  rw [List.length_append, List.length_append, List.length_append, List.length_append, d 4 (by decide), d f.toNat (by omega), d t.toNat (by omega), List.length_nil]
  omega

set_option maxRecDepth 100000 in
set_option maxHeartbeats 16000000 in
theorem acks_walk (f t ep : Int) (w : World) (hg : Glob w) (hge : GlobE w) :
    Calls Tryz.prog 8 #[.int .i64 f, .int .i64 t, .int .i64 ep] w fun e w' => e = .returned (.bool true) ∧ Below w.heap.size w w' := by
  have CA := hide (eawake_any w hg hge)
  have CE : Hid (∀ wx, Below w.heap.size w wx → Calls Tryz.prog 11 #[.agg #[.int .i64 4, .int .i64 f, .int .i64 t, .int .i64 ep, .slice none 0 0, .slice none 0 0, .int .i64 0, .slice none 0 0, .slice none 0 0, .slice none 0 0, .slice none 0 0, .slice none 0 0, .int .i64 0, .int .i64 0, .int .i64 0]] wx fun e w' => EncQ ⟨4, f, t, ep, [], [], Pol.zero⟩ e ∧ Below wx.heap.size wx w') := hide (fun wx hx => eencode_any ⟨4, f, t, ep, [], [], Pol.zero⟩ _ _ _ _ _ _ _ [] [] [] [] [] [] [] wx (MV.bare 4 f t ep (hg.below hx)))
  have CR : Hid (∀ wx, Below w.heap.size w wx → Calls Tryz.prog 13 #[.agg #[.int .i64 4, .int .i64 f, .int .i64 t, .int .i64 ep, .slice none 0 0, .slice none 0 0, .int .i64 0, .slice none 0 0, .slice none 0 0, .slice none 0 0, .slice none 0 0, .slice none 0 0, .int .i64 0, .int .i64 0, .int .i64 0]] wx fun e w' => BoolOf (MRight ⟨4, f, t, ep, [], [], Pol.zero⟩) e ∧ Below wx.heap.size wx w') := hide (fun wx hx => eright_any 4 f t ep _ _ [] [] _ _ _ _ _ Pol.zero [] [] [] [] [] wx (strArg_nil _) (postRow_nil _) (PolV.zero wx (hg.below hx)) fits_zero (by simp) (by simp) ⟨4, f, t, ep, [], [], Pol.zero⟩ rfl)
  have CD : Hid (∀ (s : ByteArray) wx, s.size ≤ 99999 → Below w.heap.size w wx → Calls Tryz.prog 15 #[.string s] wx fun e w' => DecQ w' (bl s) e ∧ Below wx.heap.size wx w') := hide (fun s wx hs hx => edecode_any s hs wx (hg.below hx) (hge.below hx))
  clear hg hge
  go_enter Tryz.func8, Tryz.ntmps8
  go_wp2_with fail
  refine CA.out.mono ?_
  rintro e w1 ⟨rfl, hb1⟩
  have HB1 := hide hb1
  clear hb1 CA
  obtain ⟨w2, hw2⟩ : ∃ w2, w2 = w1.alloc (.cells #[.int .i64 4, .int .i64 f, .int .i64 t, .int .i64 ep, .slice none 0 0, .slice none 0 0, .int .i64 0, .slice none 0 0, .slice none 0 0, .slice none 0 0, .slice none 0 0, .slice none 0 0, .int .i64 0, .int .i64 0, .int .i64 0] 27) := ⟨_, rfl⟩
  have HB2 : Hid (Below w.heap.size w w2) := hide (by rw [hw2]; exact bel_alloc HB1.out _)
  have N2 : Hid (w2.heap[w1.heap.size]? = some (.cells #[.int .i64 4, .int .i64 f, .int .i64 t, .int .i64 ep, .slice none 0 0, .slice none 0 0, .int .i64 0, .slice none 0 0, .slice none 0 0, .slice none 0 0, .slice none 0 0, .slice none 0 0, .int .i64 0, .int .i64 0, .int .i64 0] 27 (0, 0))) := hide (by rw [hw2]; exact new_block _ _ _)
  go_upto_region 3 with fail
  rw [← hw2]
  clear hw2
  have y0 := tag_cell N2.out 0 _ rfl
  have y1 := tag_cell N2.out 1 _ rfl
  have y2 := tag_cell N2.out 2 _ rfl
  have y3 := tag_cell N2.out 3 _ rfl
  have y4 := tag_cell N2.out 4 _ rfl
  have y5 := tag_cell N2.out 5 _ rfl
  have y6 := tag_cell N2.out 6 _ rfl
  have y7 := tag_cell N2.out 7 _ rfl
  have y8 := tag_cell N2.out 8 _ rfl
  have y9 := tag_cell N2.out 9 _ rfl
  have y10 := tag_cell N2.out 10 _ rfl
  have y11 := tag_cell N2.out 11 _ rfl
  have y12 := tag_cell N2.out 12 _ rfl
  have y13 := tag_cell N2.out 13 _ rfl
  have y14 := tag_cell N2.out 14 _ rfl
  clear y0 y1 y2 y3 y4 y5 y6 y7 y8 y9 y10 y11 y12 y13 y14
  obtain ⟨mb, hmb⟩ : ∃ mb : Bool, mb = true ↔ ((0 ≤ f ∧ f ≤ 5) ∧ (0 ≤ t ∧ t ≤ 5) ∧ f ≠ t ∧ (0 ≤ ep ∧ ep ≤ 1000000)) := ⟨decide _, decide_eq_true_iff⟩
  have HMB := hide hmb
  clear hmb
  go_cut [9] from 19 (fun v9 wx => v9 = .bool mb ∧ wx = w2)
  case first =>
    by_cases g0 : 0 ≤ f
    rotate_left
    · have HN : Hid (mb = false) := hide (by cases hm : mb with | false => rfl | true => exact absurd (HMB.out.1 hm) (fun h => g0 (h.1.1)))
      have d0 : decide (0 ≤ f) = false := by exact decide_eq_false g0
      clear g0
      go_wp2_with fail
      go_meet
      exact ⟨by rw [HN.out], rfl⟩
    have d0 : decide (0 ≤ f) = true := by exact decide_eq_true g0
    by_cases g1 : f ≤ 5
    rotate_left
    · have HN : Hid (mb = false) := hide (by cases hm : mb with | false => rfl | true => exact absurd (HMB.out.1 hm) (fun h => g1 (h.1.2)))
      have d1 : decide (f ≤ 5) = false := by exact decide_eq_false g1
      clear g0 g1
      go_wp2_with fail
      go_meet
      exact ⟨by rw [HN.out], rfl⟩
    have d1 : decide (f ≤ 5) = true := by exact decide_eq_true g1
    by_cases g2 : 0 ≤ t
    rotate_left
    · have HN : Hid (mb = false) := hide (by cases hm : mb with | false => rfl | true => exact absurd (HMB.out.1 hm) (fun h => g2 (h.2.1.1)))
      have d2 : decide (0 ≤ t) = false := by exact decide_eq_false g2
      clear g0 g1 g2
      go_wp2_with fail
      go_meet
      exact ⟨by rw [HN.out], rfl⟩
    have d2 : decide (0 ≤ t) = true := by exact decide_eq_true g2
    by_cases g3 : t ≤ 5
    rotate_left
    · have HN : Hid (mb = false) := hide (by cases hm : mb with | false => rfl | true => exact absurd (HMB.out.1 hm) (fun h => g3 (h.2.1.2)))
      have d3 : decide (t ≤ 5) = false := by exact decide_eq_false g3
      clear g0 g1 g2 g3
      go_wp2_with fail
      go_meet
      exact ⟨by rw [HN.out], rfl⟩
    have d3 : decide (t ≤ 5) = true := by exact decide_eq_true g3
    by_cases g4 : f ≠ t
    rotate_left
    · have HN : Hid (mb = false) := hide (by cases hm : mb with | false => rfl | true => exact absurd (HMB.out.1 hm) (fun h => g4 (h.2.2.1)))
      have d4 : (f != t) = false := by simp at g4; simp [g4]
      clear g0 g1 g2 g3 g4
      go_wp2_with fail
      go_meet
      exact ⟨by rw [HN.out], rfl⟩
    have d4 : (f != t) = true := by simp [g4]
    by_cases g5 : 0 ≤ ep
    rotate_left
    · have HN : Hid (mb = false) := hide (by cases hm : mb with | false => rfl | true => exact absurd (HMB.out.1 hm) (fun h => g5 (h.2.2.2.1)))
      have d5 : decide (0 ≤ ep) = false := by exact decide_eq_false g5
      clear g0 g1 g2 g3 g4 g5
      go_wp2_with fail
      go_meet
      exact ⟨by rw [HN.out], rfl⟩
    have d5 : decide (0 ≤ ep) = true := by exact decide_eq_true g5
    by_cases g6 : ep ≤ 1000000
    rotate_left
    · have HN : Hid (mb = false) := hide (by cases hm : mb with | false => rfl | true => exact absurd (HMB.out.1 hm) (fun h => g6 (h.2.2.2.2)))
      have d6 : decide (ep ≤ 1000000) = false := by exact decide_eq_false g6
      clear g0 g1 g2 g3 g4 g5 g6
      go_wp2_with fail
      go_meet
      exact ⟨by rw [HN.out], rfl⟩
    have d6 : decide (ep ≤ 1000000) = true := by exact decide_eq_true g6
    have HN : Hid (mb = true) := hide (HMB.out.2 ⟨⟨g0, g1⟩, ⟨g2, g3⟩, g4, ⟨g5, g6⟩⟩)
    clear g0 g1 g2 g3 g4 g5 g6
    go_wp2_with fail
    go_meet
    exact ⟨by rw [HN.out], rfl⟩
  case rest =>
  obtain ⟨rfl, hwc⟩ := hcut
  have hwc2 := hwc.symm
  clear hwc
  subst hwc2
  have y0 := tag_cell N2.out 0 _ rfl
  have y1 := tag_cell N2.out 1 _ rfl
  have y2 := tag_cell N2.out 2 _ rfl
  have y3 := tag_cell N2.out 3 _ rfl
  have y4 := tag_cell N2.out 4 _ rfl
  have y5 := tag_cell N2.out 5 _ rfl
  have y6 := tag_cell N2.out 6 _ rfl
  have y7 := tag_cell N2.out 7 _ rfl
  have y8 := tag_cell N2.out 8 _ rfl
  have y9 := tag_cell N2.out 9 _ rfl
  have y10 := tag_cell N2.out 10 _ rfl
  have y11 := tag_cell N2.out 11 _ rfl
  have y12 := tag_cell N2.out 12 _ rfl
  have y13 := tag_cell N2.out 13 _ rfl
  have y14 := tag_cell N2.out 14 _ rfl
  cases hmb : mb with
  | false =>
    have HN : Hid (¬ MRight ⟨4, f, t, ep, [], [], Pol.zero⟩) := hide (fun h => by
      have := HMB.out.2 (ackR_to h)
      rw [hmb] at this
      cases this)
    subst hmb
    go_wp2_with fail
    refine (CE.out w2 HB2.out).mono ?_
    rintro e w3 ⟨hq, hb3⟩
    rcases hq with ⟨h, _⟩ | ⟨_, rfl⟩
    · exact absurd h HN.out
    have HB3 := hide (HB2.out.trans (hb3.mono HB2.out.size))
    have N3 : Hid (w3.heap[w1.heap.size]? = some (.cells #[.int .i64 4, .int .i64 f, .int .i64 t, .int .i64 ep, .slice none 0 0, .slice none 0 0, .int .i64 0, .slice none 0 0, .slice none 0 0, .slice none 0 0, .slice none 0 0, .slice none 0 0, .int .i64 0, .int .i64 0, .int .i64 0] 27 (0, 0))) := hide ((hb3.block _ (Array.getElem?_eq_some_iff.1 N2.out).1).trans N2.out)
    clear hb3 CE y0 y1 y2 y3 y4 y5 y6 y7 y8 y9 y10 y11 y12 y13 y14
    have u0 := tag_cell N3.out 0 _ rfl
    have u1 := tag_cell N3.out 1 _ rfl
    have u2 := tag_cell N3.out 2 _ rfl
    have u3 := tag_cell N3.out 3 _ rfl
    have u4 := tag_cell N3.out 4 _ rfl
    have u5 := tag_cell N3.out 5 _ rfl
    have u6 := tag_cell N3.out 6 _ rfl
    have u7 := tag_cell N3.out 7 _ rfl
    have u8 := tag_cell N3.out 8 _ rfl
    have u9 := tag_cell N3.out 9 _ rfl
    have u10 := tag_cell N3.out 10 _ rfl
    have u11 := tag_cell N3.out 11 _ rfl
    have u12 := tag_cell N3.out 12 _ rfl
    have u13 := tag_cell N3.out 13 _ rfl
    have u14 := tag_cell N3.out 14 _ rfl
    go_wp2_with fail
    refine (CR.out w3 HB3.out).mono ?_
    rintro e w4 ⟨⟨b, rfl, hb⟩, hb4⟩
    have hbf : b = false := by cases hbb : b with | false => rfl | true => exact absurd (hb.1 hbb) HN.out
    subst hbf
    have HB4 := hide (HB3.out.trans (hb4.mono HB3.out.size))
    clear hb hb4 CR
    go_wp2_with fail
    go_ret
    exact ⟨rfl, HB4.out⟩
  | true =>
  obtain ⟨⟨g0, g1⟩, ⟨g2, g3⟩, g4, ⟨g5, g6⟩⟩ := HMB.out.1 hmb
  subst hmb
  have HR : Hid (MRight ⟨4, f, t, ep, [], [], Pol.zero⟩) := hide (ackR ⟨g0, g1⟩ ⟨g2, g3⟩ g4 ⟨g5, g6⟩)
  have HL := hide (ack_len ⟨g0, g1⟩ ⟨g2, g3⟩ ⟨g5, g6⟩)
  clear g0 g1 g2 g3 g4 g5 g6
  go_wp2_with fail
  refine (CE.out w2 HB2.out).mono ?_
  rintro e w3 ⟨hq, hb3⟩
  rcases hq with ⟨_, rfl⟩ | ⟨h, _⟩
  rotate_left
  · exact absurd HR.out h
  have HB3 := hide (HB2.out.trans (hb3.mono HB2.out.size))
  obtain ⟨T, hT⟩ : ∃ T : ByteArray, T = ⟨(textM ⟨4, f, t, ep, [], [], Pol.zero⟩).toArray⟩ := ⟨_, rfl⟩
  have hTb : bl T = textM ⟨4, f, t, ep, [], [], Pol.zero⟩ := by rw [hT]
  have hTs : T.size ≤ 22 := by rw [← bl_len, hTb]; exact HL.out
  rw [← hT]
  have C4 := hide (CD.out T w3 (by omega) HB3.out)
  rw [hTb] at C4
  have dT : decide ((T.size : Int) ≤ 22) = true := decide_eq_true (by omega)
  have dT2 : decide (T.size ≤ 22) = true := decide_eq_true hTs
  clear hb3 CE CD CR hT hTb y0 y1 y2 y3 y4 y5 y6 y7 y8 y9 y10 y11 y12 y13 y14
  go_wp2_with fail
  refine C4.out.mono ?_
  rintro e w4 ⟨hq, hb4⟩
  obtain ⟨m, z, pi, ni, ci, pp, np, cp, q1, n1, c1, q2, n2, c2, q3, n3, c3, q4, n4, c4, q5, n5, c5, ids, ts, l1, l2, l3, l4, l5, rfl, -, hd⟩ := hq.shape
  obtain ⟨rfl, rfl⟩ := hd.one (dcd_text HR.out)
  obtain ⟨w5, hw5⟩ : ∃ w5, w5 = w4.alloc (.cells #[.int .i64 (⟨4, f, t, ep, [], [], Pol.zero⟩ : Ms).kind, .int .i64 (⟨4, f, t, ep, [], [], Pol.zero⟩ : Ms).fr, .int .i64 (⟨4, f, t, ep, [], [], Pol.zero⟩ : Ms).to, .int .i64 (⟨4, f, t, ep, [], [], Pol.zero⟩ : Ms).ep, .slice pi ni ci, .slice pp np cp, .int .i64 (⟨4, f, t, ep, [], [], Pol.zero⟩ : Ms).pol.ep, .slice q1 n1 c1, .slice q2 n2 c2, .slice q3 n3 c3, .slice q4 n4 c4, .slice q5 n5 c5, .int .i64 (⟨4, f, t, ep, [], [], Pol.zero⟩ : Ms).pol.dp, .int .i64 (⟨4, f, t, ep, [], [], Pol.zero⟩ : Ms).pol.nd, .int .i64 (⟨4, f, t, ep, [], [], Pol.zero⟩ : Ms).pol.bt] 27) := ⟨_, rfl⟩
  have HB5 : Hid (Below w.heap.size w w5) := hide (by rw [hw5]; exact bel_alloc (HB3.out.trans (hb4.mono HB3.out.size)) _)
  have v0 : w5.cell? ⟨w4.heap.size, 0, none⟩ = some (.int .i64 4) := by rw [hw5]; exact tag_cell (new_block _ _ _) 0 _ rfl
  have v1 : w5.cell? ⟨w4.heap.size, 1, none⟩ = some (.int .i64 f) := by rw [hw5]; exact tag_cell (new_block _ _ _) 1 _ rfl
  have v2 : w5.cell? ⟨w4.heap.size, 2, none⟩ = some (.int .i64 t) := by rw [hw5]; exact tag_cell (new_block _ _ _) 2 _ rfl
  have v3 : w5.cell? ⟨w4.heap.size, 3, none⟩ = some (.int .i64 ep) := by rw [hw5]; exact tag_cell (new_block _ _ _) 3 _ rfl
  have ef : (f == f) = true := by simp
  have et : (t == t) = true := by simp
  have ee : (ep == ep) = true := by simp
  clear hq hd hb4 C4
  go_upto_region 8 with fail
  rw [← hw5]
  clear hw5
  go_wp2_with fail
  go_ret
  exact ⟨rfl, HB5.out⟩
end Go.Proofs.YtebcpmgooodmpaaGreatDoor
