/-
  The law ChainSteps, walked.
-/
import Derived.Test.YtlabdbkmlkmnkaaLC3
namespace Go.Proofs.Ytlabdbkmlkmnkaa
open Go.RowKit
open Utf1 Pol8

set_option maxRecDepth 100000 in
set_option maxHeartbeats 32000000 in
theorem lawSteps_walk (hC : CheckC) (hA : AddC) (hR : RightC) (x : It) (nn : Int) (w : World) (hx : x.ok w) :
    Calls Try.prog 7 #[x.val, .int .i64 nn] w fun e w' => e = .returned (.bool true) ∧ Below w.heap.size w w' := by
  obtain ⟨P, v1, v2, v3, v4, v5, l1, l2, l3, l4, l5⟩ := x
  have hx : PolV w v1 v2 v3 v4 v5 P l1 l2 l3 l4 l5 := hx
  show Calls Try.prog 7 #[pval P v1 v2 v3 v4 v5, .int .i64 nn] w _
  have HX := hide hx
  obtain ⟨o1, k1, rfl, -, -⟩ := hx.s1
  obtain ⟨o2, k2, rfl, -, -⟩ := hx.s2
  obtain ⟨o3, k3, rfl, -, -⟩ := hx.s3
  obtain ⟨o4, k4, rfl, -, -⟩ := hx.s4
  obtain ⟨o5, k5, rfl, -, -⟩ := hx.s5
  clear hx
  obtain ⟨w1, hw1⟩ : ∃ w1, w1 = w.alloc (.cells #[.int .i64 P.ep, .slice o1 (List.length l1) k1, .slice o2 (List.length l2) k2, .slice o3 (List.length l3) k3, .slice o4 (List.length l4) k4, .slice o5 (List.length l5) k5, .int .i64 P.dp, .int .i64 P.nd, .int .i64 P.bt] 30) := ⟨_, rfl⟩
  have H1 : Hid (BoxP w #[.int .i64 P.ep, .slice o1 (List.length l1) k1, .slice o2 (List.length l2) k2, .slice o3 (List.length l3) k3, .slice o4 (List.length l4) k4, .slice o5 (List.length l5) k5, .int .i64 P.dp, .int .i64 P.nd, .int .i64 P.bt] w1) := hide (by rw [hw1]; exact ⟨new_block _ _ _, bel_alloc (Below.refl _ _) _⟩)
  have HY : Hid (∀ (e : Int) wx, BoxP w #[.int .i64 e, .slice o1 (List.length l1) k1, .slice o2 (List.length l2) k2, .slice o3 (List.length l3) k3, .slice o4 (List.length l4) k4, .slice o5 (List.length l5) k5, .int .i64 P.dp, .int .i64 P.nd, .int .i64 P.bt] wx → wx.cell? ⟨w.heap.size, 0, none⟩ = some (.int .i64 e) ∧ wx.cell? ⟨w.heap.size, 1, none⟩ = some (.slice o1 l1.length k1) ∧ wx.cell? ⟨w.heap.size, 2, none⟩ = some (.slice o2 l2.length k2) ∧ wx.cell? ⟨w.heap.size, 3, none⟩ = some (.slice o3 l3.length k3) ∧ wx.cell? ⟨w.heap.size, 4, none⟩ = some (.slice o4 l4.length k4) ∧ wx.cell? ⟨w.heap.size, 5, none⟩ = some (.slice o5 l5.length k5) ∧ wx.cell? ⟨w.heap.size, 6, none⟩ = some (.int .i64 P.dp) ∧ wx.cell? ⟨w.heap.size, 7, none⟩ = some (.int .i64 P.nd) ∧ wx.cell? ⟨w.heap.size, 8, none⟩ = some (.int .i64 P.bt)) := hide (fun e wx h => ⟨h.cell 0 _ rfl, h.cell 1 _ rfl, h.cell 2 _ rfl, h.cell 3 _ rfl, h.cell 4 _ rfl, h.cell 5 _ rfl, h.cell 6 _ rfl, h.cell 7 _ rfl, h.cell 8 _ rfl⟩)
  have CW := hide (awake_any hC hA w1)
  have CL : Hid (∀ wx, Below w.heap.size w wx → Calls Try.prog 17 #[.agg #[.int .i64 P.ep, .slice o1 (List.length l1) k1, .slice o2 (List.length l2) k2, .slice o3 (List.length l3) k3, .slice o4 (List.length l4) k4, .slice o5 (List.length l5) k5, .int .i64 P.dp, .int .i64 P.nd, .int .i64 P.bt]] wx fun e w' => (∃ b : Bool, e = .returned (.bool b) ∧ (b = true → light P)) ∧ Below wx.heap.size wx w') := hide (fun wx h => rlight_any _ _ _ _ _ P _ _ _ _ _ wx (HX.out.below h))
  have CR : Hid (fits P → ∀ wx, Below w.heap.size w wx → Calls Try.prog 18 #[.agg #[.int .i64 P.ep, .slice o1 (List.length l1) k1, .slice o2 (List.length l2) k2, .slice o3 (List.length l3) k3, .slice o4 (List.length l4) k4, .slice o5 (List.length l5) k5, .int .i64 P.dp, .int .i64 P.nd, .int .i64 P.bt]] wx fun e w' => e = .returned (.bool (right P)) ∧ Below wx.heap.size wx w') := hide (fun hf wx h => hR _ _ _ _ _ P _ _ _ _ _ wx (HX.out.below h) hf)
  have HA := hide hA
  have HR := hide hR
  clear hA hR hC
  go_enter Try.func7, Try.ntmps7
  go_upto_region 1 with fail
  rw [← hw1]
  clear hw1
  go_wp2_with fail
  refine CW.out.mono ?_
  rintro e w2 ⟨rfl, h2⟩
  have H2 := hide (H1.out.keep h2)
  clear h2 CW H1
  obtain ⟨y0, y1, y2, y3, y4, y5, y6, y7, y8⟩ := HY.out _ w2 H2.out
  go_wp2_with fail
  refine (CL.out _ H2.out.2).mono ?_
  rintro e w3 ⟨⟨b, rfl, hb⟩, h3⟩
  have H3 := hide (H2.out.keep h3)
  have HB := hide hb
  clear h3 hb CL H2 y0 y1 y2 y3 y4 y5 y6 y7 y8
  cases b with
  | false =>
    go_wp2_with fail
    go_ret
    exact ⟨rfl, H3.out.2⟩
  | true =>
    have HLI := hide (HB.out rfl)
    clear HB
    by_cases hn0 : nn < 0
    · go_wp2_with fail
      go_ret
      exact ⟨rfl, H3.out.2⟩
    by_cases hn1 : 10 < nn
    · go_wp2_with fail
      go_ret
      exact ⟨rfl, H3.out.2⟩
    obtain ⟨k, rfl⟩ : ∃ k : Nat, nn = (k : Int) := ⟨nn.toNat, by omega⟩
    have hk10 : k ≤ 10 := by omega
    clear hn0 hn1
    have C1 := hide (CR.out (light_fits HLI.out) _ H3.out.2)
    obtain ⟨y0, y1, y2, y3, y4, y5, y6, y7, y8⟩ := HY.out _ w3 H3.out
    clear CR
    go_wp2_with fail
    refine C1.out.mono ?_
    rintro e w4 ⟨rfl, h4⟩
    have H4 := hide (H3.out.keep h4)
    clear h4 C1 H3 y0 y1 y2 y3 y4 y5 y6 y7 y8
    cases hrt : right P with
    | false =>
      go_wp2_with fail
      go_ret
      exact ⟨rfl, H4.out.2⟩
    | true =>
      have HRT := hide hrt
      clear hrt
      go_wp2_with fail
      go_loopg [7, 8] k (fun g v7 v8 wx => ∃ (i : Nat) (e : Int) (q : Option Addr) (m c : Nat) (us : List It), i + g = k ∧ v7 = .slice q m c ∧ v8 = .int .i64 (i : Int) ∧ Hid (BoxP w #[.int .i64 e, .slice o1 (List.length l1) k1, .slice o2 (List.length l2) k2, .slice o3 (List.length l3) k3, .slice o4 (List.length l4) k4, .slice o5 (List.length l5) k5, .int .i64 P.dp, .int .i64 P.nd, .int .i64 P.bt] wx ∧ OwnP wx (w.heap.size + 1) (.slice q m c) us ∧ us.map It.p = again P i))
      case atStart => exact ⟨0, P.ep, none, 0, 0, [], by omega, rfl, rfl, hide ⟨H4.out, ⟨World.ownsRow_nil _ _ _ _, fun t ht => by cases ht⟩, rfl⟩⟩
      case round =>
        obtain ⟨i, e, q, m, c, us, hi, rfl, rfl, HU⟩ := hrel
        clear H4
        by_cases hlt : i < k
        · have y0 := HU.out.1.cell 0 _ rfl
          have z0 : wr.frozen? ⟨w.heap.size, 0, none⟩ = false := frozen_of_row _ _ _ _ _ HU.out.1.1
          go_upto_region 10 with fail
          obtain ⟨w5, hw5⟩ : ∃ w5, w5 = wr.setCell ⟨w.heap.size, 0, none⟩ (.int .i64 ((i : Int) + 1)) := ⟨_, rfl⟩
          have H5 : Hid (BoxP w #[.int .i64 ((i : Int) + 1), .slice o1 (List.length l1) k1, .slice o2 (List.length l2) k2, .slice o3 (List.length l3) k3, .slice o4 (List.length l4) k4, .slice o5 (List.length l5) k5, .int .i64 P.dp, .int .i64 P.nd, .int .i64 P.bt] w5) := hide (by rw [hw5]; exact HU.out.1.put 0 _)
          have HO5 : Hid (OwnP w5 (w.heap.size + 1) (.slice q m c) us) := hide (by rw [hw5]; exact HU.out.2.1.setCell (Nat.lt_succ_self _) HU.out.1.1 (noStr _ _ _ _ _ _ _ _ _ _ _ _ _ _ _ _ _ _ _) _)
          have HM := hide HU.out.2.2
          rw [← hw5]
          clear hw5 y0 z0 HU
          have hul : us.length ≤ 1000 := by
            have := congrArg List.length HM.out
            rw [List.length_map, again_len] at this
            omega
          have hfu : ∀ t ∈ us, fits t.p := fun t ht => by
            have h1 : t.p ∈ us.map It.p := List.mem_map_of_mem ht
            rw [HM.out] at h1
            unfold again at h1
            obtain ⟨j, -, e⟩ := List.mem_map.1 h1
            rw [← e]
            exact fits_ep (light_fits HLI.out) _
          have C5 : Hid (Calls Try.prog 12 #[.slice q m c, .agg #[.int .i64 ((i : Int) + 1), .slice o1 (List.length l1) k1, .slice o2 (List.length l2) k2, .slice o3 (List.length l3) k3, .slice o4 (List.length l4) k4, .slice o5 (List.length l5) k5, .int .i64 P.dp, .int .i64 P.nd, .int .i64 P.bt]] w5 fun e w' => (∃ q' m' c' us', e = .returned (.tuple #[.slice q' m' c', .int .i64 0]) ∧ OwnP w' (w.heap.size + 1) (.slice q' m' c') us' ∧ us'.map It.p = again P (i + 1)) ∧ Below w5.heap.size w5 w') := hide (by
            have hh := HX.out.below H5.out.2
            refine (HA.out (.slice q m c) us ⟨{ P with ep := (i : Int) + 1 }, .slice o1 l1.length k1, .slice o2 l2.length k2, .slice o3 l3.length k3, .slice o4 l4.length k4, .slice o5 l5.length k5, l1, l2, l3, l4, l5⟩ w5 hfu (fits_ep (light_fits HLI.out) _) hul HO5.out.row ⟨hh.s1, hh.s2, hh.s3, hh.s4, hh.s5, hh.e1, hh.e2, hh.e3, hh.e4, hh.e5, trivial⟩).mono ?_
            rintro e w' ⟨⟨E, n, u, rfl, hc, h0, -⟩, hb⟩
            rw [HM.out, ← again_succ] at hc
            have hE := again_chk HRT.out (by omega) hc
            subst hE
            obtain ⟨us', ho, hm⟩ := h0 rfl
            rw [HM.out, ← again_succ] at hm
            obtain ⟨q', c', rfl, -⟩ := own_shape ho.o
            exact ⟨⟨q', us'.length, c', us', rfl, ⟨own_mono ho.o H5.out.lt, ho.k⟩, hm⟩, hb⟩)
          obtain ⟨y0, y1, y2, y3, y4, y5, y6, y7, y8⟩ := HY.out _ w5 H5.out
          clear hfu hul HO5 HM
          go_wp2_with fail
          refine C5.out.mono ?_
          rintro e w6 ⟨⟨q', m', c', us', rfl, ho, hm⟩, h6⟩
          have H6 := hide (H5.out.keep h6)
          have HO6 := hide (And.intro ho hm)
          clear ho hm h6 C5 H5 y0 y1 y2 y3 y4 y5 y6 y7 y8
          go_wp2_with fail
          go_roundg (k - i - 1)
          case measure => omega
          case rel => exact ⟨i + 1, (i : Int) + 1, q', m', c', us', by omega, rfl, by first | rfl | simp, hide ⟨H6.out, HO6.out.1, HO6.out.2⟩⟩
        · have hik : i = k := by omega
          subst hik
          by_cases hk0 : i = 0
          · subst hk0
            go_wp2_with fail
            go_ret
            exact ⟨rfl, HU.out.1.2⟩
          · have HK0 : Hid (0 < i) := hide (by omega)
            obtain ⟨y0, y1, y2, y3, y4, y5, y6, y7, y8⟩ := HY.out _ wr HU.out.1
            obtain ⟨w7, hw7⟩ : ∃ w7, w7 = wr.alloc (.cells #[.int .i64 e, .slice o1 (List.length l1) k1, .slice o2 (List.length l2) k2, .slice o3 (List.length l3) k3, .slice o4 (List.length l4) k4, .slice o5 (List.length l5) k5, .int .i64 P.dp, .int .i64 P.nd, .int .i64 P.bt] 30) := ⟨_, rfl⟩
            have H7 : Hid (BoxP wr #[.int .i64 e, .slice o1 (List.length l1) k1, .slice o2 (List.length l2) k2, .slice o3 (List.length l3) k3, .slice o4 (List.length l4) k4, .slice o5 (List.length l5) k5, .int .i64 P.dp, .int .i64 P.nd, .int .i64 P.bt] w7) := hide (by rw [hw7]; exact ⟨new_block _ _ _, bel_alloc (Below.refl _ _) _⟩)
            go_upto_region 17 with fail
            rw [← hw7]
            clear hw7 y0 y1 y2 y3 y4 y5 y6 y7 y8
            have y0 := H7.out.cell 0 _ rfl
            have z0 : w7.frozen? ⟨wr.heap.size, 0, none⟩ = false := frozen_of_row _ _ _ _ _ H7.out.1
            go_upto_region 18 with fail
            obtain ⟨w8, hw8⟩ : ∃ w8, w8 = w7.setCell ⟨wr.heap.size, 0, none⟩ (.int .i64 ((i : Int) + 1)) := ⟨_, rfl⟩
            have H8 : Hid (BoxP wr #[.int .i64 ((i : Int) + 1), .slice o1 (List.length l1) k1, .slice o2 (List.length l2) k2, .slice o3 (List.length l3) k3, .slice o4 (List.length l4) k4, .slice o5 (List.length l5) k5, .int .i64 P.dp, .int .i64 P.nd, .int .i64 P.bt] w8) := hide (by rw [hw8]; exact H7.out.put 0 _)
            rw [← hw8]
            clear hw8 y0 z0 H7
            have HXW : Hid (∀ wx, Below wr.heap.size wr wx → PolV wx (.slice o1 l1.length k1) (.slice o2 l2.length k2) (.slice o3 l3.length k3) (.slice o4 l4.length k4) (.slice o5 l5.length k5) P l1 l2 l3 l4 l5) := hide (fun wx h => HX.out.below (bel2 HU.out.1.2 h))
            obtain ⟨wz, hwz⟩ : ∃ wz, wz = w8.alloc (.cells #[] 9) := ⟨_, rfl⟩
            have HBZ : Hid (Below w8.heap.size w8 wz) := hide (by rw [hwz]; exact (Below.refl _ _).alloc (Nat.le_refl _) _)
            have HOWN : Hid (wz.ownsRow w8.heap.size 9 1 (.slice (some ⟨w8.heap.size, 0, none⟩) 0 0) 0 []) := hide (by
              rw [hwz]
              exact World.ownsRow_made w8 #[] 0 (Nat.le_refl _) (by decide) rfl)
            have y3 : (w8.alloc (.cells #[] 9)).cell? ⟨w.heap.size, 3, none⟩ = some (.slice o3 l3.length k3) := by
              have h1 := HU.out.1.keep H8.out.2
              have h2 := h1.keep (bel_alloc (Below.refl _ _) (.cells #[] 9))
              exact h2.cell 3 _ rfl
            have y3' : w8.cell? ⟨w.heap.size, 3, none⟩ = some (.slice o3 l3.length k3) := (HU.out.1.keep H8.out.2).cell 3 _ rfl
            have hl3 : l3.length ≤ 100 := by
              have h1 := HLI.out.1 P.sc (by simp [Pol.lists])
              rw [← HX.out.e3, List.length_map] at h1
              exact h1
            have HL3 := hide hl3
            clear hl3
            go_wp2_with (at_builtin; rw [← hwz]; refine wpList_append_strs rfl (.tmp 58) (.tmp 60) rfl w8 wz _ _ [] l3 rfl rfl HBZ.out HOWN.out (HXW.out _ (bel2 H8.out.2 HBZ.out)).s3 (by have := HL3.out; simp; omega) ?_)
            intro u9 w9 ho9 hb9
            obtain ⟨p9, c9, rfl, -⟩ := own_shape ho9
            have HO9 := hide ho9
            have HB9 := hide hb9
            clear ho9 hb9 hwz HOWN HBZ y3 y3'
            obtain ⟨wy, hwy⟩ : ∃ wy, wy = w9.alloc (.cells #[.string zzB] 9) := ⟨_, rfl⟩
            have HSM : Hid (StrArg wy (.slice (some ⟨w9.heap.size, 0, none⟩) 1 1) [zzB]) := hide (by rw [hwy]; exact strArg_row w9 [zzB] 9)
            have HBY : Hid (Below w8.heap.size w8 wy) := hide (by rw [hwy]; exact HB9.out.alloc HB9.out.size _)
            have HOY : Hid (wy.ownsRow w8.heap.size 9 1 (.slice p9 l3.length c9) l3.length (strV l3)) := hide (by rw [hwy]; exact HO9.out.alloc _)
            clear HO9 HB9
            go_wp2_with (at_builtin; rw [← hwy]; refine wpList_append_strs rfl (.tmp 61) (.tmp 62) rfl w8 wy _ _ l3 [zzB] rfl rfl HBY.out HOY.out HSM.out (by have := HL3.out; simp; omega) ?_)
            intro u10 w10 ho10 hb10
            replace ho10 : w10.ownsRow w8.heap.size 9 1 u10 (l3 ++ [zzB]).length (strV (l3 ++ [zzB])) := by first | exact ho10 | (rw [List.length_append]; exact ho10)
            obtain ⟨mm, hmm⟩ : ∃ mm, mm = (l3 ++ [zzB]).length := ⟨_, rfl⟩
            have HMM := hide hmm
            rw [← hmm] at ho10
            obtain ⟨p7, c7, rfl, -⟩ := own_shape ho10
            have H10 := hide (H8.out.keep hb10)
            have HO10 := hide ho10
            have hlt8 := H8.out.lt
            clear ho10 hb10 hwy HOY HSM HBY hmm H8
            have y3 := H10.out.cell 3 _ rfl
            have z3 : w10.frozen? ⟨wr.heap.size, 3, none⟩ = false := frozen_of_row _ _ _ _ _ H10.out.1
            go_upto_region 19 with fail
            obtain ⟨w11, hw11⟩ : ∃ w11, w11 = w10.setCell ⟨wr.heap.size, 3, none⟩ (.slice p7 mm c7) := ⟨_, rfl⟩
            have H11 : Hid (BoxP wr #[.int .i64 ((i : Int) + 1), .slice o1 (List.length l1) k1, .slice o2 (List.length l2) k2, .slice p7 mm c7, .slice o4 (List.length l4) k4, .slice o5 (List.length l5) k5, .int .i64 P.dp, .int .i64 P.nd, .int .i64 P.bt] w11) := hide (by rw [hw11]; exact H10.out.put 3 _)
            have HS3 : Hid (StrArg w11 (.slice p7 mm c7) (l3 ++ [zzB])) := hide (by
              rw [hw11]
              have h1 := ownsRow_setCell_below HO10.out (a := ⟨wr.heap.size, 3, none⟩) hlt8 (.slice p7 mm c7)
              rw [HMM.out] at h1 ⊢
              exact own_arg h1)
            have HP11 : Hid (PolV w11 (.slice o1 l1.length k1) (.slice o2 l2.length k2) (.slice p7 mm c7) (.slice o4 l4.length k4) (.slice o5 l5.length k5) { P with ep := (i : Int) + 1, sc := P.sc ++ [zz] } l1 l2 (l3 ++ [zzB]) l4 l5) := hide (by
              have hh := HXW.out w11 H11.out.2
              refine ⟨hh.s1, hh.s2, HS3.out, hh.s4, hh.s5, hh.e1, hh.e2, ?_, hh.e4, hh.e5, trivial⟩
              rw [List.map_append, hh.e3]
              rfl)
            have HO11 := hide (HU.out.2.1.below H11.out.2)
            have HB0 := hide HU.out.1.2
            have HM := hide HU.out.2.2
            rw [← hw11]
            clear hw11 y3 z3 H10 HO10 HS3 HXW hlt8 HU HL3 HMM HY HX
            have HYQ : Hid (∀ wx, BoxP wr #[.int .i64 ((i : Int) + 1), .slice o1 (List.length l1) k1, .slice o2 (List.length l2) k2, .slice p7 mm c7, .slice o4 (List.length l4) k4, .slice o5 (List.length l5) k5, .int .i64 P.dp, .int .i64 P.nd, .int .i64 P.bt] wx → wx.cell? ⟨wr.heap.size, 0, none⟩ = some (.int .i64 ((i : Int) + 1)) ∧ wx.cell? ⟨wr.heap.size, 1, none⟩ = some (.slice o1 l1.length k1) ∧ wx.cell? ⟨wr.heap.size, 2, none⟩ = some (.slice o2 l2.length k2) ∧ wx.cell? ⟨wr.heap.size, 3, none⟩ = some (.slice p7 mm c7) ∧ wx.cell? ⟨wr.heap.size, 4, none⟩ = some (.slice o4 l4.length k4) ∧ wx.cell? ⟨wr.heap.size, 5, none⟩ = some (.slice o5 l5.length k5) ∧ wx.cell? ⟨wr.heap.size, 6, none⟩ = some (.int .i64 P.dp) ∧ wx.cell? ⟨wr.heap.size, 7, none⟩ = some (.int .i64 P.nd) ∧ wx.cell? ⟨wr.heap.size, 8, none⟩ = some (.int .i64 P.bt)) := hide (fun wx h => ⟨h.cell 0 _ rfl, h.cell 1 _ rfl, h.cell 2 _ rfl, h.cell 3 _ rfl, h.cell 4 _ rfl, h.cell 5 _ rfl, h.cell 6 _ rfl, h.cell 7 _ rfl, h.cell 8 _ rfl⟩)
            have CRQ : Hid (Calls Try.prog 18 #[.agg #[.int .i64 ((i : Int) + 1), .slice o1 (List.length l1) k1, .slice o2 (List.length l2) k2, .slice p7 mm c7, .slice o4 (List.length l4) k4, .slice o5 (List.length l5) k5, .int .i64 P.dp, .int .i64 P.nd, .int .i64 P.bt]] w11 fun e w' => e = .returned (.bool (right { P with ep := (i : Int) + 1, sc := P.sc ++ [zz] })) ∧ Below w11.heap.size w11 w') := hide (HR.out _ _ _ _ _ { P with ep := (i : Int) + 1, sc := P.sc ++ [zz] } _ _ _ _ _ w11 HP11.out (fits_more HLI.out _))
            have CAQ : Hid (∀ wx, Below w11.heap.size w11 wx → Calls Try.prog 12 #[.slice q m c, .agg #[.int .i64 ((i : Int) + 1), .slice o1 (List.length l1) k1, .slice o2 (List.length l2) k2, .slice p7 mm c7, .slice o4 (List.length l4) k4, .slice o5 (List.length l5) k5, .int .i64 P.dp, .int .i64 P.nd, .int .i64 P.bt]] wx fun e w' => e = .returned (.tuple #[.slice none 0 0, .int .i64 (if right { P with ep := (i : Int) + 1, sc := P.sc ++ [zz] } = true then 6 else 2)]) ∧ Below wx.heap.size wx w') := hide (fun wx h => by
              refine (HA.out (.slice q m c) us ⟨{ P with ep := (i : Int) + 1, sc := P.sc ++ [zz] }, .slice o1 l1.length k1, .slice o2 l2.length k2, .slice p7 mm c7, .slice o4 l4.length k4, .slice o5 l5.length k5, l1, l2, l3 ++ [zzB], l4, l5⟩ wx (fun t ht => ?_) (fits_more HLI.out _) ?_ (HO11.out.below h).row (HP11.out.below h)).mono ?_
              · have h1 : t.p ∈ us.map It.p := List.mem_map_of_mem ht
                rw [HM.out] at h1
                unfold again at h1
                obtain ⟨j, -, e⟩ := List.mem_map.1 h1
                rw [← e]
                exact fits_ep (light_fits HLI.out) _
              · have := congrArg List.length HM.out
                rw [List.length_map, again_len] at this
                omega
              · rintro e w' ⟨⟨E, n, u, rfl, hc, -, h1⟩, hb⟩
                rw [HM.out] at hc
                have hE := more_chk HRT.out HK0.out (by omega) zz hc
                have hne : E ≠ 0 := by rw [hE]; split <;> decide
                rw [h1 hne, hE]
                exact ⟨rfl, hb⟩)
            generalize right { P with ep := (i : Int) + 1, sc := P.sc ++ [zz] } = r at CRQ CAQ
            clear HP11 HO11 HM HA HR HRT HLI
            obtain ⟨y0, y1, y2, y3, y4, y5, y6, y7, y8⟩ := HYQ.out w11 H11.out
            go_wp2_with fail
            refine CRQ.out.mono ?_
            rintro e w12 ⟨rfl, h12⟩
            have H12 := hide (H11.out.keep h12)
            have C2 := hide (CAQ.out _ h12)
            clear h12 CRQ CAQ H11 y0 y1 y2 y3 y4 y5 y6 y7 y8
            obtain ⟨y0, y1, y2, y3, y4, y5, y6, y7, y8⟩ := HYQ.out w12 H12.out
            go_wp2_with fail
            refine C2.out.mono ?_
            rintro e w13 ⟨rfl, h13⟩
            have H13 := hide (bel2 HB0.out (H12.out.keep h13).2)
            clear h13 C2 H12 y0 y1 y2 y3 y4 y5 y6 y7 y8
            cases r with
            | false =>
              go_wp2_with fail
              go_ret
              exact ⟨rfl, H13.out⟩
            | true =>
              go_wp2_with fail
              go_ret
              exact ⟨rfl, H13.out⟩
end Go.Proofs.Ytlabdbkmlkmnkaa
