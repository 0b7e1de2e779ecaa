/-
  Policies among values; the document's own Right.
-/
import Derived.Test.YtlabdbkmlkmnkaaQ4
import Derived.BigQuiet
import Derived.Test.YtlabdbkmlkmnkaaPG
namespace Go.Proofs.Ytlabdbkmlkmnkaa
open Go.RowKit
open Utf1 Pol8

set_option maxRecDepth 100000 in
set_option maxHeartbeats 32000000 in
theorem rright_any (v1 v2 v3 v4 v5 : Value) (p : Pol) (l1 l2 l3 l4 l5 : List ByteArray) (w : World) (hv : PolV w v1 v2 v3 v4 v5 p l1 l2 l3 l4 l5) (hf : fits p) :
    Calls Try.prog 39 #[.agg #[.int .i64 p.ep, v1, v2, v3, v4, v5, .int .i64 p.dp, .int .i64 p.nd, .int .i64 p.bt]] w fun e w' => e = .returned (.bool (right p)) ∧ Below w.heap.size w w' := by
  obtain ⟨f1, z1⟩ := fits_of hf (by simp) hv.e1
  obtain ⟨f2, z2⟩ := fits_of hf (by simp) hv.e2
  obtain ⟨f3, z3⟩ := fits_of hf (by simp) hv.e3
  obtain ⟨f4, z4⟩ := fits_of hf (by simp) hv.e4
  obtain ⟨f5, z5⟩ := fits_of hf (by simp) hv.e5
  obtain ⟨R, hR⟩ : ∃ R, R = right p := ⟨_, rfl⟩
  rw [← hR]
  have HAL : Hid (R = (caps p && ((words (l1.map bl) && (rises (l2.map bl) && (words (l3.map bl) && (words (l4.map bl) && words (l5.map bl))))) && ((l1.map bl).all (fun e => !never e) && ((l2.map bl).all (attrOk (l1.map bl)) && (decide (li ∈ l1.map bl → ul ∈ l1.map bl ∧ ol ∈ l1.map bl) && decide (js ∉ l3.map bl ∧ dat ∉ l3.map bl ∧ vbs ∉ l3.map bl))))))) := hide (by
    rw [hv.e1, hv.e2, hv.e3, hv.e4, hv.e5]
    exact hR)
  have HCAP : Hid (caps p = decide ((1 ≤ p.ep ∧ p.ep ≤ 1000000) ∧ (1 ≤ p.dp ∧ p.dp ≤ 64) ∧ (1 ≤ p.nd ∧ p.nd ≤ 2000) ∧ (1 ≤ p.bt ∧ p.bt ≤ 16384))) := hide rfl
  generalize caps p = cp at HAL HCAP
  obtain ⟨a0, a6, a7, a8, ha0, ha6, ha7, ha8⟩ : ∃ a0 a6 a7 a8, a0 = p.ep ∧ a6 = p.dp ∧ a7 = p.nd ∧ a8 = p.bt := ⟨_, _, _, _, rfl, rfl, rfl, rfl⟩
  rw [← ha0, ← ha6, ← ha7, ← ha8] at HCAP
  rw [← ha0, ← ha6, ← ha7, ← ha8]
  have HV : Hid (StrArg w v1 l1 ∧ StrArg w v2 l2 ∧ StrArg w v3 l3 ∧ StrArg w v4 l4 ∧ StrArg w v5 l5) := hide ⟨hv.s1, hv.s2, hv.s3, hv.s4, hv.s5⟩
  have HZ := hide (And.intro z1 (And.intro z2 (And.intro z3 (And.intro z4 z5))))
  obtain ⟨p1, q1, rfl, -, -⟩ := hv.s1
  obtain ⟨p2, q2, rfl, -, -⟩ := hv.s2
  obtain ⟨p3, q3, rfl, -, -⟩ := hv.s3
  obtain ⟨p4, q4, rfl, -, -⟩ := hv.s4
  obtain ⟨p5, q5, rfl, -, -⟩ := hv.s5
  clear hv hf hR z1 z2 z3 z4 z5 ha0 ha6 ha7 ha8
  obtain ⟨w1, hw1⟩ : ∃ w1, w1 = w.alloc (.cells #[.int .i64 a0, .slice p1 l1.length q1, .slice p2 l2.length q2, .slice p3 l3.length q3, .slice p4 l4.length q4, .slice p5 l5.length q5, .int .i64 a6, .int .i64 a7, .int .i64 a8] 30) := ⟨_, rfl⟩
  have hb1 : Below w.heap.size w w1 := by rw [hw1]; exact bel_alloc (Below.refl _ _) _
  have HB1 := hide hb1
  have hbx : w1.heap[w.heap.size]? = some (.cells #[.int .i64 a0, .slice p1 l1.length q1, .slice p2 l2.length q2, .slice p3 l3.length q3, .slice p4 l4.length q4, .slice p5 l5.length q5, .int .i64 a6, .int .i64 a7, .int .i64 a8] 30 (0, 0)) := by rw [hw1]; exact new_block _ _ _
  have HBX := hide hbx
  have y0 := tag_cell hbx 0 _ rfl
  have y6 := tag_cell hbx 6 _ rfl
  have y7 := tag_cell hbx 7 _ rfl
  have y8 := tag_cell hbx 8 _ rfl
  clear hbx hb1
  go_enter Try.func39, Try.ntmps39
  go_upto_region 1 with fail
  rw [← hw1]
  clear hw1
  go_cut [42] from 5 to 42 (fun v42 wx => wx = w1 ∧ v42 = .bool (!cp))
  case first =>
    by_cases c0 : a0 < 1
    · have HN : Hid (cp = false) := hide (by rw [HCAP.out]; exact decide_eq_false (by omega))
      clear HCAP
      go_wp2_with fail
      go_meet
      exact ⟨rfl, by rw [HN.out]; rfl⟩
    by_cases c1 : 1000000 < a0
    · have HN : Hid (cp = false) := hide (by rw [HCAP.out]; exact decide_eq_false (by omega))
      clear HCAP
      go_wp2_with fail
      go_meet
      exact ⟨rfl, by rw [HN.out]; rfl⟩
    by_cases c2 : a6 < 1
    · have HN : Hid (cp = false) := hide (by rw [HCAP.out]; exact decide_eq_false (by omega))
      clear HCAP
      go_wp2_with fail
      go_meet
      exact ⟨rfl, by rw [HN.out]; rfl⟩
    by_cases c3 : 64 < a6
    · have HN : Hid (cp = false) := hide (by rw [HCAP.out]; exact decide_eq_false (by omega))
      clear HCAP
      go_wp2_with fail
      go_meet
      exact ⟨rfl, by rw [HN.out]; rfl⟩
    by_cases c4 : a7 < 1
    · have HN : Hid (cp = false) := hide (by rw [HCAP.out]; exact decide_eq_false (by omega))
      clear HCAP
      go_wp2_with fail
      go_meet
      exact ⟨rfl, by rw [HN.out]; rfl⟩
    by_cases c5 : 2000 < a7
    · have HN : Hid (cp = false) := hide (by rw [HCAP.out]; exact decide_eq_false (by omega))
      clear HCAP
      go_wp2_with fail
      go_meet
      exact ⟨rfl, by rw [HN.out]; rfl⟩
    by_cases c6 : a8 < 1
    · have HN : Hid (cp = false) := hide (by rw [HCAP.out]; exact decide_eq_false (by omega))
      clear HCAP
      go_wp2_with fail
      go_meet
      exact ⟨rfl, by rw [HN.out]; rfl⟩
    by_cases c7 : 16384 < a8
    · have HN : Hid (cp = false) := hide (by rw [HCAP.out]; exact decide_eq_false (by omega))
      clear HCAP
      go_wp2_with fail
      go_meet
      exact ⟨rfl, by rw [HN.out]; rfl⟩
    have HN : Hid (cp = true) := hide (by rw [HCAP.out]; exact decide_eq_true (by omega))
    clear HCAP
    go_wp2_with fail
    go_meet
    exact ⟨rfl, by rw [HN.out]; rfl⟩
  case rest =>
  obtain ⟨rfl, rfl⟩ := hcut
  clear y0 y6 y7 y8 HCAP
  cases cp with
  | false =>
    have HR : Hid (R = false) := hide (by rw [HAL.out]; rfl)
    clear HAL
    go_wp2_with fail
    go_ret
    rw [HR.out]
    exact ⟨rfl, HB1.out⟩
  | true =>
    have HY : Hid (∀ wx, Below wc.heap.size wc wx → wx.heap[w.heap.size]? = some (.cells #[.int .i64 a0, .slice p1 l1.length q1, .slice p2 l2.length q2, .slice p3 l3.length q3, .slice p4 l4.length q4, .slice p5 l5.length q5, .int .i64 a6, .int .i64 a7, .int .i64 a8] 30 (0, 0))) := hide (fun wx h => (h.block _ (by have := (Array.getElem?_eq_some_iff.1 HBX.out).1; exact this)).trans HBX.out)
    have HS : Hid (∀ wx, Below wc.heap.size wc wx → StrArg wx (.slice p1 l1.length q1) l1 ∧ StrArg wx (.slice p2 l2.length q2) l2 ∧ StrArg wx (.slice p3 l3.length q3) l3 ∧ StrArg wx (.slice p4 l4.length q4) l4 ∧ StrArg wx (.slice p5 l5.length q5) l5) := hide (fun wx h => by
      have hb := bel2 HB1.out h
      exact ⟨HV.out.1.below hb, HV.out.2.1.below hb, HV.out.2.2.1.below hb, HV.out.2.2.2.1.below hb, HV.out.2.2.2.2.below hb⟩)
    have C1 := hide (fun wx h => rwords_any (.slice p1 l1.length q1) l1 (by omega) (fun x hx => by have := HZ.out.1 x hx; omega) wx (HS.out wx h).1)
    have C2 := hide (fun wx h => rrises_any (.slice p2 l2.length q2) l2 (by omega) wx (HS.out wx h).2.1)
    have C3 := hide (fun wx h => rwords_any (.slice p3 l3.length q3) l3 (by omega) (fun x hx => by have := HZ.out.2.2.1 x hx; omega) wx (HS.out wx h).2.2.1)
    have C4 := hide (fun wx h => rwords_any (.slice p4 l4.length q4) l4 (by omega) (fun x hx => by have := HZ.out.2.2.2.1 x hx; omega) wx (HS.out wx h).2.2.2.1)
    have C5 := hide (fun wx h => rwords_any (.slice p5 l5.length q5) l5 (by omega) (fun x hx => by have := HZ.out.2.2.2.2 x hx; omega) wx (HS.out wx h).2.2.2.2)
    rw [Bool.true_and] at HAL
    generalize words (l1.map bl) = t1 at HAL C1
    generalize rises (l2.map bl) = t2 at HAL C2
    generalize words (l3.map bl) = t3 at HAL C3
    generalize words (l4.map bl) = t4 at HAL C4
    generalize words (l5.map bl) = t5 at HAL C5
    go_upto_region 3 with fail
    go_cut [70] from 43 to 70 (fun v70 wx => v70 = .bool (!(t1 && (t2 && (t3 && (t4 && t5))))) ∧ Hid (Below wc.heap.size wc wx))
    case first =>
      cases t1 with
      | false =>
        have z1 := tag_cell (HY.out wc (Below.refl _ _)) 1 _ rfl
        go_wp2_with fail
        refine (C1.out _ (Below.refl _ _)).mono ?_
        rintro e x1 ⟨rfl, hb1⟩
        have HX1 := hide (hb1)
        clear hb1 z1
        go_wp2_with fail
        go_meet
        exact ⟨by simp, HX1⟩
      | true =>
        cases t2 with
        | false =>
          have z1 := tag_cell (HY.out wc (Below.refl _ _)) 1 _ rfl
          go_wp2_with fail
          refine (C1.out _ (Below.refl _ _)).mono ?_
          rintro e x1 ⟨rfl, hb1⟩
          have HX1 := hide (hb1)
          have z2 := tag_cell (HY.out x1 HX1.out) 2 _ rfl
          clear hb1 z1
          go_wp2_with fail
          refine (C2.out _ (HX1.out)).mono ?_
          rintro e x2 ⟨rfl, hb2⟩
          have HX2 := hide (bel2 HX1.out hb2)
          clear hb2 z2
          go_wp2_with fail
          go_meet
          exact ⟨by simp, HX2⟩
        | true =>
          cases t3 with
          | false =>
            have z1 := tag_cell (HY.out wc (Below.refl _ _)) 1 _ rfl
            go_wp2_with fail
            refine (C1.out _ (Below.refl _ _)).mono ?_
            rintro e x1 ⟨rfl, hb1⟩
            have HX1 := hide (hb1)
            have z2 := tag_cell (HY.out x1 HX1.out) 2 _ rfl
            clear hb1 z1
            go_wp2_with fail
            refine (C2.out _ (HX1.out)).mono ?_
            rintro e x2 ⟨rfl, hb2⟩
            have HX2 := hide (bel2 HX1.out hb2)
            have z3 := tag_cell (HY.out x2 HX2.out) 3 _ rfl
            clear hb2 z2
            go_wp2_with fail
            refine (C3.out _ (HX2.out)).mono ?_
            rintro e x3 ⟨rfl, hb3⟩
            have HX3 := hide (bel2 HX2.out hb3)
            clear hb3 z3
            go_wp2_with fail
            go_meet
            exact ⟨by simp, HX3⟩
          | true =>
            cases t4 with
            | false =>
              have z1 := tag_cell (HY.out wc (Below.refl _ _)) 1 _ rfl
              go_wp2_with fail
              refine (C1.out _ (Below.refl _ _)).mono ?_
              rintro e x1 ⟨rfl, hb1⟩
              have HX1 := hide (hb1)
              have z2 := tag_cell (HY.out x1 HX1.out) 2 _ rfl
              clear hb1 z1
              go_wp2_with fail
              refine (C2.out _ (HX1.out)).mono ?_
              rintro e x2 ⟨rfl, hb2⟩
              have HX2 := hide (bel2 HX1.out hb2)
              have z3 := tag_cell (HY.out x2 HX2.out) 3 _ rfl
              clear hb2 z2
              go_wp2_with fail
              refine (C3.out _ (HX2.out)).mono ?_
              rintro e x3 ⟨rfl, hb3⟩
              have HX3 := hide (bel2 HX2.out hb3)
              have z4 := tag_cell (HY.out x3 HX3.out) 4 _ rfl
              clear hb3 z3
              go_wp2_with fail
              refine (C4.out _ (HX3.out)).mono ?_
              rintro e x4 ⟨rfl, hb4⟩
              have HX4 := hide (bel2 HX3.out hb4)
              clear hb4 z4
              go_wp2_with fail
              go_meet
              exact ⟨by simp, HX4⟩
            | true =>
              cases t5 with
              | false =>
                have z1 := tag_cell (HY.out wc (Below.refl _ _)) 1 _ rfl
                go_wp2_with fail
                refine (C1.out _ (Below.refl _ _)).mono ?_
                rintro e x1 ⟨rfl, hb1⟩
                have HX1 := hide (hb1)
                have z2 := tag_cell (HY.out x1 HX1.out) 2 _ rfl
                clear hb1 z1
                go_wp2_with fail
                refine (C2.out _ (HX1.out)).mono ?_
                rintro e x2 ⟨rfl, hb2⟩
                have HX2 := hide (bel2 HX1.out hb2)
                have z3 := tag_cell (HY.out x2 HX2.out) 3 _ rfl
                clear hb2 z2
                go_wp2_with fail
                refine (C3.out _ (HX2.out)).mono ?_
                rintro e x3 ⟨rfl, hb3⟩
                have HX3 := hide (bel2 HX2.out hb3)
                have z4 := tag_cell (HY.out x3 HX3.out) 4 _ rfl
                clear hb3 z3
                go_wp2_with fail
                refine (C4.out _ (HX3.out)).mono ?_
                rintro e x4 ⟨rfl, hb4⟩
                have HX4 := hide (bel2 HX3.out hb4)
                have z5 := tag_cell (HY.out x4 HX4.out) 5 _ rfl
                clear hb4 z4
                go_wp2_with fail
                refine (C5.out _ (HX4.out)).mono ?_
                rintro e x5 ⟨rfl, hb5⟩
                have HX5 := hide (bel2 HX4.out hb5)
                clear hb5 z5
                go_wp2_with fail
                go_meet
                exact ⟨by simp, HX5⟩
              | true =>
                have z1 := tag_cell (HY.out wc (Below.refl _ _)) 1 _ rfl
                go_wp2_with fail
                refine (C1.out _ (Below.refl _ _)).mono ?_
                rintro e x1 ⟨rfl, hb1⟩
                have HX1 := hide (hb1)
                have z2 := tag_cell (HY.out x1 HX1.out) 2 _ rfl
                clear hb1 z1
                go_wp2_with fail
                refine (C2.out _ (HX1.out)).mono ?_
                rintro e x2 ⟨rfl, hb2⟩
                have HX2 := hide (bel2 HX1.out hb2)
                have z3 := tag_cell (HY.out x2 HX2.out) 3 _ rfl
                clear hb2 z2
                go_wp2_with fail
                refine (C3.out _ (HX2.out)).mono ?_
                rintro e x3 ⟨rfl, hb3⟩
                have HX3 := hide (bel2 HX2.out hb3)
                have z4 := tag_cell (HY.out x3 HX3.out) 4 _ rfl
                clear hb3 z3
                go_wp2_with fail
                refine (C4.out _ (HX3.out)).mono ?_
                rintro e x4 ⟨rfl, hb4⟩
                have HX4 := hide (bel2 HX3.out hb4)
                have z5 := tag_cell (HY.out x4 HX4.out) 5 _ rfl
                clear hb4 z4
                go_wp2_with fail
                refine (C5.out _ (HX4.out)).mono ?_
                rintro e x5 ⟨rfl, hb5⟩
                have HX5 := hide (bel2 HX4.out hb5)
                clear hb5 z5
                go_wp2_with fail
                go_meet
                exact ⟨by simp, HX5⟩
    case rest =>
    obtain ⟨rfl, HBC⟩ := hcut
    clear C1 C2 C3 C4 C5
    generalize (t1 && (t2 && (t3 && (t4 && t5)))) = tt at HAL
    obtain ⟨A, hA⟩ : ∃ A : Array Value, A = #[.int .i64 a0, .slice p1 l1.length q1, .slice p2 l2.length q2, .slice p3 l3.length q3, .slice p4 l4.length q4, .slice p5 l5.length q5, .int .i64 a6, .int .i64 a7, .int .i64 a8] := ⟨_, rfl⟩
    have HBP : Hid (BoxP w A wc) := hide (by rw [hA]; exact ⟨HY.out wc HBC.out, bel2 HB1.out HBC.out⟩)
    have HA1 : Hid (A[1]? = some (.slice p1 l1.length q1)) := hide (by rw [hA]; rfl)
    have HA2 : Hid (A[2]? = some (.slice p2 l2.length q2)) := hide (by rw [hA]; rfl)
    have HA3 : Hid (A[3]? = some (.slice p3 l3.length q3)) := hide (by rw [hA]; rfl)
    clear hA HY HS HBC HB1 HBX
    cases tt with
    | false =>
      have HR : Hid (R = false) := hide (by rw [HAL.out]; rfl)
      clear HAL
      go_wp2_with fail
      go_ret
      rw [HR.out]
      exact ⟨rfl, HBP.out.2⟩
    | true =>
      rw [Bool.true_and] at HAL
      go_wp2_with fail
      go_loopg [3] l1.length (fun g v wx => ∃ i : Nat, i + g = l1.length ∧ v = .int .i64 (i : Int) ∧ Hid (BoxP w A wx ∧ ∀ j z, j < i → l1[j]? = some z → (!never (bl z)) = true))
      case atStart => exact ⟨0, by omega, rfl, hide ⟨HBP.out, fun j z hj => by omega⟩⟩
      case round =>
        obtain ⟨i, hi, rfl, HU⟩ := hrel
        clear HBP
        by_cases hlt : i < l1.length
        · obtain ⟨y, hge⟩ : ∃ y, l1[i]? = some y := ⟨_, List.getElem?_eq_getElem hlt⟩
          have zb := HU.out.1.cell 1 _ HA1.out
          obtain ⟨b, off, rfl, c0⟩ : ∃ b off, p1 = some ⟨b, off, none⟩ ∧ wr.cell? ⟨b, off + i, none⟩ = some (.string y) := by
            obtain ⟨p', cap', e, -, hc⟩ := HV.out.1.below HU.out.1.2
            injection e with e1 e2 e3
            obtain ⟨b, off, e4, h⟩ := hc i y hge
            exact ⟨b, off, e1.trans e4, h⟩
          have CN := hide (rnever_any y wr)
          have HG := hide hge
          clear hge
          cases hn : never (bl y) with
          | true =>
            rw [hn] at CN
            have HR : Hid (R = false) := hide (by
              rw [HAL.out, all_false (f := fun e => !never e) HG.out (by simp only [hn]; rfl)]
              rfl)
            clear HAL hn HG
            go_wp2_with fail
            refine CN.out.mono ?_
            rintro e w2 ⟨rfl, hb2⟩
            have HB2 := hide (HU.out.1.keep hb2)
            clear hb2
            go_wp2_with fail
            go_ret
            rw [HR.out]
            exact ⟨rfl, HB2.out.2⟩
          | false =>
            rw [hn] at CN
            have HU2 := hide (upto_next (f := fun e => !never e) HG.out (by simp only [hn]; rfl) HU.out.2)
            clear hn HG
            go_wp2_with fail
            refine CN.out.mono ?_
            rintro e w2 ⟨rfl, hb2⟩
            have HB2 := hide (HU.out.1.keep hb2)
            clear hb2 HU
            go_wp2_with fail
            go_roundg (l1.length - i - 1)
            case measure => omega
            case rel => exact ⟨i + 1, by omega, by first | rfl | simp, hide ⟨HB2.out, HU2.out⟩⟩
        · have HNV : Hid ((l1.map bl).all (fun e => !never e) = true) := hide (all_true (f := fun e => !never e) fun j z hj => HU.out.2 j z (by omega))
          rw [HNV.out, Bool.true_and] at HAL
          have HBP := hide HU.out.1
          have zb := HBP.out.cell 1 _ HA1.out
          clear HU HNV
          go_wp2_with fail
          clear zb
          go_loopg [4] l2.length (fun g v wx => ∃ k : Nat, k + g = l2.length ∧ v = .int .i64 (k : Int) ∧ Hid (BoxP w A wx ∧ ∀ j z, j < k → l2[j]? = some z → attrOk (l1.map bl) (bl z) = true))
          case atStart => exact ⟨0, by omega, rfl, hide ⟨HBP.out, fun j z hj => by omega⟩⟩
          case round =>
            obtain ⟨k, hk, rfl, HU⟩ := hrel
            clear HBP
            by_cases hlt2 : k < l2.length
            · obtain ⟨y, hge⟩ : ∃ y, l2[k]? = some y := ⟨_, List.getElem?_eq_getElem hlt2⟩
              have zb1 := HU.out.1.cell 1 _ HA1.out
              have zb2 := HU.out.1.cell 2 _ HA2.out
              obtain ⟨b, off, rfl, c0⟩ : ∃ b off, p2 = some ⟨b, off, none⟩ ∧ wr.cell? ⟨b, off + k, none⟩ = some (.string y) := by
                obtain ⟨p', cap', e, -, hc⟩ := HV.out.2.1.below HU.out.1.2
                injection e with e1 e2 e3
                obtain ⟨b, off, e4, h⟩ := hc k y hge
                exact ⟨b, off, e1.trans e4, h⟩
              have hyz : y.size ≤ 1000000 := by have := HZ.out.2.1 y (List.mem_of_getElem? hge); omega
              have CA := hide (fun n => rattr_any y (.slice p1 l1.length q1) l1 hyz (by omega) (wr.drewN n) ((HV.out.1.below HU.out.1.2).below ⟨rfl, rfl, rfl, Nat.le_refl _, fun _ _ => rfl⟩))
              have HG := hide hge
              clear hge hyz
              cases hn : attrOk (l1.map bl) (bl y) with
              | false =>
                rw [hn] at CA
                have HR : Hid (R = false) := hide (by
                  rw [HAL.out, all_false HG.out hn]
                  rfl)
                clear HAL hn HG
                go_wp2_with fail
                go_quiet ((go_at_call 52; exact Calls.quiet_of_same (CA.out _)))
                go_wp2_with fail
                go_ret
                rw [HR.out]
                exact ⟨rfl, (HU.out.1.keep (bel_drewN _ _)).2⟩
              | true =>
                rw [hn] at CA
                have HU2 := hide (upto_next HG.out hn HU.out.2)
                clear hn HG
                go_wp2_with fail
                go_quiet ((go_at_call 52; exact Calls.quiet_of_same (CA.out _)))
                go_wp2_with fail
                go_roundg (l2.length - k - 1)
                case measure => omega
                case rel => exact ⟨k + 1, by omega, by first | rfl | simp, hide ⟨HU.out.1.keep ⟨rfl, rfl, rfl, Nat.le_refl _, fun _ _ => rfl⟩, HU2.out⟩⟩
            · have HAO : Hid ((l2.map bl).all (attrOk (l1.map bl)) = true) := hide (all_true fun j z hj => HU.out.2 j z (by omega))
              rw [HAO.out, Bool.true_and] at HAL
              have HBP := hide HU.out.1
              have zb1 := HBP.out.cell 1 _ HA1.out
              have zb2 := HBP.out.cell 2 _ HA2.out
              have zb3 := HBP.out.cell 3 _ HA3.out
              have HS1 := hide (HV.out.1.below HBP.out.2)
              have HS3 := hide (HV.out.2.2.1.below HBP.out.2)
              have CL := hide (rhas_any (.slice p1 l1.length q1) l1 ⟨#[108, 105]⟩ (by omega) wr HS1.out)
              have CU := hide (rhas_any (.slice p1 l1.length q1) l1 ⟨#[117, 108]⟩ (by omega) wr HS1.out)
              have CO := hide (rhas_any (.slice p1 l1.length q1) l1 ⟨#[111, 108]⟩ (by omega) wr HS1.out)
              have CJ := hide (rhas_any (.slice p3 l3.length q3) l3 ⟨#[106, 97, 118, 97, 115, 99, 114, 105, 112, 116]⟩ (by omega) wr HS3.out)
              have CD := hide (rhas_any (.slice p3 l3.length q3) l3 ⟨#[100, 97, 116, 97]⟩ (by omega) wr HS3.out)
              have CV := hide (rhas_any (.slice p3 l3.length q3) l3 ⟨#[118, 98, 115, 99, 114, 105, 112, 116]⟩ (by omega) wr HS3.out)
              have HLL : Hid (decide (li ∈ l1.map bl → ul ∈ l1.map bl ∧ ol ∈ l1.map bl) = (!decide (bl ⟨#[108, 105]⟩ ∈ l1.map bl) || (decide (bl ⟨#[117, 108]⟩ ∈ l1.map bl) && decide (bl ⟨#[111, 108]⟩ ∈ l1.map bl)))) := hide (by
                show decide (li ∈ l1.map bl → ul ∈ l1.map bl ∧ ol ∈ l1.map bl) = (!decide (li ∈ l1.map bl) || (decide (ul ∈ l1.map bl) && decide (ol ∈ l1.map bl)))
                by_cases h1 : li ∈ l1.map bl <;> by_cases h2 : ul ∈ l1.map bl <;> by_cases h3 : ol ∈ l1.map bl <;> simp only [h1, h2, h3] <;> decide)
              have HSS : Hid (decide (js ∉ l3.map bl ∧ dat ∉ l3.map bl ∧ vbs ∉ l3.map bl) = (!decide (bl ⟨#[106, 97, 118, 97, 115, 99, 114, 105, 112, 116]⟩ ∈ l3.map bl) && (!decide (bl ⟨#[100, 97, 116, 97]⟩ ∈ l3.map bl) && !decide (bl ⟨#[118, 98, 115, 99, 114, 105, 112, 116]⟩ ∈ l3.map bl)))) := hide (by
                show decide (js ∉ l3.map bl ∧ dat ∉ l3.map bl ∧ vbs ∉ l3.map bl) = (!decide (js ∈ l3.map bl) && (!decide (dat ∈ l3.map bl) && !decide (vbs ∈ l3.map bl)))
                by_cases h1 : js ∈ l3.map bl <;> by_cases h2 : dat ∈ l3.map bl <;> by_cases h3 : vbs ∈ l3.map bl <;> simp only [h1, h2, h3] <;> decide)
              rw [HLL.out, HSS.out] at HAL
              clear HU HAO HLL HSS
              generalize decide (bl ⟨#[108, 105]⟩ ∈ l1.map bl) = d1 at HAL CL
              generalize decide (bl ⟨#[117, 108]⟩ ∈ l1.map bl) = d2 at HAL CU
              generalize decide (bl ⟨#[111, 108]⟩ ∈ l1.map bl) = d3 at HAL CO
              generalize decide (bl ⟨#[106, 97, 118, 97, 115, 99, 114, 105, 112, 116]⟩ ∈ l3.map bl) = d4 at HAL CJ
              generalize decide (bl ⟨#[100, 97, 116, 97]⟩ ∈ l3.map bl) = d5 at HAL CD
              generalize decide (bl ⟨#[118, 98, 115, 99, 114, 105, 112, 116]⟩ ∈ l3.map bl) = d6 at HAL CV
              go_upto_region 15 with fail
              go_cut [114] from 100 to 114 (fun v114 wx => wx = wr ∧ v114 = .bool (d1 && (!d2 || !d3)))
              case first =>
                cases d1 with
                | false =>
                  go_wp2_with fail
                  refine CL.out.mono ?_
                  rintro e w2 ⟨rfl, rfl⟩
                  go_wp2_with fail
                  go_meet
                  exact ⟨rfl, rfl⟩
                | true =>
                  cases d2 with
                  | false =>
                    go_wp2_with fail
                    refine CL.out.mono ?_
                    rintro e w2 ⟨rfl, rfl⟩
                    go_wp2_with fail
                    refine CU.out.mono ?_
                    rintro e w2 ⟨rfl, rfl⟩
                    go_wp2_with fail
                    go_meet
                    exact ⟨rfl, rfl⟩
                  | true =>
                    cases d3 with
                    | false =>
                      go_wp2_with fail
                      refine CL.out.mono ?_
                      rintro e w2 ⟨rfl, rfl⟩
                      go_wp2_with fail
                      refine CU.out.mono ?_
                      rintro e w2 ⟨rfl, rfl⟩
                      go_wp2_with fail
                      refine CO.out.mono ?_
                      rintro e w2 ⟨rfl, rfl⟩
                      go_wp2_with fail
                      go_meet
                      exact ⟨rfl, rfl⟩
                    | true =>
                      go_wp2_with fail
                      refine CL.out.mono ?_
                      rintro e w2 ⟨rfl, rfl⟩
                      go_wp2_with fail
                      refine CU.out.mono ?_
                      rintro e w2 ⟨rfl, rfl⟩
                      go_wp2_with fail
                      refine CO.out.mono ?_
                      rintro e w2 ⟨rfl, rfl⟩
                      go_wp2_with fail
                      go_meet
                      exact ⟨rfl, rfl⟩
              case rest =>
              obtain ⟨hwc, rfl⟩ := hcut
              subst hwc
              have HD : Hid ((!d1 || (d2 && d3)) = !(d1 && (!d2 || !d3))) := hide (by cases d1 <;> cases d2 <;> cases d3 <;> rfl)
              rw [HD.out] at HAL
              generalize (d1 && (!d2 || !d3)) = dd at HAL
              clear HD CL CU CO
              cases dd with
              | true =>
                have HR : Hid (R = false) := hide (by rw [HAL.out]; rfl)
                clear HAL
                go_wp2_with fail
                go_ret
                rw [HR.out]
                exact ⟨rfl, HBP.out.2⟩
              | false =>
                cases d4 with
                | true =>
                  have HR : Hid (R = false) := hide (by rw [HAL.out]; rfl)
                  clear HAL
                  go_wp2_with fail
                  refine CJ.out.mono ?_
                  rintro e w2 ⟨rfl, rfl⟩
                  go_wp2_with fail
                  go_ret
                  rw [HR.out]
                  exact ⟨rfl, HBP.out.2⟩
                | false =>
                  cases d5 with
                  | true =>
                    have HR : Hid (R = false) := hide (by rw [HAL.out]; rfl)
                    clear HAL
                    go_wp2_with fail
                    refine CJ.out.mono ?_
                    rintro e w2 ⟨rfl, rfl⟩
                    go_wp2_with fail
                    refine CD.out.mono ?_
                    rintro e w2 ⟨rfl, rfl⟩
                    go_wp2_with fail
                    go_ret
                    rw [HR.out]
                    exact ⟨rfl, HBP.out.2⟩
                  | false =>
                    cases d6 with
                    | true =>
                      have HR : Hid (R = false) := hide (by rw [HAL.out]; rfl)
                      clear HAL
                      go_wp2_with fail
                      refine CJ.out.mono ?_
                      rintro e w2 ⟨rfl, rfl⟩
                      go_wp2_with fail
                      refine CD.out.mono ?_
                      rintro e w2 ⟨rfl, rfl⟩
                      go_wp2_with fail
                      refine CV.out.mono ?_
                      rintro e w2 ⟨rfl, rfl⟩
                      go_wp2_with fail
                      go_ret
                      rw [HR.out]
                      exact ⟨rfl, HBP.out.2⟩
                    | false =>
                      have HR : Hid (R = true) := hide (by rw [HAL.out]; rfl)
                      clear HAL
                      go_wp2_with fail
                      refine CJ.out.mono ?_
                      rintro e w2 ⟨rfl, rfl⟩
                      go_wp2_with fail
                      refine CD.out.mono ?_
                      rintro e w2 ⟨rfl, rfl⟩
                      go_wp2_with fail
                      refine CV.out.mono ?_
                      rintro e w2 ⟨rfl, rfl⟩
                      go_wp2_with fail
                      go_ret
                      rw [HR.out]
                      exact ⟨rfl, HBP.out.2⟩
end Go.Proofs.Ytlabdbkmlkmnkaa
