/-
  The program's isNode, isZero and rightIDs, walked.
-/
import Derived.Test.YtebcpmgooodmpabGreatDoorMD7
import Derived.Test.YtebcpmgooodmpabGreatDoorPC
namespace Go.Proofs.YtebcpmgooodmpabGreatDoor
open Go.RowKit
open Utf1
open Pol8 hiding text right Right
open Msg15

theorem eisNode_any (n : Int) (w : World) :
    Calls Tryz.prog 13 #[.int .i64 n] w fun e w' => e = .returned (.bool (decide (0 ≤ n ∧ n ≤ 5))) ∧ w' = w := by
  obtain ⟨R, hR⟩ : ∃ R, R = decide (0 ≤ n ∧ n ≤ 5) := ⟨_, rfl⟩
  rw [← hR]
  have HAL := hide hR
  clear hR
  by_cases h0 : 0 ≤ n
  · have d0 : decide (0 ≤ n) = true := decide_eq_true h0
    by_cases h5 : n ≤ 5
    · have d5 : decide (n ≤ 5) = true := decide_eq_true h5
      have HR : Hid (R = true) := hide (by rw [HAL.out]; exact decide_eq_true ⟨h0, h5⟩)
      go_enter Tryz.func13, Tryz.ntmps13
      go_wp2_with fail
      go_ret
      rw [HR.out]
      exact ⟨rfl, rfl⟩
    · have d5 : decide (n ≤ 5) = false := decide_eq_false h5
      have HR : Hid (R = false) := hide (by rw [HAL.out]; exact decide_eq_false (fun h => h5 h.2))
      go_enter Tryz.func13, Tryz.ntmps13
      go_wp2_with fail
      go_ret
      rw [HR.out]
      exact ⟨rfl, rfl⟩
  · have d0 : decide (0 ≤ n) = false := decide_eq_false h0
    have HR : Hid (R = false) := hide (by rw [HAL.out]; exact decide_eq_false (fun h => h0 h.1))
    go_enter Tryz.func13, Tryz.ntmps13
    go_wp2_with fail
    go_ret
    rw [HR.out]
    exact ⟨rfl, rfl⟩

theorem map_nil_len {l : List ByteArray} {m : List L} (e : m = l.map bl) : m = [] ↔ l.length = 0 := by
  subst e
  cases l <;> simp

set_option maxRecDepth 100000 in
set_option maxHeartbeats 8000000 in
theorem eisZero_any (v1 v2 v3 v4 v5 : Value) (p : Pol) (l1 l2 l3 l4 l5 : List ByteArray) (w : World) (hv : PolV w v1 v2 v3 v4 v5 p l1 l2 l3 l4 l5) (hf : fits p) :
    Calls Tryz.prog 14 #[pval p v1 v2 v3 v4 v5] w fun e w' => (∃ b : Bool, e = .returned (.bool b) ∧ (b = true ↔ p = Pol.zero)) ∧ Below w.heap.size w w' := by
  obtain ⟨f1, -⟩ := fits_of hf (by simp) hv.e1
  obtain ⟨f2, -⟩ := fits_of hf (by simp) hv.e2
  obtain ⟨f3, -⟩ := fits_of hf (by simp) hv.e3
  obtain ⟨f4, -⟩ := fits_of hf (by simp) hv.e4
  obtain ⟨f5, -⟩ := fits_of hf (by simp) hv.e5
  have HZ : Hid (p = Pol.zero ↔ ((l1.length = 0 ∧ l2.length = 0 ∧ l3.length = 0 ∧ l4.length = 0 ∧ l5.length = 0) ∧ p.ep = 0 ∧ p.dp = 0 ∧ p.nd = 0 ∧ p.bt = 0)) := hide (by
    rw [← map_nil_len hv.e1.symm, ← map_nil_len hv.e2.symm, ← map_nil_len hv.e3.symm, ← map_nil_len hv.e4.symm, ← map_nil_len hv.e5.symm]
    obtain ⟨a, b, c, d, e, f, g, h, i⟩ := p
    simp only [Pol.zero, Pol.mk.injEq]
    constructor
    · rintro ⟨h1, h2, h3, h4, h5, h6, h7, h8, h9⟩
      exact ⟨⟨h2, h3, h4, h5, h6⟩, h1, h7, h8, h9⟩
    · rintro ⟨⟨h2, h3, h4, h5, h6⟩, h1, h7, h8, h9⟩
      exact ⟨h1, h2, h3, h4, h5, h6, h7, h8, h9⟩)
  obtain ⟨q1, c1, rfl, -, -⟩ := id hv.s1
  obtain ⟨q2, c2, rfl, -, -⟩ := id hv.s2
  obtain ⟨q3, c3, rfl, -, -⟩ := id hv.s3
  obtain ⟨q4, c4, rfl, -, -⟩ := id hv.s4
  obtain ⟨q5, c5, rfl, -, -⟩ := id hv.s5
  clear hv hf
  show Calls Tryz.prog 14 #[.agg #[.int .i64 p.ep, .slice q1 l1.length c1, .slice q2 l2.length c2, .slice q3 l3.length c3, .slice q4 l4.length c4, .slice q5 l5.length c5, .int .i64 p.dp, .int .i64 p.nd, .int .i64 p.bt]] w _
  generalize l1.length = n1 at *
  generalize l2.length = n2 at *
  generalize l3.length = n3 at *
  generalize l4.length = n4 at *
  generalize l5.length = n5 at *
  obtain ⟨T, hT⟩ : ∃ T : Prop, T = (p = Pol.zero) := ⟨_, rfl⟩
  rw [← hT] at HZ ⊢
  clear hT
  generalize p.ep = x0 at *
  generalize p.dp = x6 at *
  generalize p.nd = x7 at *
  generalize p.bt = x8 at *
  obtain ⟨w1, hw1⟩ : ∃ w1, w1 = w.alloc (.cells #[.int .i64 x0, .slice q1 n1 c1, .slice q2 n2 c2, .slice q3 n3 c3, .slice q4 n4 c4, .slice q5 n5 c5, .int .i64 x6, .int .i64 x7, .int .i64 x8] 31) := ⟨_, rfl⟩
  have HN : Hid (BoxP w #[.int .i64 x0, .slice q1 n1 c1, .slice q2 n2 c2, .slice q3 n3 c3, .slice q4 n4 c4, .slice q5 n5 c5, .int .i64 x6, .int .i64 x7, .int .i64 x8] w1) := hide (by rw [hw1]; exact ⟨new_block _ _ _, bel_alloc (Below.refl _ _) _⟩)
  have y0 := HN.out.cell 0 _ rfl
  have y1 := HN.out.cell 1 _ rfl
  have y2 := HN.out.cell 2 _ rfl
  have y3 := HN.out.cell 3 _ rfl
  have y4 := HN.out.cell 4 _ rfl
  have y5 := HN.out.cell 5 _ rfl
  have y6 := HN.out.cell 6 _ rfl
  have y7 := HN.out.cell 7 _ rfl
  have y8 := HN.out.cell 8 _ rfl
  go_enter Tryz.func14, Tryz.ntmps14
  go_upto_region 1 with fail
  rw [← hw1]
  clear hw1
  by_cases hs : n1 + n2 + n3 + n4 + n5 = 0
  · have ds : ((n1 : Int) + (n2 : Int) + (n3 : Int) + (n4 : Int) + (n5 : Int) == 0) = true := by simp; omega
    by_cases h0 : x0 = 0
    · have d0 : (x0 == 0) = true := by simp [h0]
      by_cases h6 : x6 = 0
      · have d6 : (x6 == 0) = true := by simp [h6]
        by_cases h7 : x7 = 0
        · have d7 : (x7 == 0) = true := by simp [h7]
          by_cases h8 : x8 = 0
          · have d8 : (x8 == 0) = true := by simp [h8]
            have HT : Hid T := hide (HZ.out.2 ⟨⟨by omega, by omega, by omega, by omega, by omega⟩, h0, h6, h7, h8⟩)
            clear h0 h6 h7 h8 hs
            go_wp2_with fail
            go_ret
            exact ⟨⟨_, rfl, ⟨fun _ => HT.out, fun _ => rfl⟩⟩, HN.out.2⟩
          · have d8 : (x8 == 0) = false := by simp [h8]
            have HT : Hid (¬ T) := hide (fun h => h8 (HZ.out.1 h).2.2.2.2)
            clear h0 h6 h7 h8 hs
            go_wp2_with fail
            go_ret
            exact ⟨⟨_, rfl, ⟨fun h => (by cases h), fun h => absurd h HT.out⟩⟩, HN.out.2⟩
        · have d7 : (x7 == 0) = false := by simp [h7]
          have HT : Hid (¬ T) := hide (fun h => h7 (HZ.out.1 h).2.2.2.1)
          clear h0 h6 h7 hs
          go_wp2_with fail
          go_ret
          exact ⟨⟨_, rfl, ⟨fun h => (by cases h), fun h => absurd h HT.out⟩⟩, HN.out.2⟩
      · have d6 : (x6 == 0) = false := by simp [h6]
        have HT : Hid (¬ T) := hide (fun h => h6 (HZ.out.1 h).2.2.1)
        clear h0 h6 hs
        go_wp2_with fail
        go_ret
        exact ⟨⟨_, rfl, ⟨fun h => (by cases h), fun h => absurd h HT.out⟩⟩, HN.out.2⟩
    · have d0 : (x0 == 0) = false := by simp [h0]
      have HT : Hid (¬ T) := hide (fun h => h0 (HZ.out.1 h).2.1)
      clear h0 hs
      go_wp2_with fail
      go_ret
      exact ⟨⟨_, rfl, ⟨fun h => (by cases h), fun h => absurd h HT.out⟩⟩, HN.out.2⟩
  · have ds : ((n1 : Int) + (n2 : Int) + (n3 : Int) + (n4 : Int) + (n5 : Int) == 0) = false := by simp; omega
    have HT : Hid (¬ T) := hide (fun h => by
      obtain ⟨⟨a1, a2, a3, a4, a5⟩, _⟩ := HZ.out.1 h
      omega)
    clear hs
    go_wp2_with fail
    go_ret
    exact ⟨⟨_, rfl, ⟨fun h => (by cases h), fun h => absurd h HT.out⟩⟩, HN.out.2⟩

set_option maxRecDepth 100000 in
set_option maxHeartbeats 8000000 in
theorem erightIDs_any (v : Value) (ss : List ByteArray) (hl : ss.length ≤ 100000) (w : World) (hv : StrArg w v ss) :
    Calls Tryz.prog 15 #[v] w fun e w' => e = .returned (.bool (riseI (ss.map bl))) ∧ Below w.heap.size w w' := by
  obtain ⟨R, hR⟩ : ∃ R, R = riseI (ss.map bl) := ⟨_, rfl⟩
  rw [← hR]
  have HAL := hide hR
  clear hR
  have HV := hide hv
  obtain ⟨p, cap, rfl, -, hc⟩ := hv
  obtain ⟨N, hN⟩ : ∃ N, N = ss.length := ⟨_, rfl⟩
  rw [← hN] at hl HV ⊢
  have HN := hide hN
  clear hc hN
  go_enter Tryz.func15, Tryz.ntmps15
  by_cases h64 : 64 < N
  · have d64 : decide ((64 : Int) < (N : Int)) = true := decide_eq_true (by omega)
    have HF : Hid (R = false) := hide (by
      rw [HAL.out]
      unfold riseI
      have h1 : decide ((ss.map bl).length ≤ 64) = false := decide_eq_false (by rw [List.length_map, ← HN.out]; omega)
      rw [h1, Bool.and_false, Bool.and_false])
    clear h64
    go_wp2_with fail
    go_ret
    rw [HF.out]
    exact ⟨rfl, Below.refl _ _⟩
  have d64 : decide ((64 : Int) < (N : Int)) = false := decide_eq_false (by omega)
  go_wp2_with fail
  go_loopg [10] N (fun g v wx => ∃ i : Nat, i + g = N ∧ v = .int .i64 (i : Int) ∧ Hid (RsI (ss.map bl) i ∧ Below w.heap.size w wx))
  case atStart => exact ⟨0, by omega, rfl, hide ⟨⟨fun j a h => by omega, fun j a b h => by omega⟩, Below.refl _ _⟩⟩
  case round =>
    obtain ⟨i, hig, rfl, HU⟩ := hrel
    by_cases hlt : i < N
    · have hd : decide ((i : Int) < (N : Int)) = true := decide_eq_true (by omega)
      obtain ⟨x, hx⟩ : ∃ y, ss[i]? = some y := ⟨_, List.getElem?_eq_getElem (by rw [← HN.out]; exact hlt)⟩
      obtain ⟨p', cap', e, -, hc⟩ := HV.out.below HU.out.2
      injection e with e1 e2 e3
      clear e2 e3
      obtain ⟨b, off, e4, c1⟩ := hc i x hx
      rw [← e1] at e4
      subst e4
      have HXX : Hid ((ss.map bl)[i]? = some (bl x) ∧ (bl x).length = x.size) := hide ⟨by rw [List.getElem?_map, hx]; rfl, bl_len x⟩
      have HB : Hid (Below w.heap.size w wr) := hide HU.out.2
      by_cases h1 : x.size < 1
      · have HR : Hid (R = false) := hide (by rw [HAL.out]; exact rs_bad_len HXX.out.1 (by rw [HXX.out.2]; omega))
        have d1 : decide ((x.size : Int) < 1) = true := decide_eq_true (by omega)
        clear h1 hc hx e1
        go_wp2_with fail
        go_ret
        rw [HR.out]
        exact ⟨rfl, HU.out.2⟩
      · have d1 : decide ((x.size : Int) < 1) = false := decide_eq_false (by omega)
        by_cases h16 : 16 < x.size
        · have HR : Hid (R = false) := hide (by rw [HAL.out]; exact rs_bad_len HXX.out.1 (by rw [HXX.out.2]; omega))
          have d2 : decide ((16 : Int) < (x.size : Int)) = true := decide_eq_true (by omega)
          clear h1 h16 hc hx e1
          go_wp2_with fail
          go_ret
          rw [HR.out]
          exact ⟨rfl, HU.out.2⟩
        · have d2 : decide ((16 : Int) < (x.size : Int)) = false := decide_eq_false (by omega)
          have HLX : Hid (1 ≤ (bl x).length ∧ (bl x).length ≤ 16) := hide (by rw [HXX.out.2]; omega)
          by_cases h0 : i = 0
          · have HS : Hid (RsI (ss.map bl) (i + 1)) := hide (HU.out.1.step HXX.out.1 HLX.out (fun _ => .inl h0))
            have d0 : decide (0 < i) = false := decide_eq_false (by omega)
            have H0 := hide h0
            clear h1 h16 hc hx e1 h0
            go_wp2_with fail
            go_roundg (N - (i + 1))
            case measure => omega
            case rel => exact ⟨i + 1, by omega, by first | rfl | simp, hide ⟨HS.out, HU.out.2⟩⟩
          · have d0 : decide ((0 : Int) < (i : Int)) = true := decide_eq_true (by omega)
            obtain ⟨k, rfl⟩ : ∃ k, i = k + 1 := ⟨i - 1, by omega⟩
            obtain ⟨y, hy⟩ : ∃ y, ss[k]? = some y := ⟨_, List.getElem?_eq_getElem (by rw [← HN.out]; omega)⟩
            obtain ⟨b', off', e5, c0⟩ := hc k y hy
            rw [← e1] at e5
            injection e5 with e5
            injection e5 with e6 e7
            subst e6
            subst e7
            have hkc : ((k + 1 : Nat) : Int) - 1 = (k : Int) := by omega
            have HYY : Hid ((ss.map bl)[k]? = some (bl y)) := hide (by rw [List.getElem?_map, hy]; rfl)
            clear hc hx hy e1
            cases hxy : lt (bl y) (bl x) with
            | true =>
              have HS : Hid (RsI (ss.map bl) (k + 1 + 1)) := hide (HU.out.1.step HXX.out.1 HLX.out (fun b => .inr (fun hb => by
                rw [Nat.add_sub_cancel, HYY.out] at hb
                rw [← Option.some.inj hb]
                exact hxy)))
              have hgq2 := mless_is y x
              rw [hxy] at hgq2
              clear hxy h1 h16 h0
              go_wp2_with fail
              go_roundg (N - (k + 1 + 1))
              case measure => omega
              case rel => exact ⟨k + 1 + 1, by omega, by first | rfl | simp | (congr 1), hide ⟨HS.out, HU.out.2⟩⟩
            | false =>
              have HR : Hid (R = false) := hide (by rw [HAL.out]; exact rs_bad_lt HYY.out HXX.out.1 hxy)
              have hgq2 := mless_is y x
              rw [hxy] at hgq2
              clear hxy h1 h16 h0
              go_wp2_with fail
              go_ret
              rw [HR.out]
              exact ⟨rfl, HU.out.2⟩
    · have hd : decide ((i : Int) < (N : Int)) = false := decide_eq_false (by omega)
      have HR : Hid (R = true) := hide (by
        have hiN : i = (ss.map bl).length := by rw [List.length_map, ← HN.out]; omega
        have h := HU.out.1
        rw [hiN] at h
        rw [HAL.out, rsI_all h, List.length_map, ← HN.out]
        exact decide_eq_true (by omega))
      have HB := hide HU.out.2
      clear HU HAL
      go_wp2_with fail
      go_ret
      rw [HR.out]
      exact ⟨rfl, HB.out⟩
end Go.Proofs.YtebcpmgooodmpabGreatDoor
