/-
  The law DigestRoom.
-/
import Derived.Test.YtddphbbmccfblaaDL0
namespace Go.Proofs.Ytddphbbmccfblaa
open Go.RowKit
open Utf1
open Pol8 hiding text right Right
open Dg16

set_option maxRecDepth 100000 in
set_option maxHeartbeats 16000000 in
theorem room_walk (hL : LacksC) (hJ : JoinC) (hS : ShortC) {v u : Value} {ls : List ByteArray} {zs : List Int} {most : Int} (w : World) (hv : StrCap w v ls) (hu : IntArg w u zs) (hz : zs.length ≤ 9223372036854775807) (hm : most ≤ 9223372036854775807) :
    Calls Try.prog 7 #[v, u, .int .i64 most] w fun e w' => e = .returned (.bool true) ∧ Below w.heap.size w w' := by
  have HL := hide hL
  have HJ := hide hJ
  have HS := hide hS
  have HV := hide hv
  have HU := hide hu
  obtain ⟨pa, ca, rfl⟩ := strArg_shape hv.1
  obtain ⟨pb, cb, rfl, -⟩ := hu
  clear hL hJ hS hv
  have B0 : Hid (Below w.heap.size w w) := hide (Below.refl _ _)
  obtain ⟨N, hN⟩ : ∃ N, N = ls.length := ⟨_, rfl⟩
  rw [← hN] at HV ⊢
  have HN := hide hN
  clear hN
  obtain ⟨Z, hZ⟩ : ∃ Z, Z = zs.length := ⟨_, rfl⟩
  rw [← hZ] at HU ⊢
  have HZL : Hid (zs.length ≤ 9223372036854775807) := hide hz
  have HMO := hide hm
  clear hZ hz hm
  go_enter Try.func7, Try.ntmps7
  go_wp2_with fail
  refine (dawake_any HL.out HJ.out HS.out w).mono ?_
  rintro e w1 ⟨rfl, hb1⟩
  have B1 := hide (bel2 B0.out hb1)
  clear hb1
  go_wp2_with fail
  refine (light_any _ ls w1 (HV.out.below B1.out).1).mono ?_
  rintro e w2 ⟨⟨b1, rfl, hlb1⟩, hb2⟩
  have B2 := hide (bel2 B1.out hb2)
  have Lb1 := hide hlb1
  clear hlb1
  clear hb2
  cases b1 with
  | false =>
    go_wp2_with fail
    go_ret
    exact ⟨rfl, B2.out⟩
  | true =>
  have T1 : Hid (Lt3 ls) := hide (Lb1.out rfl)
  have hN3 : N ≤ 300 := by rw [HN.out]; exact T1.out.1
  clear Lb1
  go_wp2_with fail
  refine (small_any _ zs HZL.out w2 (HU.out.below B2.out)).mono ?_
  rintro e w3 ⟨⟨b2, rfl, hlb2⟩, hb3⟩
  have B3 := hide (bel2 B2.out hb3)
  have Lb2 := hide hlb2
  clear hlb2
  clear hb3
  cases b2 with
  | false =>
    go_wp2_with fail
    go_ret
    exact ⟨rfl, B3.out⟩
  | true =>
  have T2 : Hid (zs.length ≤ 1000 ∧ ∀ z ∈ zs, z ≤ 1000000) := hide (Lb2.out rfl)
  clear Lb2
  go_wp2_with fail
  refine (HS.out _ _ ls zs most w3 T1.out.few T2.out (by have := T1.out.1; omega) HMO.out (HV.out.below B3.out) (HU.out.below B3.out)).mono ?_
  rintro e w4 ⟨⟨vx, k, rfl, hsx, hkx⟩, hb4⟩
  have B4 := hide (bel2 B3.out hb4)
  have hkN : k ≤ N := by rw [HN.out]; exact hkx.1
  obtain ⟨px, cx, hvx⟩ := strArg_shape hsx
  rw [List.length_take, Nat.min_eq_left hkx.1] at hvx
  subst hvx
  have Hx := hide hsx
  have Kx := hide hkx
  clear hsx hkx
  clear hb4
  have hk0 : N = 0 ∨ 0 < k := by
    rcases Kx.out.2.2 with h | h
    · have := HN.out
      omega
    · exact .inr h.1
  have d1 : decide ((N : Int) < (k : Int)) = false := decide_eq_false (by omega)
  have d1' : decide (N < k) = false := decide_eq_false (by omega)
  go_upto_region 6 with fail
  go_cut [43] from 29 (fun v43 wx => v43 = .bool false ∧ wx = w4)
  case first =>
    by_cases hN0 : N = 0
    · have d2 : decide ((0 : Int) < (N : Int)) = false := decide_eq_false (by omega)
      have d2' : decide (0 < N) = false := decide_eq_false (by omega)
      clear hN0 hk0
      go_wp2_with fail
      go_meet
      exact ⟨rfl, rfl⟩
    · have d2 : decide ((0 : Int) < (N : Int)) = true := decide_eq_true (by omega)
      have d2' : decide (0 < N) = true := decide_eq_true (by omega)
      have d3 : ((k : Int) == 0) = false := beq_eq_false_iff_ne.2 (by omega)
      have d3' : (k == 0) = false := beq_eq_false_iff_ne.2 (by omega)
      have d3'' : ¬ k = 0 := by omega
      go_wp2_with fail
      go_meet
      exact ⟨rfl, rfl⟩
  case rest =>
  obtain ⟨rfl, hwc⟩ := hcut
  have hwc2 := hwc.symm
  clear hwc
  subst hwc2
  clear hk0 d1 d1'
  go_wp2_with fail
  go_loopg [10, 11, 12] k (fun g v10 v11 v12 wr => ∃ (i : Nat) (S : Int), i + g = k ∧ v11 = .int .i64 (i : Int) ∧ v10 = .int .i64 S ∧ 0 ≤ S ∧ S ≤ 1000000000 ∧ Hid (S = sumTo zs i ∧ Below w4.heap.size w4 wr))
  case atStart => exact ⟨0, 0, by omega, rfl, rfl, by omega, by omega, hide ⟨rfl, Below.refl _ _⟩⟩
  case round =>
    obtain ⟨i, S, hi, rfl, rfl, hS0, hS1, HI⟩ := hrel
    have hik : i ≤ k := by omega
    obtain ⟨C, hC⟩ : ∃ C, C = sz zs i := ⟨_, rfl⟩
    have hC0 : 0 ≤ C := by rw [hC]; exact sz_pos _ _
    have hSC : S + C ≤ 1000000000 := by
      have h := sum_small T2.out.2 (i + 1)
      have h2 : sumTo zs (i + 1) = S + C := by rw [HI.out.1, hC]; rfl
      rw [h2] at h
      omega
    have hSum : S + C = sumTo zs (i + 1) := by rw [HI.out.1, hC]; rfl
    have HSUM := hide hSum
    have HHC := hide hC
    clear hSum hC
    by_cases hlt : i < k
    · have hiN : i < N := by omega
      obtain ⟨x, hgx⟩ : ∃ x, ls[i]? = some x := ⟨_, List.getElem?_eq_getElem (by have := HN.out; omega)⟩
      have hgt : (ls.take k)[i]? = some x := by rw [List.getElem?_take, if_pos hlt]; exact hgx
      obtain ⟨b1, o1, hp1, k1⟩ := strArg_cell ((HV.out.below B4.out).1.below HI.out.2) hgx
      obtain ⟨b2, o2, hp2, k2⟩ := strArg_cell ((show StrArg w4 (.slice px k cx) (ls.take k) from Hx.out).below HI.out.2) hgt
      subst hp1 hp2
      have h1 : (x.toList == x.toList) = true := beq_self_eq_true _
      have CS : Hid (∀ wx, Below wr.heap.size wr wx → Calls Try.prog 20 #[.slice pb Z cb, .int .i64 (i : Int)] wx fun e w' => e = .returned (.int .i64 C) ∧ Below wx.heap.size wx w') := hide (fun wx hx => size_any _ zs i wx (((HU.out.below B4.out).below HI.out.2).below hx) C HHC.out)
      have HI2 := hide (HI.out.2.drew)
      clear hgx hgt
      go_wp2_with fail
      go_region
      go_wp2_with fail
      refine (CS.out _ ((Below.refl _ _).drew)).mono ?_
      rintro e w20 ⟨rfl, hb⟩
      have HB20 : Hid (Below w4.heap.size w4 w20) := hide (bel2 HI2.out (by first | exact hb | exact hb))
      clear hb CS
      go_wp2_with fail
      go_roundg (k - (i + 1))
      case measure => omega
      case rel => exact ⟨i + 1, S + C, by omega, rfl, rfl, by omega, by omega, hide ⟨HSUM.out, HB20.out⟩⟩
    · have hd : decide ((i : Int) < (k : Int)) = false := decide_eq_false (by omega)
      have hie : k = i := by omega
      subst hie
      have Bq : Hid (Below w.heap.size w wr) := hide (bel2 B4.out HI.out.2)
      have hle : 1 < k → S ≤ most := fun h => by
        have h2 := Kx.out.2.1 (k - 1) (by omega) (by omega)
        rw [show k - 1 + 1 = k by omega, ← HI.out.1] at h2
        exact h2
      go_upto_region 16 with fail
      go_cut [72] from 65 (fun v72 wx => v72 = .bool false ∧ wx = wr)
      case first =>
        by_cases hk1 : 1 < k
        · have d2 : decide ((1 : Int) < (k : Int)) = true := decide_eq_true (by omega)
          have d2' : decide (1 < k) = true := decide_eq_true hk1
          have d3 : decide (most < S) = false := decide_eq_false (by have := hle hk1; omega)
          go_wp2_with fail
          go_meet
          exact ⟨rfl, rfl⟩
        · have d2 : decide ((1 : Int) < (k : Int)) = false := decide_eq_false (by omega)
          have d2' : decide (1 < k) = false := decide_eq_false hk1
          go_wp2_with fail
          go_meet
          exact ⟨rfl, rfl⟩
      case rest =>
      obtain ⟨rfl, hwc⟩ := hcut
      have hwc2 := hwc.symm
      clear hwc
      subst hwc2
      have CS := hide (size_any _ zs k wr (HU.out.below Bq.out) C HHC.out)
      have hfin : k = N ∨ most < S + C := by
        rcases Kx.out.2.2 with h | h
        · exact .inl (by rw [HN.out]; exact h)
        · exact .inr (by rw [HSUM.out]; exact h.2)
      clear hle HI
      go_wp2_with fail
      refine CS.out.mono ?_
      rintro e w21 ⟨rfl, hb⟩
      have Br := hide (bel2 Bq.out hb)
      clear hb CS
      by_cases hkN2 : k = N
      · have d4 : ((k : Int) == (N : Int)) = true := beq_iff_eq.2 (by omega)
        have d4' : (k == N) = true := beq_iff_eq.2 hkN2
        clear hfin
        go_wp2_with fail
        go_ret
        exact ⟨rfl, Br.out⟩
      · have d4 : ((k : Int) == (N : Int)) = false := beq_eq_false_iff_ne.2 (by omega)
        have d4' : (k == N) = false := beq_eq_false_iff_ne.2 hkN2
        have d5 : decide (most < S + C) = true := decide_eq_true (hfin.resolve_left hkN2)
        clear hfin
        go_wp2_with fail
        go_ret
        exact ⟨rfl, Br.out⟩
end Go.Proofs.Ytddphbbmccfblaa
