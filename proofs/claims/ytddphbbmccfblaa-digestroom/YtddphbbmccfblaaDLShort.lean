/-
  The law DigestShort.
-/
import Derived.Test.YtddphbbmccfblaaDL0
namespace Go.Proofs.Ytddphbbmccfblaa
open Go.RowKit
open Utf1
open Pol8 hiding text right Right
open Dg16

set_option maxRecDepth 100000 in
set_option maxHeartbeats 16000000 in
theorem short_walk (hL : LacksC) (hJ : JoinC) (hS : ShortC) {v u : Value} {ls : List ByteArray} {zs : List Int} {most : Int} (w : World) (hv : StrCap w v ls) (hu : IntArg w u zs) (hz : zs.length ≤ 9223372036854775807) (hm : most ≤ 9223372036854775807) :
    Calls Try.prog 4 #[v, u, .int .i64 most] w fun e w' => e = .returned (.bool true) ∧ Below w.heap.size w w' := by
  have HL := hide hL
  have HJ := hide hJ
  have HS := hide hS
  have HV := hide hv
  have HU := hide hu
  obtain ⟨pa, ca, rfl⟩ := strArg_shape hv.1
  obtain ⟨pb, cb, rfl, -⟩ := hu
  clear hL hJ hS hv
  have B0 : Hid (Below w.heap.size w w) := hide (Below.refl _ _)
  obtain ⟨N, hN⟩ : ∃ N, N = ls.length := ⟨_, rfl⟩
  rw [← hN] at HV ⊢
  have HN := hide hN
  clear hN
  obtain ⟨Z, hZ⟩ : ∃ Z, Z = zs.length := ⟨_, rfl⟩
  rw [← hZ] at HU ⊢
  have HZL : Hid (zs.length ≤ 9223372036854775807) := hide hz
  have HMO := hide hm
  clear hZ hz hm
  go_enter Try.func4, Try.ntmps4
  go_wp2_with fail
  refine (dawake_any HL.out HJ.out HS.out w).mono ?_
  rintro e w1 ⟨rfl, hb1⟩
  have B1 := hide (bel2 B0.out hb1)
  clear hb1
  go_wp2_with fail
  refine (light_any _ ls w1 (HV.out.below B1.out).1).mono ?_
  rintro e w2 ⟨⟨b1, rfl, hlb1⟩, hb2⟩
  have B2 := hide (bel2 B1.out hb2)
  have Lb1 := hide hlb1
  clear hlb1
  clear hb2
  cases b1 with
  | false =>
    go_wp2_with fail
    go_ret
    exact ⟨rfl, B2.out⟩
  | true =>
  have T1 : Hid (Lt3 ls) := hide (Lb1.out rfl)
  have hN3 : N ≤ 300 := by rw [HN.out]; exact T1.out.1
  clear Lb1
  go_wp2_with fail
  refine (small_any _ zs HZL.out w2 (HU.out.below B2.out)).mono ?_
  rintro e w3 ⟨⟨b2, rfl, hlb2⟩, hb3⟩
  have B3 := hide (bel2 B2.out hb3)
  have Lb2 := hide hlb2
  clear hlb2
  clear hb3
  cases b2 with
  | false =>
    go_wp2_with fail
    go_ret
    exact ⟨rfl, B3.out⟩
  | true =>
  have T2 : Hid (zs.length ≤ 1000 ∧ ∀ z ∈ zs, z ≤ 1000000) := hide (Lb2.out rfl)
  clear Lb2
  go_wp2_with fail
  refine (HS.out _ _ ls zs most w3 T1.out.few T2.out (by have := T1.out.1; omega) HMO.out (HV.out.below B3.out) (HU.out.below B3.out)).mono ?_
  rintro e w4 ⟨⟨vx, kx, rfl, hsx, hkx⟩, hb4⟩
  have B4 := hide (bel2 B3.out hb4)
  obtain ⟨px, cx, rfl⟩ := strArg_shape hsx
  obtain ⟨K, hK⟩ : ∃ K, K = (ls.take kx).length := ⟨_, rfl⟩
  rw [← hK] at hsx ⊢
  have HK := hide hK
  have Hx := hide hsx
  have Kx := hide hkx
  clear hsx hkx hK
  clear hb4
  go_wp2_with fail
  refine (mshort_any _ _ ls zs most (by have := T1.out.1; omega) T2.out.2 w4 (HV.out.below B4.out) (HU.out.below B4.out)).mono ?_
  rintro e w5 ⟨⟨vy, ky, rfl, hsy, hky⟩, hb5⟩
  have B5 := hide (bel2 B4.out hb5)
  have Hxw5 := hide (Hx.out.below hb5)
  clear Hx
  have EK := Kx.out.one hky
  subst EK
  obtain ⟨hsz, -⟩ := hsy
  obtain ⟨py, cy, rfl⟩ := strArg_shape hsz
  rw [← HK.out] at hsz ⊢
  have Hy := hide hsz
  clear hsz hky
  clear hb5
  have Fx : Hid (Few (ls.take kx)) := hide ⟨by rw [List.length_take]; have := T1.out.1; omega, fun x hx => by have := T1.out.2 x (List.mem_of_mem_take hx); omega⟩
  go_wp2_with fail
  refine (same_any w5 _ _ (ls.take kx) (ls.take kx) Hxw5.out Hy.out (few_len Fx.out) true (decide_eq_true rfl).symm).mono ?_
  rintro e w6 ⟨rfl, hb6⟩
  have B6 := hide (bel2 B5.out hb6)
  have Hxw6 := hide (Hxw5.out.below hb6)
  clear Hxw5
  have Hyw6 := hide (Hy.out.below hb6)
  clear Hy
  clear hb6
  go_wp2_with fail
  go_ret
  exact ⟨rfl, B6.out⟩
end Go.Proofs.Ytddphbbmccfblaa
