/-
  The law DigestLists.
-/
import Derived.Test.YtddphbbmccfblaaDL0
namespace Go.Proofs.Ytddphbbmccfblaa
open Go.RowKit
open Utf1
open Pol8 hiding text right Right
open Dg16

set_option maxRecDepth 100000 in
set_option maxHeartbeats 16000000 in
theorem lists_walk (hL : LacksC) (hJ : JoinC) (hS : ShortC) {v u : Value} {ls bs : List ByteArray} (w : World) (hv : StrArg w v ls) (hu : StrArg w u bs) :
    Calls Try.prog 3 #[v, u] w fun e w' => e = .returned (.bool true) ∧ Below w.heap.size w w' := by
  have HL := hide hL
  have HJ := hide hJ
  have HS := hide hS
  have HV := hide hv
  have HU := hide hu
  obtain ⟨pa, ca, rfl⟩ := strArg_shape hv
  obtain ⟨pb, cb, rfl⟩ := strArg_shape hu
  clear hL hJ hS hv hu
  have B0 : Hid (Below w.heap.size w w) := hide (Below.refl _ _)
  go_enter Try.func3, Try.ntmps3
  go_wp2_with fail
  refine (dawake_any HL.out HJ.out HS.out w).mono ?_
  rintro e w1 ⟨rfl, hb1⟩
  have B1 := hide (bel2 B0.out hb1)
  clear hb1
  go_wp2_with fail
  refine (light_any _ ls w1 (HV.out.below B1.out)).mono ?_
  rintro e w2 ⟨⟨b1, rfl, hlb1⟩, hb2⟩
  have B2 := hide (bel2 B1.out hb2)
  have Lb1 := hide hlb1
  clear hlb1
  clear hb2
  go_wp2_with fail
  refine (light_any _ bs w2 (HU.out.below B2.out)).mono ?_
  rintro e w3 ⟨⟨b2, rfl, hlb2⟩, hb3⟩
  have B3 := hide (bel2 B2.out hb3)
  have Lb2 := hide hlb2
  clear hlb2
  clear hb3
  cases b1 with
  | false =>
    go_wp2_with fail
    go_ret
    exact ⟨rfl, B3.out⟩
  | true =>
  cases b2 with
  | false =>
    go_wp2_with fail
    go_ret
    exact ⟨rfl, B3.out⟩
  | true =>
  have T1 : Hid (Lt3 ls) := hide (Lb1.out rfl)
  have T2 : Hid (Lt3 bs) := hide (Lb2.out rfl)
  clear Lb1 Lb2
  go_wp2_with fail
  refine (HL.out _ _ ls bs w3 T1.out.few T2.out.few (HV.out.below B3.out) (HU.out.below B3.out)).mono ?_
  rintro e w4 ⟨⟨vx, Xx, rfl, hsx, hrx⟩, hb4⟩
  have B4 := hide (bel2 B3.out hb4)
  obtain ⟨px, cx, rfl⟩ := strArg_shape hsx
  have Hx := hide hsx
  have Rx := hide hrx
  clear hsx hrx
  clear hb4
  go_wp2_with fail
  refine (mlacks_any _ _ ls bs (by have := T1.out.1; omega) (by have := T2.out.1; omega) w4 (HV.out.below B4.out) (HU.out.below B4.out)).mono ?_
  rintro e w5 ⟨⟨vy, Xy, rfl, hsy, hry⟩, hb5⟩
  have B5 := hide (bel2 B4.out hb5)
  have Hxw5 := hide (Hx.out.below hb5)
  clear Hx
  obtain ⟨py, cy, rfl⟩ := strArg_shape hsy.1.1
  have Hy := hide hsy.1.1
  have Ry := hide hry
  clear hsy hry
  clear hb5
  have Fx : Hid (Few Xx) := hide (few_ri Rx.out (fun y h => .inr h.1) T1.out T2.out)
  have EQ5 : Hid (Xx = Xy) := hide (ri_same Rx.out Ry.out (fun _ => Iff.rfl))
  go_wp2_with fail
  refine (same_any w5 _ _ Xx Xy Hxw5.out Hy.out (few_len Fx.out) true (decide_eq_true EQ5.out).symm).mono ?_
  clear EQ5
  rintro e w6 ⟨rfl, hb6⟩
  have B6 := hide (bel2 B5.out hb6)
  have Hxw6 := hide (Hxw5.out.below hb6)
  clear Hxw5
  have Hyw6 := hide (Hy.out.below hb6)
  clear Hy
  clear hb6
  go_wp2_with fail
  refine (HJ.out _ _ ls bs w6 T1.out.few T2.out.few (HV.out.below B6.out) (HU.out.below B6.out)).mono ?_
  rintro e w7 ⟨⟨vz, Xz, rfl, hsz, hrz⟩, hb7⟩
  have B7 := hide (bel2 B6.out hb7)
  have Hxw7 := hide (Hxw6.out.below hb7)
  clear Hxw6
  have Hyw7 := hide (Hyw6.out.below hb7)
  clear Hyw6
  obtain ⟨pz, cz, rfl⟩ := strArg_shape hsz
  have Hz := hide hsz
  have Rz := hide hrz
  clear hsz hrz
  clear hb7
  go_wp2_with fail
  refine (mjoin_any _ _ ls bs (by have := T1.out.1; omega) (by have := T2.out.1; omega) w7 (HV.out.below B7.out) (HU.out.below B7.out)).mono ?_
  rintro e w8 ⟨⟨vt, Xt, rfl, hst, hrt⟩, hb8⟩
  have B8 := hide (bel2 B7.out hb8)
  have Hxw8 := hide (Hxw7.out.below hb8)
  clear Hxw7
  have Hyw8 := hide (Hyw7.out.below hb8)
  clear Hyw7
  have Hzw8 := hide (Hz.out.below hb8)
  clear Hz
  obtain ⟨pt, ct, rfl⟩ := strArg_shape hst.1.1
  have Ht := hide hst.1.1
  have Rt := hide hrt
  clear hst hrt
  clear hb8
  have Fz : Hid (Few Xz) := hide (few_ri Rz.out (fun y h => h) T1.out T2.out)
  have EQ8 : Hid (Xz = Xt) := hide (ri_same Rz.out Rt.out (fun _ => Iff.rfl))
  go_wp2_with fail
  refine (same_any w8 _ _ Xz Xt Hzw8.out Ht.out (few_len Fz.out) true (decide_eq_true EQ8.out).symm).mono ?_
  clear EQ8
  rintro e w9 ⟨rfl, hb9⟩
  have B9 := hide (bel2 B8.out hb9)
  have Hxw9 := hide (Hxw8.out.below hb9)
  clear Hxw8
  have Hyw9 := hide (Hyw8.out.below hb9)
  clear Hyw8
  have Hzw9 := hide (Hzw8.out.below hb9)
  clear Hzw8
  have Htw9 := hide (Ht.out.below hb9)
  clear Ht
  clear hb9
  go_wp2_with fail
  go_ret
  exact ⟨rfl, B9.out⟩
end Go.Proofs.Ytddphbbmccfblaa
