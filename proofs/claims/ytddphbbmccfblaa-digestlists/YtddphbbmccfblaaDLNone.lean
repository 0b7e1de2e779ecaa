/-
  The law DigestNone.
-/
import Derived.Test.YtddphbbmccfblaaDL0
namespace Go.Proofs.Ytddphbbmccfblaa
open Go.RowKit
open Utf1
open Pol8 hiding text right Right
open Dg16

set_option maxRecDepth 100000 in
set_option maxHeartbeats 16000000 in
theorem none_walk (hL : LacksC) (hJ : JoinC) (hS : ShortC) {v : Value} {ls : List ByteArray} (w : World) (hv : StrArg w v ls) :
    Calls Try.prog 8 #[v] w fun e w' => e = .returned (.bool true) ∧ Below w.heap.size w w' := by
  have HL := hide hL
  have HJ := hide hJ
  have HS := hide hS
  have HV := hide hv
  obtain ⟨pa, ca, rfl⟩ := strArg_shape hv
  clear hL hJ hS hv
  have B0 : Hid (Below w.heap.size w w) := hide (Below.refl _ _)
  obtain ⟨N, hN⟩ : ∃ N, N = ls.length := ⟨_, rfl⟩
  rw [← hN] at HV ⊢
  have HN := hide hN
  clear hN
  go_enter Try.func8, Try.ntmps8
  go_wp2_with fail
  refine (dawake_any HL.out HJ.out HS.out w).mono ?_
  rintro e w1 ⟨rfl, hb1⟩
  have B1 := hide (bel2 B0.out hb1)
  clear hb1
  go_wp2_with fail
  refine (light_any _ ls w1 (HV.out.below B1.out)).mono ?_
  rintro e w2 ⟨⟨b1, rfl, hlb1⟩, hb2⟩
  have B2 := hide (bel2 B1.out hb2)
  have Lb1 := hide hlb1
  clear hlb1
  clear hb2
  cases b1 with
  | false =>
    go_wp2_with fail
    go_ret
    exact ⟨rfl, B2.out⟩
  | true =>
  have T1 : Hid (Lt3 ls) := hide (Lb1.out rfl)
  have hN3 : N ≤ 300 := by rw [HN.out]; exact T1.out.1
  clear Lb1
  go_wp2_with fail
  refine (HL.out _ _ [] ls w2 few_nil T1.out.few (strArg_nil _) (HV.out.below B2.out)).mono ?_
  rintro e w3 ⟨⟨vx, Xx, rfl, hsx, hrx⟩, hb3⟩
  have B3 := hide (bel2 B2.out hb3)
  obtain ⟨px, cx, rfl⟩ := strArg_shape hsx
  have Hx := hide hsx
  have Rx := hide hrx
  clear hsx hrx
  clear hb3
  go_wp2_with fail
  refine (HJ.out _ _ [] ls w3 few_nil T1.out.few (strArg_nil _) (HV.out.below B3.out)).mono ?_
  rintro e w4 ⟨⟨vy, Xy, rfl, hsy, hry⟩, hb4⟩
  have B4 := hide (bel2 B3.out hb4)
  have Hxw4 := hide (Hx.out.below hb4)
  clear Hx
  obtain ⟨py, cy, rfl⟩ := strArg_shape hsy
  have Hy := hide hsy
  have Ry := hide hry
  clear hsy hry
  clear hb4
  have Fx : Hid (Few Xx) := hide (few_ri (ls := ls) Rx.out (fun y h => .inr h.1) T1.out T1.out)
  have EQ4 : Hid (Xx = Xy) := hide (ri_same Rx.out Ry.out (fun y => by simp))
  go_wp2_with fail
  refine (same_any w4 _ _ Xx Xy Hxw4.out Hy.out (few_len Fx.out) true (decide_eq_true EQ4.out).symm).mono ?_
  clear EQ4
  rintro e w5 ⟨rfl, hb5⟩
  have B5 := hide (bel2 B4.out hb5)
  have Hxw5 := hide (Hxw4.out.below hb5)
  clear Hxw4
  have Hyw5 := hide (Hy.out.below hb5)
  clear Hy
  clear hb5
  go_wp2_with fail
  refine (HL.out _ _ ls [] w5 T1.out.few few_nil (HV.out.below B5.out) (strArg_nil _)).mono ?_
  rintro e w6 ⟨⟨vz, Xz, rfl, hsz, hrz⟩, hb6⟩
  have B6 := hide (bel2 B5.out hb6)
  have Hxw6 := hide (Hxw5.out.below hb6)
  clear Hxw5
  have Hyw6 := hide (Hyw5.out.below hb6)
  clear Hyw5
  obtain ⟨pz, cz, rfl⟩ := strArg_shape hsz
  have Hz := hide hsz
  have Rz := hide hrz
  clear hsz hrz
  clear hb6
  have Nz : Xz = [] := ri_none Rz.out (fun y h => by cases h.1)
  subst Nz
  obtain ⟨M, hM⟩ : ∃ M, M = Xx.length := ⟨_, rfl⟩
  have HX : Hid (StrArg w6 (.slice px M cx) Xx) := hide (by rw [hM]; exact Hxw6.out)
  have hMN : M ≤ N := by
    rw [hM, HN.out]
    have h := chain_len Rx.out.ch (S := ls.map bl) (fun y hy => ((Rx.out.mem y).1 hy).1)
    rw [List.length_map, List.length_map] at h
    exact h
  have dMN : decide ((M : Int) ≤ (N : Int)) = true := decide_eq_true (by omega)
  have dMN2 : decide (M ≤ N) = true := decide_eq_true hMN
  rw [← hM]
  clear hM Hxw6
  go_wp2_with fail
  go_loopg [8, 9] N (fun g v8 v9 wr => ∃ i : Nat, i + g = N ∧ v8 = .int .i64 (i : Int) ∧ Hid (Below w6.heap.size w6 wr))
  case atStart => exact ⟨0, by omega, rfl, hide (Below.refl _ _)⟩
  case round =>
    obtain ⟨i, hi, rfl, HI⟩ := hrel
    by_cases hlt : i < N
    · have hja : i < ls.length := by have := HN.out; omega
      have hga : ls[i]? = some ls[i] := List.getElem?_eq_getElem hja
      generalize ls[i] = x at hga
      obtain ⟨b1, o1, hp1, k1⟩ := strArg_cell ((HV.out.below B6.out).below HI.out) hga
      subst hp1
      have hyes : bl x ∈ Xx.map bl := (Rx.out.mem (bl x)).2 ⟨List.mem_map_of_mem (List.mem_of_getElem? hga), by simp⟩
      have CH := hide (has_any _ Xx x (few_len Fx.out) wr (HX.out.below HI.out) true (decide_eq_true hyes).symm)
      clear hja hga hyes
      go_wp2_with fail
      refine CH.out.mono ?_
      rintro e w20 ⟨rfl, hb⟩
      have HI2 := hide (bel2 HI.out hb)
      clear hb CH
      go_wp2_with fail
      go_roundg (N - (i + 1))
      case measure => omega
      case rel => exact ⟨i + 1, by omega, rfl, HI2⟩
    · have hd : decide ((i : Int) < (N : Int)) = false := decide_eq_false (by omega)
      have Bq : Hid (Below w.heap.size w wr) := hide (bel2 B6.out HI.out)
      clear HI
      go_wp2_with fail
      go_ret
      exact ⟨rfl, Bq.out⟩
end Go.Proofs.Ytddphbbmccfblaa
