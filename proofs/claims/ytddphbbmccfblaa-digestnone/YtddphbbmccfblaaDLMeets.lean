/-
  The law DigestMeets.
-/
import Derived.Test.YtddphbbmccfblaaDL0
namespace Go.Proofs.Ytddphbbmccfblaa
open Go.RowKit
open Utf1
open Pol8 hiding text right Right
open Dg16

set_option maxRecDepth 100000 in
set_option maxHeartbeats 16000000 in
theorem meets_walk (hL : LacksC) (hJ : JoinC) (hS : ShortC) {v u : Value} {ls bs : List ByteArray} (w : World) (hv : StrArg w v ls) (hu : StrArg w u bs) :
    Calls Try.prog 5 #[v, u] w fun e w' => e = .returned (.bool true) ∧ Below w.heap.size w w' := by
  have HL := hide hL
  have HJ := hide hJ
  have HS := hide hS
  have HV := hide hv
  have HU := hide hu
  obtain ⟨pa, ca, rfl⟩ := strArg_shape hv
  obtain ⟨pb, cb, rfl⟩ := strArg_shape hu
  clear hL hJ hS hv hu
  have B0 : Hid (Below w.heap.size w w) := hide (Below.refl _ _)
  go_enter Try.func5, Try.ntmps5
  go_wp2_with fail
  refine (dawake_any HL.out HJ.out HS.out w).mono ?_
  rintro e w1 ⟨rfl, hb1⟩
  have B1 := hide (bel2 B0.out hb1)
  clear hb1
  go_wp2_with fail
  refine (light_any _ ls w1 (HV.out.below B1.out)).mono ?_
  rintro e w2 ⟨⟨b1, rfl, hlb1⟩, hb2⟩
  have B2 := hide (bel2 B1.out hb2)
  have Lb1 := hide hlb1
  clear hlb1
  clear hb2
  go_wp2_with fail
  refine (light_any _ bs w2 (HU.out.below B2.out)).mono ?_
  rintro e w3 ⟨⟨b2, rfl, hlb2⟩, hb3⟩
  have B3 := hide (bel2 B2.out hb3)
  have Lb2 := hide hlb2
  clear hlb2
  clear hb3
  cases b1 with
  | false =>
    go_wp2_with fail
    go_ret
    exact ⟨rfl, B3.out⟩
  | true =>
  cases b2 with
  | false =>
    go_wp2_with fail
    go_ret
    exact ⟨rfl, B3.out⟩
  | true =>
  have T1 : Hid (Lt3 ls) := hide (Lb1.out rfl)
  have T2 : Hid (Lt3 bs) := hide (Lb2.out rfl)
  clear Lb1 Lb2
  go_wp2_with fail
  refine (HL.out _ _ ls bs w3 T1.out.few T2.out.few (HV.out.below B3.out) (HU.out.below B3.out)).mono ?_
  rintro e w4 ⟨⟨vx, Xx, rfl, hsx, hrx⟩, hb4⟩
  have B4 := hide (bel2 B3.out hb4)
  obtain ⟨px, cx, rfl⟩ := strArg_shape hsx
  have Hx := hide hsx
  have Rx := hide hrx
  clear hsx hrx
  clear hb4
  go_wp2_with fail
  refine (HJ.out _ _ ls bs w4 T1.out.few T2.out.few (HV.out.below B4.out) (HU.out.below B4.out)).mono ?_
  rintro e w5 ⟨⟨vj, Xj, rfl, hsj, hrj⟩, hb5⟩
  have B5 := hide (bel2 B4.out hb5)
  have Hxw5 := hide (Hx.out.below hb5)
  clear Hx
  obtain ⟨pj, cj, rfl⟩ := strArg_shape hsj
  have Hj := hide hsj
  have Rj := hide hrj
  clear hsj hrj
  clear hb5
  have Fx : Hid (Few Xx) := hide (few_ri Rx.out (fun y h => .inr h.1) T1.out T2.out)
  have Fj : Hid (Few Xj) := hide (few_ri Rj.out (fun y h => h) T1.out T2.out)
  obtain ⟨N, hN⟩ : ∃ N, N = Xx.length := ⟨_, rfl⟩
  have HX : Hid (StrArg w5 (.slice px N cx) Xx) := hide (by rw [hN]; exact Hxw5.out)
  have HN := hide hN
  have hN4 : N ≤ 10000 := by rw [hN]; exact Fx.out.1
  rw [← hN]
  clear hN Hxw5
  go_wp2_with fail
  go_loopg [10, 11] N (fun g v10 v11 wr => ∃ i : Nat, i + g = N ∧ v10 = .int .i64 (i : Int) ∧ Hid (Below w5.heap.size w5 wr))
  case atStart => exact ⟨0, by omega, rfl, hide (Below.refl _ _)⟩
  case round =>
    obtain ⟨i, hi, rfl, HI⟩ := hrel
    by_cases hlt : i < N
    · have hja : i < Xx.length := by have := HN.out; omega
      have hga : Xx[i]? = some Xx[i] := List.getElem?_eq_getElem hja
      generalize Xx[i] = x at hga
      obtain ⟨b1, o1, hp1, k1⟩ := strArg_cell (HX.out.below HI.out) hga
      subst hp1
      have hno : bl x ∉ ls.map bl := ((Rx.out.mem (bl x)).1 (List.mem_map_of_mem (List.mem_of_getElem? hga))).2
      have CH := hide (has_any _ ls x (by have := T1.out.1; omega) wr ((HV.out.below B5.out).below HI.out) false (decide_eq_false hno).symm)
      clear hja hga hno
      go_wp2_with fail
      refine CH.out.mono ?_
      rintro e w20 ⟨rfl, hb⟩
      have HI2 := hide (bel2 HI.out hb)
      clear hb CH
      go_wp2_with fail
      go_roundg (N - (i + 1))
      case measure => omega
      case rel => exact ⟨i + 1, by omega, rfl, HI2⟩
    · have hd : decide ((i : Int) < (N : Int)) = false := decide_eq_false (by omega)
      have Bq : Hid (Below w.heap.size w wr) := hide (bel2 B5.out HI.out)
      have HXq := hide (HX.out.below HI.out)
      have HJq := hide (Hj.out.below HI.out)
      clear HI HX Hj
      have B6 := Bq
      go_wp2_with fail
      refine (HJ.out _ _ ls Xx wr T1.out.few Fx.out (HV.out.below B6.out) HXq.out).mono ?_
      rintro e w7 ⟨⟨vc, Xc, rfl, hsc, hrc⟩, hb7⟩
      have B7 := hide (bel2 B6.out hb7)
      have Hxw7 := hide (HXq.out.below hb7)
      clear HXq
      have Hjw7 := hide (HJq.out.below hb7)
      clear HJq
      obtain ⟨pc, cc, rfl⟩ := strArg_shape hsc
      have Hc := hide hsc
      have Rc := hide hrc
      clear hsc hrc
      clear hb7
      have Fc : Hid (Few Xc) := hide (by rw [ri_same Rc.out Rj.out (fun y => by
              constructor
              · rintro (h | h)
                · exact .inl h
                · exact .inr ((Rx.out.mem y).1 h).1
              · rintro (h | h)
                · exact .inl h
                · by_cases hy : y ∈ ls.map bl
                  · exact .inl hy
                  · exact .inr ((Rx.out.mem y).2 ⟨h, hy⟩))]; exact Fj.out)
      have EQ7 : Hid (Xc = Xj) := hide (ri_same Rc.out Rj.out (fun y => by
              constructor
              · rintro (h | h)
                · exact .inl h
                · exact .inr ((Rx.out.mem y).1 h).1
              · rintro (h | h)
                · exact .inl h
                · by_cases hy : y ∈ ls.map bl
                  · exact .inl hy
                  · exact .inr ((Rx.out.mem y).2 ⟨h, hy⟩)))
      go_wp2_with fail
      refine (same_any w7 _ _ Xc Xj Hc.out Hjw7.out (few_len Fc.out) true (decide_eq_true EQ7.out).symm).mono ?_
      clear EQ7
      rintro e w8 ⟨rfl, hb8⟩
      have B8 := hide (bel2 B7.out hb8)
      have Hxw8 := hide (Hxw7.out.below hb8)
      clear Hxw7
      have Hjw8 := hide (Hjw7.out.below hb8)
      clear Hjw7
      have Hcw8 := hide (Hc.out.below hb8)
      clear Hc
      clear hb8
      go_wp2_with fail
      refine (HJ.out _ _ bs ls w8 T2.out.few T1.out.few (HU.out.below B8.out) (HV.out.below B8.out)).mono ?_
      rintro e w9 ⟨⟨vd, Xd, rfl, hsd, hrd⟩, hb9⟩
      have B9 := hide (bel2 B8.out hb9)
      have Hxw9 := hide (Hxw8.out.below hb9)
      clear Hxw8
      have Hjw9 := hide (Hjw8.out.below hb9)
      clear Hjw8
      have Hcw9 := hide (Hcw8.out.below hb9)
      clear Hcw8
      obtain ⟨pd, cd, rfl⟩ := strArg_shape hsd
      have Hd := hide hsd
      have Rd := hide hrd
      clear hsd hrd
      clear hb9
      have Fd : Hid (Few Xd) := hide (few_ri Rd.out (fun y h => h) T2.out T1.out)
      have EQ9 : Hid (Xd = Xj) := hide (ri_same Rd.out Rj.out (fun y => or_comm))
      go_wp2_with fail
      refine (same_any w9 _ _ Xd Xj Hd.out Hjw9.out (few_len Fd.out) true (decide_eq_true EQ9.out).symm).mono ?_
      clear EQ9
      rintro e w10 ⟨rfl, hb10⟩
      have B10 := hide (bel2 B9.out hb10)
      have Hxw10 := hide (Hxw9.out.below hb10)
      clear Hxw9
      have Hjw10 := hide (Hjw9.out.below hb10)
      clear Hjw9
      have Hcw10 := hide (Hcw9.out.below hb10)
      clear Hcw9
      have Hdw10 := hide (Hd.out.below hb10)
      clear Hd
      clear hb10
      go_wp2_with fail
      refine (HL.out _ _ Xj bs w10 Fj.out T2.out.few Hjw10.out (HU.out.below B10.out)).mono ?_
      rintro e w11 ⟨⟨vf, Xf, rfl, hsf, hrf⟩, hb11⟩
      have B11 := hide (bel2 B10.out hb11)
      have Hxw11 := hide (Hxw10.out.below hb11)
      clear Hxw10
      have Hjw11 := hide (Hjw10.out.below hb11)
      clear Hjw10
      have Hcw11 := hide (Hcw10.out.below hb11)
      clear Hcw10
      have Hdw11 := hide (Hdw10.out.below hb11)
      clear Hdw10
      obtain ⟨pf, cf, rfl⟩ := strArg_shape hsf
      have Hf := hide hsf
      have Rf := hide hrf
      clear hsf hrf
      clear hb11
      have Nf : Xf = [] := ri_none Rf.out (fun y h => h.2 ((Rj.out.mem y).2 (.inr h.1)))
      subst Nf
      go_wp2_with fail
      refine (HL.out _ _ Xj ls w11 Fj.out T1.out.few Hjw11.out (HV.out.below B11.out)).mono ?_
      rintro e w12 ⟨⟨vg, Xg, rfl, hsg, hrg⟩, hb12⟩
      have B12 := hide (bel2 B11.out hb12)
      have Hxw12 := hide (Hxw11.out.below hb12)
      clear Hxw11
      have Hjw12 := hide (Hjw11.out.below hb12)
      clear Hjw11
      have Hcw12 := hide (Hcw11.out.below hb12)
      clear Hcw11
      have Hdw12 := hide (Hdw11.out.below hb12)
      clear Hdw11
      have Hfw12 := hide (Hf.out.below hb12)
      clear Hf
      obtain ⟨pg, cg, rfl⟩ := strArg_shape hsg
      have Hg := hide hsg
      have Rg := hide hrg
      clear hsg hrg
      clear hb12
      have Ng : Xg = [] := ri_none Rg.out (fun y h => h.2 ((Rj.out.mem y).2 (.inl h.1)))
      subst Ng
      go_wp2_with fail
      refine (HL.out _ _ ls ls w12 T1.out.few T1.out.few (HV.out.below B12.out) (HV.out.below B12.out)).mono ?_
      rintro e w13 ⟨⟨vh, Xh, rfl, hsh, hrh⟩, hb13⟩
      have B13 := hide (bel2 B12.out hb13)
      have Hxw13 := hide (Hxw12.out.below hb13)
      clear Hxw12
      have Hjw13 := hide (Hjw12.out.below hb13)
      clear Hjw12
      have Hcw13 := hide (Hcw12.out.below hb13)
      clear Hcw12
      have Hdw13 := hide (Hdw12.out.below hb13)
      clear Hdw12
      have Hfw13 := hide (Hfw12.out.below hb13)
      clear Hfw12
      have Hgw13 := hide (Hg.out.below hb13)
      clear Hg
      obtain ⟨ph, ch, rfl⟩ := strArg_shape hsh
      have Hh := hide hsh
      have Rh := hide hrh
      clear hsh hrh
      clear hb13
      have Nh : Xh = [] := ri_none Rh.out (fun y h => h.2 h.1)
      subst Nh
      go_wp2_with fail
      go_ret
      exact ⟨rfl, B13.out⟩
end Go.Proofs.Ytddphbbmccfblaa
