/-
  The law DigestRises.
-/
import Derived.Test.YtddphbbmccfblaaDL0
namespace Go.Proofs.Ytddphbbmccfblaa
open Go.RowKit
open Utf1
open Pol8 hiding text right Right
open Dg16

set_option maxRecDepth 100000 in
set_option maxHeartbeats 16000000 in
theorem rises_walk (hL : LacksC) (hJ : JoinC) (hS : ShortC) {v u : Value} {ls bs : List ByteArray} (w : World) (hv : StrArg w v ls) (hu : StrArg w u bs) :
    Calls Try.prog 6 #[v, u] w fun e w' => e = .returned (.bool true) ∧ Below w.heap.size w w' := by
  have HL := hide hL
  have HJ := hide hJ
  have HS := hide hS
  have HV := hide hv
  have HU := hide hu
  obtain ⟨pa, ca, rfl⟩ := strArg_shape hv
  obtain ⟨pb, cb, rfl⟩ := strArg_shape hu
  clear hL hJ hS hv hu
  have B0 : Hid (Below w.heap.size w w) := hide (Below.refl _ _)
  go_enter Try.func6, Try.ntmps6
  go_wp2_with fail
  refine (dawake_any HL.out HJ.out HS.out w).mono ?_
  rintro e w1 ⟨rfl, hb1⟩
  have B1 := hide (bel2 B0.out hb1)
  clear hb1
  go_wp2_with fail
  refine (light_any _ ls w1 (HV.out.below B1.out)).mono ?_
  rintro e w2 ⟨⟨b1, rfl, hlb1⟩, hb2⟩
  have B2 := hide (bel2 B1.out hb2)
  have Lb1 := hide hlb1
  clear hlb1
  clear hb2
  go_wp2_with fail
  refine (light_any _ bs w2 (HU.out.below B2.out)).mono ?_
  rintro e w3 ⟨⟨b2, rfl, hlb2⟩, hb3⟩
  have B3 := hide (bel2 B2.out hb3)
  have Lb2 := hide hlb2
  clear hlb2
  clear hb3
  cases b1 with
  | false =>
    go_wp2_with fail
    go_ret
    exact ⟨rfl, B3.out⟩
  | true =>
  cases b2 with
  | false =>
    go_wp2_with fail
    go_ret
    exact ⟨rfl, B3.out⟩
  | true =>
  have T1 : Hid (Lt3 ls) := hide (Lb1.out rfl)
  have T2 : Hid (Lt3 bs) := hide (Lb2.out rfl)
  clear Lb1 Lb2
  go_wp2_with fail
  refine (HJ.out _ _ ls bs w3 T1.out.few T2.out.few (HV.out.below B3.out) (HU.out.below B3.out)).mono ?_
  rintro e w4 ⟨⟨vj, Xj, rfl, hsj, hrj⟩, hb4⟩
  have B4 := hide (bel2 B3.out hb4)
  obtain ⟨pj, cj, rfl⟩ := strArg_shape hsj
  have Hj := hide hsj
  have Rj := hide hrj
  clear hsj hrj
  clear hb4
  go_wp2_with fail
  refine (HL.out _ _ ls bs w4 T1.out.few T2.out.few (HV.out.below B4.out) (HU.out.below B4.out)).mono ?_
  rintro e w5 ⟨⟨vx, Xx, rfl, hsx, hrx⟩, hb5⟩
  have B5 := hide (bel2 B4.out hb5)
  have Hjw5 := hide (Hj.out.below hb5)
  clear Hj
  obtain ⟨px, cx, rfl⟩ := strArg_shape hsx
  have Hx := hide hsx
  have Rx := hide hrx
  clear hsx hrx
  clear hb5
  have Fx : Hid (Few Xx) := hide (few_ri Rx.out (fun y h => .inr h.1) T1.out T2.out)
  have Fj : Hid (Few Xj) := hide (few_ri Rj.out (fun y h => h) T1.out T2.out)
  obtain ⟨M, hM⟩ : ∃ N, N = Xj.length := ⟨_, rfl⟩
  have Hjn : Hid (StrArg w5 (.slice pj M cj) Xj) := hide (by rw [hM]; exact Hjw5.out)
  have HM := hide hM
  have hM4 : M ≤ 10000 := by rw [hM]; exact Fj.out.1
  rw [← hM]
  clear hM Hjw5
  obtain ⟨N, hN⟩ : ∃ N, N = Xx.length := ⟨_, rfl⟩
  have Hxn : Hid (StrArg w5 (.slice px N cx) Xx) := hide (by rw [hN]; exact Hx.out)
  have HN := hide hN
  have hN4 : N ≤ 10000 := by rw [hN]; exact Fx.out.1
  rw [← hN]
  clear hN Hx
  go_wp2_with fail
  go_loopg [10] M (fun g v10 wr => ∃ m : Nat, m + g = M ∧ v10 = .int .i64 ((m + 1 : Nat) : Int) ∧ Hid (Below w5.heap.size w5 wr))
  case atStart => exact ⟨0, by omega, rfl, hide (Below.refl _ _)⟩
  case round =>
    obtain ⟨m, hm, rfl, HI⟩ := hrel
    by_cases hlt : m + 1 < M
    · have dlt : decide (((m : Int) + 1) < (M : Int)) = true := decide_eq_true (by omega)
      obtain ⟨x, hgx⟩ : ∃ x, Xj[m]? = some x := ⟨_, List.getElem?_eq_getElem (by have := HM.out; omega)⟩
      obtain ⟨y, hgy⟩ : ∃ y, Xj[m + 1]? = some y := ⟨_, List.getElem?_eq_getElem (by have := HM.out; omega)⟩
      obtain ⟨b1, o1, hp1, k1⟩ := strArg_cell (Hjn.out.below HI.out) hgx
      subst hp1
      obtain ⟨b2, o2, hp2, k2⟩ := strArg_cell (Hjn.out.below HI.out) hgy
      injection hp2 with hp2
      injection hp2 with hq1 hq2
      subst hq1 hq2
      have h1 : Op.bytesLess x.toList y.toList = true := by
        rw [dless_is]
        exact chain_at (Xj.map bl) m _ _ Rj.out.ch (by rw [List.getElem?_map, hgx]; rfl) (by rw [List.getElem?_map, hgy]; rfl)
      have hmN : m < M := by omega
      have ew : IntKind.i64.wrap ((m : Int) + 1 - 1) = (m : Int) := by rw [show (m : Int) + 1 - 1 = m by omega]; exact IntWalk.i64_in _ (by omega)
      have HR2 := hide (HI.out.drew)
      clear hgx hgy
      go_wp2_with fail
      go_region
      go_wp2_with fail
      go_roundg (M - (m + 1))
      case measure => omega
      case rel => exact ⟨m + 1, by omega, by first | rfl | (push_cast; rfl), HR2⟩
    · have hd : decide (((m : Int) + 1) < (M : Int)) = false := decide_eq_false (by omega)
      have Bq : Hid (Below w.heap.size w wr) := hide (bel2 B5.out HI.out)
      have Hj2 := hide (Hjn.out.below HI.out)
      have Hx2 := hide (Hxn.out.below HI.out)
      clear HI Hjn Hxn
      go_wp2_with fail
      obtain ⟨wo, hwo⟩ : ∃ z, z = wr := ⟨_, rfl⟩
      subst hwo
      go_loopg [11] N (fun g v11 wr => ∃ m : Nat, m + g = N ∧ v11 = .int .i64 ((m + 1 : Nat) : Int) ∧ Hid (Below wo.heap.size wo wr))
      case atStart => exact ⟨0, by omega, rfl, hide (Below.refl _ _)⟩
      case round =>
        obtain ⟨m, hm, rfl, HI⟩ := hrel
        by_cases hlt : m + 1 < N
        · have dlt : decide (((m : Int) + 1) < (N : Int)) = true := decide_eq_true (by omega)
          obtain ⟨x, hgx⟩ : ∃ x, Xx[m]? = some x := ⟨_, List.getElem?_eq_getElem (by have := HN.out; omega)⟩
          obtain ⟨y, hgy⟩ : ∃ y, Xx[m + 1]? = some y := ⟨_, List.getElem?_eq_getElem (by have := HN.out; omega)⟩
          obtain ⟨b1, o1, hp1, k1⟩ := strArg_cell (Hx2.out.below HI.out) hgx
          subst hp1
          obtain ⟨b2, o2, hp2, k2⟩ := strArg_cell (Hx2.out.below HI.out) hgy
          injection hp2 with hp2
          injection hp2 with hq1 hq2
          subst hq1 hq2
          have h1 : Op.bytesLess x.toList y.toList = true := by
            rw [dless_is]
            exact chain_at (Xx.map bl) m _ _ Rx.out.ch (by rw [List.getElem?_map, hgx]; rfl) (by rw [List.getElem?_map, hgy]; rfl)
          have hmN : m < N := by omega
          have ew : IntKind.i64.wrap ((m : Int) + 1 - 1) = (m : Int) := by rw [show (m : Int) + 1 - 1 = m by omega]; exact IntWalk.i64_in _ (by omega)
          have HR2 := hide (HI.out.drew)
          clear hgx hgy
          go_wp2_with fail
          go_region
          go_wp2_with fail
          go_roundg (N - (m + 1))
          case measure => omega
          case rel => exact ⟨m + 1, by omega, by first | rfl | (push_cast; rfl), HR2⟩
        · have hd : decide (((m : Int) + 1) < (N : Int)) = false := decide_eq_false (by omega)
          have Br : Hid (Below w.heap.size w wr) := hide (bel2 Bq.out HI.out)
          have Hj3 := hide (Hj2.out.below HI.out)
          clear HI Hj2 Hx2
          have B6 := Br
          go_wp2_with fail
          refine (HJ.out _ _ Xj Xj wr Fj.out Fj.out Hj3.out Hj3.out).mono ?_
          rintro e w7 ⟨⟨vc, Xc, rfl, hsc, hrc⟩, hb7⟩
          have B7 := hide (bel2 B6.out hb7)
          have Hjw7 := hide (Hj3.out.below hb7)
          clear Hj3
          obtain ⟨pc, cc, rfl⟩ := strArg_shape hsc
          have Hc := hide hsc
          have Rc := hide hrc
          clear hsc hrc
          clear hb7
          have Fc : Hid (Few Xc) := hide (by rw [ri_same Rc.out Rj.out (fun y => ⟨fun h => (Rj.out.mem y).1 (h.elim id id), fun h => .inl ((Rj.out.mem y).2 h)⟩)]; exact Fj.out)
          have EQ7 : Hid (Xc = Xj) := hide (ri_same Rc.out Rj.out (fun y => ⟨fun h => (Rj.out.mem y).1 (h.elim id id), fun h => .inl ((Rj.out.mem y).2 h)⟩))
          go_wp2_with fail
          refine (same_any w7 _ _ Xc Xj Hc.out Hjw7.out (few_len Fc.out) true (decide_eq_true EQ7.out).symm).mono ?_
          clear EQ7
          rintro e w8 ⟨rfl, hb8⟩
          have B8 := hide (bel2 B7.out hb8)
          have Hjw8 := hide (Hjw7.out.below hb8)
          clear Hjw7
          have Hcw8 := hide (Hc.out.below hb8)
          clear Hc
          clear hb8
          go_wp2_with fail
          go_ret
          exact ⟨rfl, B8.out⟩
end Go.Proofs.Ytddphbbmccfblaa
