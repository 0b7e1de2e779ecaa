/-
  The law DevTwice, walked.
-/
import Derived.Test.YtjddhfiollhnfaaDV4
import Derived.Deep.RegionWith
import Derived.OpenShut
namespace Go.Proofs.Ytjddhfiollhnfaa
open Go.RowKit

set_option maxHeartbeats 4000000 in
theorem twice_walk (pa : Option Addr) (na ca : Nat) (a : List UInt8) (pb : Option Addr) (nb cb : Nat) (b : List UInt8) (t : Bool) (w : World) (ha : IsBytes w (.slice pa na ca) a) (hb : IsBytes w (.slice pb nb cb) b) :
    Calls Try.prog 8 #[.slice pa na ca, .slice pb nb cb, .bool t] w fun e w' => e = .returned (.bool true) ∧ Below w.heap.size w w' := by
  have HLA := hide ha.len
  have HLB := hide hb.len
  have HA := hide ha
  have HB := hide hb
  clear ha hb
  by_cases h1 : (na : Int) ≤ 10000
  · have e1 : decide ((10000 : Int) < (na : Int)) = false := by simp; omega
    by_cases h2 : (nb : Int) ≤ 10000
    · have e2 : decide ((10000 : Int) < (nb : Int)) = false := by simp; omega
      have H1 : Hid (na ≤ 10000) := hide (by omega)
      have H2 : Hid (nb ≤ 10000) := hide (by omega)
      clear h1 h2
      go_enter Try.func8, Try.ntmps8
      go_wp2_with fail
      refine (awake_any w).mono ?_
      rintro e w1 ⟨rfl, hb1⟩
      have HB1 := hide hb1
      clear hb1
      go_wp2_with fail
      refine (dnew w1).mono ?_
      rintro e w2 ⟨rfl, hd2, hb2⟩
      have HD2 : Hid (Dev w2 w1.heap.size w2.heap.size w1.heap.size ⟨[], 0, -1, false⟩) := hide hd2
      have HB2 := hide (HB1.out.trans (hb2.mono HB1.out.size))
      clear hd2 hb2
      go_wp2_with fail
      refine (dapp HD2.out _ a (HA.out.below HB2.out) (arg_ok HA.out HB1.out.size _) (by have := HLA.out; have := H1.out; omega) (⟨a, a.length, -1, false⟩, 0) (by simpa using app_ok [] a 0 (by have := HLA.out; have := H1.out; simp; omega))).mono ?_
      rintro e w3 ⟨rfl, hd3, hb3⟩
      have HD3 : Hid (Dev w3 w1.heap.size w3.heap.size w1.heap.size ⟨a, a.length, -1, false⟩) := hide hd3
      have HB3 := hide (HB2.out.trans (hb3.mono HB1.out.size))
      clear hd3 hb3
      cases t with
      | true =>
        go_wp2_with fail
        refine (dtrim HD3.out (na : Int) (by have := H1.out; omega) (⟨a, 0, -1, false⟩, 0) (by have h := trim_ok a a.length na (by have := HLA.out; omega); rw [h, HLA.out, List.take_length])).mono ?_
        rintro e w4 ⟨rfl, hd4, hb4⟩
        have HD4 : Hid (Dev w4 w1.heap.size w4.heap.size w1.heap.size ⟨a, 0, -1, false⟩) := hide hd4
        have HB4 := hide (HB3.out.trans (hb4.mono HB1.out.size))
        clear hd4 hb4
        go_wp2_with fail
        refine (dapp HD4.out _ b (HB.out.below HB4.out) (arg_ok HB.out HB1.out.size _) (by have := HLB.out; have := H2.out; omega) (⟨a ++ b, b.length, -1, false⟩, 0) (by simpa using app_ok a b 0 (by have := HLA.out; have := H1.out; have := HLB.out; have := H2.out; omega))).mono ?_
        rintro e w5 ⟨rfl, hd5, hb5⟩
        have HD5 : Hid (Dev w5 w1.heap.size w5.heap.size w1.heap.size ⟨a ++ b, b.length, -1, false⟩) := hide hd5
        have HB5 := hide (HB4.out.trans (hb5.mono HB1.out.size))
        clear hd5 hb5
        go_wp2_with fail
        refine (drestart HD5.out 0 (by decide) ⟨a, 0, -1, false⟩ (by simp [Dv.restart, Dv.kept])).mono ?_
        rintro e w6 ⟨rfl, hd6, hb6⟩
        have HD6 : Hid (Dev w6 w1.heap.size w6.heap.size w1.heap.size ⟨a, 0, -1, false⟩) := hide hd6
        have HB6 := hide (HB5.out.trans (hb6.mono HB1.out.size))
        clear hd6 hb6
        go_wp2_with fail
        have hca : (convert 28 9 (.slice pa na ca)).run Try.prog w6.drew = .ok (.string ⟨a.toArray⟩) w6.drew := (HA.out.below HB6.out.drew).conv
        go_region_with (go_at_call 22; refine (dbytes (HD6.out.below (bel_one _))).mono ?_; rintro e wb ⟨rfl, _, hcv, hd, hb⟩; have hcv : (convert 28 9 (.slice (some ⟨w6.heap.size, 0, none⟩) a.length a.length)).run Try.prog wb = .ok (.string ⟨a.toArray⟩) wb := hcv; have hcb : (convert 28 9 (.slice pa na ca)).run Try.prog wb = .ok (.string ⟨a.toArray⟩) wb := (HA.out.below (HB6.out.drew.trans (hb.mono HB6.out.size))).conv; have HBE := hide (HB6.out.drew.trans (hb.mono HB6.out.size)); clear hb hd)
        all_goals go_wp2_with fail
        all_goals go_ret
        all_goals exact ⟨rfl, HBE.out⟩
      | false =>
        go_wp2_with fail
        refine (dsync HD3.out (⟨a, 0, -1, false⟩, 0) rfl).mono ?_
        rintro e w4 ⟨rfl, hd4, hb4⟩
        have HD4 : Hid (Dev w4 w1.heap.size w4.heap.size w1.heap.size ⟨a, 0, -1, false⟩) := hide hd4
        have HB4 := hide (HB3.out.trans (hb4.mono HB1.out.size))
        clear hd4 hb4
        go_wp2_with fail
        refine (dsync HD4.out (⟨a, 0, -1, false⟩, 0) rfl).mono ?_
        rintro e w5 ⟨rfl, hd5, hb5⟩
        have HD5 : Hid (Dev w5 w1.heap.size w5.heap.size w1.heap.size ⟨a, 0, -1, false⟩) := hide hd5
        have HB5 := hide (HB4.out.trans (hb5.mono HB1.out.size))
        clear hd5 hb5
        go_wp2_with fail
        refine (dapp HD5.out _ b (HB.out.below HB5.out) (arg_ok HB.out HB1.out.size _) (by have := HLB.out; have := H2.out; omega) (⟨a ++ b, b.length, -1, false⟩, 0) (by simpa using app_ok a b 0 (by have := HLA.out; have := H1.out; have := HLB.out; have := H2.out; omega))).mono ?_
        rintro e w6 ⟨rfl, hd6, hb6⟩
        have HD6 : Hid (Dev w6 w1.heap.size w6.heap.size w1.heap.size ⟨a ++ b, b.length, -1, false⟩) := hide hd6
        have HB6 := hide (HB5.out.trans (hb6.mono HB1.out.size))
        clear hd6 hb6
        go_wp2_with fail
        refine (drestart HD6.out 0 (by decide) ⟨a, 0, -1, false⟩ (by simp [Dv.restart, Dv.kept])).mono ?_
        rintro e w7 ⟨rfl, hd7, hb7⟩
        have HD7 : Hid (Dev w7 w1.heap.size w7.heap.size w1.heap.size ⟨a, 0, -1, false⟩) := hide hd7
        have HB7 := hide (HB6.out.trans (hb7.mono HB1.out.size))
        clear hd7 hb7
        go_wp2_with fail
        have hca : (convert 28 9 (.slice pa na ca)).run Try.prog w7.drew = .ok (.string ⟨a.toArray⟩) w7.drew := (HA.out.below HB7.out.drew).conv
        go_region_with (go_at_call 22; refine (dbytes (HD7.out.below (bel_one _))).mono ?_; rintro e wb ⟨rfl, _, hcv, hd, hb⟩; have hcv : (convert 28 9 (.slice (some ⟨w7.heap.size, 0, none⟩) a.length a.length)).run Try.prog wb = .ok (.string ⟨a.toArray⟩) wb := hcv; have hcb : (convert 28 9 (.slice pa na ca)).run Try.prog wb = .ok (.string ⟨a.toArray⟩) wb := (HA.out.below (HB7.out.drew.trans (hb.mono HB7.out.size))).conv; have HBE := hide (HB7.out.drew.trans (hb.mono HB7.out.size)); clear hb hd)
        all_goals go_wp2_with fail
        all_goals go_ret
        all_goals exact ⟨rfl, HBE.out⟩
    · have e2 : decide ((10000 : Int) < (nb : Int)) = true := by simp; omega
      clear h1 h2
      go_enter Try.func8, Try.ntmps8
      go_wp2_with fail
      refine (awake_any w).mono ?_
      rintro e w1 ⟨rfl, hb1⟩
      have HB1 := hide hb1
      clear hb1
      go_wp2_with fail
      refine (dnew w1).mono ?_
      rintro e w2 ⟨rfl, hd2, hb2⟩
      have HD2 : Hid (Dev w2 w1.heap.size w2.heap.size w1.heap.size ⟨[], 0, -1, false⟩) := hide hd2
      have HB2 := hide (HB1.out.trans (hb2.mono HB1.out.size))
      clear hd2 hb2
      go_wp2_with fail
      go_ret
      exact ⟨rfl, HB2.out⟩
  · have e1 : decide ((10000 : Int) < (na : Int)) = true := by simp; omega
    clear h1
    go_enter Try.func8, Try.ntmps8
    go_wp2_with fail
    refine (awake_any w).mono ?_
    rintro e w1 ⟨rfl, hb1⟩
    have HB1 := hide hb1
    clear hb1
    go_wp2_with fail
    refine (dnew w1).mono ?_
    rintro e w2 ⟨rfl, hd2, hb2⟩
    have HD2 : Hid (Dev w2 w1.heap.size w2.heap.size w1.heap.size ⟨[], 0, -1, false⟩) := hide hd2
    have HB2 := hide (HB1.out.trans (hb2.mono HB1.out.size))
    clear hd2 hb2
    go_wp2_with fail
    go_ret
    exact ⟨rfl, HB2.out⟩
end Go.Proofs.Ytjddhfiollhnfaa
