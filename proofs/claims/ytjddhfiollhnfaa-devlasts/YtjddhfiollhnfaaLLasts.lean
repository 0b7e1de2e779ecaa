/-
  The law DevLasts, walked.
-/
import Derived.Test.YtjddhfiollhnfaaDV4
import Derived.Deep.RegionWith
import Derived.OpenShut
namespace Go.Proofs.Ytjddhfiollhnfaa
open Go.RowKit

theorem restart_synced (x : List UInt8) (k : Int) : Dv.restart ⟨x, 0, -1, false⟩ k = ⟨x, 0, -1, false⟩ := by
  unfold Dv.restart Dv.kept
  congr 1
  show x.take (x.length - 0 + min k.toNat 0) = x
  rw [Nat.min_zero, Nat.add_zero, Nat.sub_zero, List.take_length]
theorem kept_lasts (a b : List UInt8) (keep : Int) : Dv.restart ⟨a ++ b, b.length, -1, false⟩ keep = ⟨a ++ b.take (min keep.toNat b.length), 0, -1, false⟩ := by
  unfold Dv.restart Dv.kept
  congr 1
  show (a ++ b).take ((a ++ b).length - b.length + min keep.toNat b.length) = _
  rw [List.length_append, Nat.add_sub_cancel, List.take_append, List.take_of_length_le (by omega)]
  congr 2
  omega
/-- A beginning of bytes that are read. -/
theorem IsBytes.take {w : World} {p : Option Addr} {n c : Nat} {l : List UInt8} (h : IsBytes w (.slice p n c) l) (k : Nat) (hk : k ≤ n) : IsBytes w (.slice p k c) (l.take k) := by
  have hl := h.len
  rcases h with ⟨e, rfl⟩ | ⟨x, cap, e, hc⟩
  · injection e with e1 e2 e3
    refine .inl ⟨?_, by simp⟩
    have : k = 0 := by simp at hl; omega
    rw [e1, e3, this]
  · injection e with e1 e2 e3
    have hlen : (l.take k).length = k := by rw [List.length_take]; omega
    refine .inr ⟨x, c, by rw [e1, hlen], fun j hj => ?_⟩
    rw [hlen] at hj
    rw [List.getElem_take]
    exact hc j (by omega)

set_option maxHeartbeats 4000000 in
theorem lasts_walk (pa : Option Addr) (na ca : Nat) (a : List UInt8) (pb : Option Addr) (nb cb : Nat) (b : List UInt8) (keep : Int) (w : World) (ha : IsBytes w (.slice pa na ca) a) (hb : IsBytes w (.slice pb nb cb) b) (hcb : nb ≤ cb) (hkeep : (Lit.int .i64 keep).wf = true) :
    Calls Try.prog 4 #[.slice pa na ca, .slice pb nb cb, .int .i64 keep] w fun e w' => e = .returned (.bool true) ∧ Below w.heap.size w w' := by
  have HLA := hide ha.len
  have HLB := hide hb.len
  have HA := hide ha
  have HB := hide hb
  have hwkeep := Go.bounds_i64 hkeep
  clear ha hb hkeep
  by_cases h1 : (na : Int) ≤ 20000
  · have e1 : decide ((20000 : Int) < (na : Int)) = false := by simp; omega
    by_cases h2 : (nb : Int) ≤ 20000
    · have e2 : decide ((20000 : Int) < (nb : Int)) = false := by simp; omega
      have H1 : Hid (na ≤ 20000) := hide (by omega)
      have H2 : Hid (nb ≤ 20000) := hide (by omega)
      have H2' : Hid (nb ≤ cb) := hide hcb
      obtain ⟨KB, hKB⟩ : ∃ KB, KB = b.take (min keep.toNat b.length) := ⟨_, rfl⟩
      obtain ⟨SA, hSA⟩ : ∃ SA : ByteArray, SA = ⟨a.toArray⟩ := ⟨_, rfl⟩
      obtain ⟨SK, hSK⟩ : ∃ SK : ByteArray, SK = ⟨KB.toArray⟩ := ⟨_, rfl⟩
      obtain ⟨SS, hSS⟩ : ∃ SS : ByteArray, SS = ⟨(a ++ KB).toArray⟩ := ⟨_, rfl⟩
      have hsum : SA ++ SK = SS := by rw [hSA, hSK, hSS]; exact ByteArray.mk_append_mk a KB
      have hsA : SA.size ≤ 20000 := by rw [hSA]; show a.toArray.size ≤ _; rw [List.size_toArray]; have := HLA.out; have := H1.out; omega
      have hsK : SK.size ≤ 20000 := by rw [hSK]; show KB.toArray.size ≤ _; rw [List.size_toArray, hKB, List.length_take]; have := HLB.out; have := H2.out; omega
      have HKB := hide hKB
      have HSA := hide hSA
      have HSK := hide hSK
      have HSS := hide hSS
      clear h1 h2 hKB hSA hSK hSS hcb
      go_enter Try.func4, Try.ntmps4
      go_wp2_with fail
      refine (awake_any w).mono ?_
      rintro e w1 ⟨rfl, hb1⟩
      have HB1 := hide hb1
      clear hb1
      go_wp2_with fail
      refine (dnew w1).mono ?_
      rintro e w2 ⟨rfl, hd2, hb2⟩
      have HD2 : Hid (Dev w2 w1.heap.size w2.heap.size w1.heap.size ⟨[], 0, -1, false⟩) := hide hd2
      have HB2 := hide (HB1.out.trans (hb2.mono HB1.out.size))
      clear hd2 hb2
      go_wp2_with fail
      refine (dapp HD2.out _ a (HA.out.below HB2.out) (arg_ok HA.out HB1.out.size _) (by have := HLA.out; have := H1.out; omega) (⟨a, a.length, -1, false⟩, 0) (by simpa using app_ok [] a 0 (by have := HLA.out; have := H1.out; simp; omega))).mono ?_
      rintro e w3 ⟨rfl, hd3, hb3⟩
      have HD3 : Hid (Dev w3 w1.heap.size w3.heap.size w1.heap.size ⟨a, a.length, -1, false⟩) := hide hd3
      have HB3 := hide (HB2.out.trans (hb3.mono HB1.out.size))
      clear hd3 hb3
      go_wp2_with fail
      refine (dsync HD3.out (⟨a, 0, -1, false⟩, 0) rfl).mono ?_
      rintro e w4 ⟨rfl, hd4, hb4⟩
      have HD4 : Hid (Dev w4 w1.heap.size w4.heap.size w1.heap.size ⟨a, 0, -1, false⟩) := hide hd4
      have HB4 := hide (HB3.out.trans (hb4.mono HB1.out.size))
      clear hd4 hb4
      go_wp2_with fail
      refine (dapp HD4.out _ b (HB.out.below HB4.out) (arg_ok HB.out HB1.out.size _) (by have := HLB.out; have := H2.out; omega) (⟨a ++ b, b.length, -1, false⟩, 0) (by simpa using app_ok a b 0 (by have := HLA.out; have := H1.out; have := HLB.out; have := H2.out; omega))).mono ?_
      rintro e w5 ⟨rfl, hd5, hb5⟩
      have HD5 : Hid (Dev w5 w1.heap.size w5.heap.size w1.heap.size ⟨a ++ b, b.length, -1, false⟩) := hide hd5
      have HB5 := hide (HB4.out.trans (hb5.mono HB1.out.size))
      clear hd5 hb5
      go_wp2_with fail
      refine (drestart HD5.out keep hwkeep ⟨a ++ KB, 0, -1, false⟩ (by rw [kept_lasts, HKB.out])).mono ?_
      rintro e w6 ⟨rfl, hd6, hb6⟩
      have HD6 : Hid (Dev w6 w1.heap.size w6.heap.size w1.heap.size ⟨a ++ KB, 0, -1, false⟩) := hide hd6
      have HB6 := hide (HB5.out.trans (hb6.mono HB1.out.size))
      clear hd6 hb6
      go_wp2_with fail
      rcases Int.lt_or_le keep 0 with hk | hk
      · have hca : (convert 28 9 (.slice pa na ca)).run Try.prog w6.drew = .ok (.string SA) w6.drew := by rw [HSA.out]; exact (HA.out.below HB6.out.drew).conv
        have hix : ((0 : Nat) : Int) ≤ (cb : Int) := by have := H2'.out; omega
        have hck : (convert 28 9 (.slice pb 0 cb)).run Try.prog w6.drew = .ok (.string SK) w6.drew := by
          have h := (IsBytes.take (HB.out.below HB6.out.drew) 0 (by have := H2'.out; omega)).conv
          rw [show b.take 0 = KB by rw [HKB.out]; congr 1; have := HLB.out; omega, ← HSK.out] at h
          exact h
        go_region
        have HB7 := hide HB6.out.drew
        have HD7 := hide (HD6.out.below (bel_one w6))
        clear hca hck
        go_wp2_with fail
        refine (dbytes HD7.out).mono ?_
        rintro e w8 ⟨rfl, _, hcv, hd8, hb8⟩
        have hcv : (convert 28 9 (.slice (some ⟨w6.heap.size, 0, none⟩) (a.length + KB.length) (a.length + KB.length))).run Try.prog w8 = .ok (.string SS) w8 := by rw [HSS.out, ← List.length_append]; exact hcv
        have HD8 := hide hd8
        have HB8 := hide (HB7.out.trans (hb8.mono HB6.out.size))
        clear hd8 hb8
        go_wp2_with fail
        refine (drestart HD8.out 0 (by decide) ⟨a ++ KB, 0, -1, false⟩ (restart_synced _ 0)).mono ?_
        rintro e w9 ⟨rfl, hd9, hb9⟩
        have HD9 := hide hd9
        have HB9 := hide (HB8.out.trans (hb9.mono HB1.out.size))
        clear hd9 hb9 hcv
        go_wp2_with fail
        refine (dbytes HD9.out).mono ?_
        rintro e w10 ⟨rfl, _, hcv, hd10, hb10⟩
        have hcv : (convert 28 9 (.slice (some ⟨w9.heap.size, 0, none⟩) (a.length + KB.length) (a.length + KB.length))).run Try.prog w10 = .ok (.string SS) w10 := by rw [HSS.out, ← List.length_append]; exact hcv
        have HD10 := hide hd10
        have HB10 := hide (HB9.out.trans (hb10.mono HB9.out.size))
        clear hd10 hb10
        go_wp2_with fail
        refine (doff HD10.out).mono ?_
        rintro e w11 ⟨rfl, rfl⟩
        go_wp2_with fail
        go_ret
        exact ⟨rfl, HB10.out⟩
      · rcases Int.lt_or_le (nb : Int) keep with hk2 | hk2
        · have hca : (convert 28 9 (.slice pa na ca)).run Try.prog w6.drew = .ok (.string SA) w6.drew := by rw [HSA.out]; exact (HA.out.below HB6.out.drew).conv
          have hix : ((nb : Nat) : Int) ≤ (cb : Int) := by have := H2'.out; omega
          have hck : (convert 28 9 (.slice pb nb cb)).run Try.prog w6.drew = .ok (.string SK) w6.drew := by
            have h := (IsBytes.take (HB.out.below HB6.out.drew) nb (by have := H2'.out; omega)).conv
            rw [show b.take nb = KB by rw [HKB.out]; congr 1; have := HLB.out; omega, ← HSK.out] at h
            exact h
          go_region
          have HB7 := hide HB6.out.drew
          have HD7 := hide (HD6.out.below (bel_one w6))
          clear hca hck
          go_wp2_with fail
          refine (dbytes HD7.out).mono ?_
          rintro e w8 ⟨rfl, _, hcv, hd8, hb8⟩
          have hcv : (convert 28 9 (.slice (some ⟨w6.heap.size, 0, none⟩) (a.length + KB.length) (a.length + KB.length))).run Try.prog w8 = .ok (.string SS) w8 := by rw [HSS.out, ← List.length_append]; exact hcv
          have HD8 := hide hd8
          have HB8 := hide (HB7.out.trans (hb8.mono HB6.out.size))
          clear hd8 hb8
          go_wp2_with fail
          refine (drestart HD8.out 0 (by decide) ⟨a ++ KB, 0, -1, false⟩ (restart_synced _ 0)).mono ?_
          rintro e w9 ⟨rfl, hd9, hb9⟩
          have HD9 := hide hd9
          have HB9 := hide (HB8.out.trans (hb9.mono HB1.out.size))
          clear hd9 hb9 hcv
          go_wp2_with fail
          refine (dbytes HD9.out).mono ?_
          rintro e w10 ⟨rfl, _, hcv, hd10, hb10⟩
          have hcv : (convert 28 9 (.slice (some ⟨w9.heap.size, 0, none⟩) (a.length + KB.length) (a.length + KB.length))).run Try.prog w10 = .ok (.string SS) w10 := by rw [HSS.out, ← List.length_append]; exact hcv
          have HD10 := hide hd10
          have HB10 := hide (HB9.out.trans (hb10.mono HB9.out.size))
          clear hd10 hb10
          go_wp2_with fail
          refine (doff HD10.out).mono ?_
          rintro e w11 ⟨rfl, rfl⟩
          go_wp2_with fail
          go_ret
          exact ⟨rfl, HB10.out⟩
        · obtain ⟨kk, rfl⟩ : ∃ kk : Nat, keep = (kk : Int) := ⟨keep.toNat, by omega⟩
          have hca : (convert 28 9 (.slice pa na ca)).run Try.prog w6.drew = .ok (.string SA) w6.drew := by rw [HSA.out]; exact (HA.out.below HB6.out.drew).conv
          have hix : ((kk : Nat) : Int) ≤ (cb : Int) := by have := H2'.out; omega
          have hck : (convert 28 9 (.slice pb kk cb)).run Try.prog w6.drew = .ok (.string SK) w6.drew := by
            have h := (IsBytes.take (HB.out.below HB6.out.drew) kk (by have := H2'.out; omega)).conv
            rw [show b.take kk = KB by rw [HKB.out]; congr 1; have := HLB.out; omega, ← HSK.out] at h
            exact h
          go_region
          have HB7 := hide HB6.out.drew
          have HD7 := hide (HD6.out.below (bel_one w6))
          clear hca hck
          go_wp2_with fail
          refine (dbytes HD7.out).mono ?_
          rintro e w8 ⟨rfl, _, hcv, hd8, hb8⟩
          have hcv : (convert 28 9 (.slice (some ⟨w6.heap.size, 0, none⟩) (a.length + KB.length) (a.length + KB.length))).run Try.prog w8 = .ok (.string SS) w8 := by rw [HSS.out, ← List.length_append]; exact hcv
          have HD8 := hide hd8
          have HB8 := hide (HB7.out.trans (hb8.mono HB6.out.size))
          clear hd8 hb8
          go_wp2_with fail
          refine (drestart HD8.out 0 (by decide) ⟨a ++ KB, 0, -1, false⟩ (restart_synced _ 0)).mono ?_
          rintro e w9 ⟨rfl, hd9, hb9⟩
          have HD9 := hide hd9
          have HB9 := hide (HB8.out.trans (hb9.mono HB1.out.size))
          clear hd9 hb9 hcv
          go_wp2_with fail
          refine (dbytes HD9.out).mono ?_
          rintro e w10 ⟨rfl, _, hcv, hd10, hb10⟩
          have hcv : (convert 28 9 (.slice (some ⟨w9.heap.size, 0, none⟩) (a.length + KB.length) (a.length + KB.length))).run Try.prog w10 = .ok (.string SS) w10 := by rw [HSS.out, ← List.length_append]; exact hcv
          have HD10 := hide hd10
          have HB10 := hide (HB9.out.trans (hb10.mono HB9.out.size))
          clear hd10 hb10
          go_wp2_with fail
          refine (doff HD10.out).mono ?_
          rintro e w11 ⟨rfl, rfl⟩
          go_wp2_with fail
          go_ret
          exact ⟨rfl, HB10.out⟩
    · have e2 : decide ((20000 : Int) < (nb : Int)) = true := by simp; omega
      clear h1 h2
      go_enter Try.func4, Try.ntmps4
      go_wp2_with fail
      refine (awake_any w).mono ?_
      rintro e w1 ⟨rfl, hb1⟩
      have HB1 := hide hb1
      clear hb1
      go_wp2_with fail
      refine (dnew w1).mono ?_
      rintro e w2 ⟨rfl, hd2, hb2⟩
      have HD2 : Hid (Dev w2 w1.heap.size w2.heap.size w1.heap.size ⟨[], 0, -1, false⟩) := hide hd2
      have HB2 := hide (HB1.out.trans (hb2.mono HB1.out.size))
      clear hd2 hb2
      go_wp2_with fail
      go_ret
      exact ⟨rfl, HB2.out⟩
  · have e1 : decide ((20000 : Int) < (na : Int)) = true := by simp; omega
    clear h1
    go_enter Try.func4, Try.ntmps4
    go_wp2_with fail
    refine (awake_any w).mono ?_
    rintro e w1 ⟨rfl, hb1⟩
    have HB1 := hide hb1
    clear hb1
    go_wp2_with fail
    refine (dnew w1).mono ?_
    rintro e w2 ⟨rfl, hd2, hb2⟩
    have HD2 : Hid (Dev w2 w1.heap.size w2.heap.size w1.heap.size ⟨[], 0, -1, false⟩) := hide hd2
    have HB2 := hide (HB1.out.trans (hb2.mono HB1.out.size))
    clear hd2 hb2
    go_wp2_with fail
    go_ret
    exact ⟨rfl, HB2.out⟩
end Go.Proofs.Ytjddhfiollhnfaa
