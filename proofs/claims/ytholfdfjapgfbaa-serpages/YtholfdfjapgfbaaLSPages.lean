/-
  The document's Stable; the law SerPages, walked: it answers true at every tree.
-/
import Derived.Test.YtholfdfjapgfbaaN15
import Derived.Test.YtholfdfjapgfbaaN5
import Derived.Test.YtholfdfjapgfbaaN11
import Derived.Test.YtholfdfjapgfbaaN12
import Derived.Test.YtholfdfjapgfbaaM7
import Derived.Test.YtholfdfjapgfbaaONod
namespace Utf1
mutual
theorem dr_N : ∀ (x : Nd) (p i b : Bool), stN p i b x = true → drN x = dpN x
  | .mk n a t k, p, i, b, h => by
    rw [drN, dpN]
    by_cases hn : n = []
    · obtain ⟨_, _, _, hk⟩ := stN_text hn h
      rw [if_pos hn, if_pos hn, hk]
      rfl
    · obtain ⟨_, _, _, _, h4, h5⟩ := stN_elem hn h
      rw [if_neg hn, if_neg hn]
      by_cases hv : n ∈ voids
      · rw [h4 hv]
        rfl
      · rw [dr_L k _ _ _ (h5 hv)]
theorem dr_L : ∀ (l : List Nd) (p i b : Bool), stL p i b l = true → drL l = dpL l
  | [], _, _, _, _ => by rw [drL, dpL]
  | x :: l, p, i, b, h => by
    rw [drL, dpL, dr_N x _ _ _ (stL_cons h).1, dr_L l _ _ _ (stL_cons h).2]
end
theorem stable_dr (ns : List Nd) : (decide (ncL ns ≤ 2000) && decide (drL ns ≤ 64) && stL false false false ns) = stable ns := by
  unfold stable
  cases h : stL false false false ns with
  | false => rw [Bool.and_false, Bool.and_false]
  | true => rw [dr_L ns _ _ _ h]
end Utf1
namespace Go.Proofs.Ytholfdfjapgfbaa
open Go.RowKit
open Utf1

set_option maxRecDepth 100000 in
set_option maxHeartbeats 8000000 in
theorem rStable_nst (w : World) (v : Value) (ns : List Nd) (hk : NAt w v ns) (hw : wsL ns ≤ 20000) :
    Calls Try.prog 11 #[v] w fun e w' => e = .returned (.bool (stable ns)) ∧ Below w.heap.size w w' := by
  obtain ⟨D, hk⟩ := hk
  have hc := ncL_ws ns
  have HSZ := hide (rsize_nst D w v ns hk (by omega))
  have HAS : Hid (∀ wx, Below w.heap.size w wx → Calls Try.prog 22 #[v, .slice none 0 0] wx fun e w' => e = .returned (.bool (stL false false false ns)) ∧ Below wx.heap.size wx w') := hide (fun wx hx => rstable_nst D wx v ns (.slice none 0 0) [] (hk.below hx) (srow_nil wx) (by simp; omega))
  have hd := drL_nc ns
  have HST := hide (stable_dr ns).symm
  obtain ⟨R, hR⟩ : ∃ R, R = stable ns := ⟨_, rfl⟩
  rw [← hR] at HST ⊢
  obtain ⟨A, hA⟩ : ∃ A, A = stL false false false ns := ⟨_, rfl⟩
  obtain ⟨n, hn⟩ : ∃ n, n = ncL ns := ⟨_, rfl⟩
  obtain ⟨d, hdd⟩ : ∃ d, d = drL ns := ⟨_, rfl⟩
  rw [← hA] at HAS HST
  rw [← hn, ← hdd] at HSZ HST hd
  rw [← hn] at hc
  clear hk hR hA hn hdd
  by_cases h1 : n ≤ 2000
  · by_cases h2 : d ≤ 64
    · have HR : Hid (R = A) := hide (by rw [HST.out, decide_eq_true h1, decide_eq_true h2]; rfl)
      clear HST
      go_enter Try.func11, Try.ntmps11
      go_wp2_with fail
      refine HSZ.out.mono ?_
      rintro e w1 ⟨rfl, hb1⟩
      have HA1 := hide (HAS.out w1 hb1)
      have HB1 := hide hb1
      clear hb1 HAS HSZ
      go_wp2_with fail
      refine HA1.out.mono ?_
      rintro e w2 ⟨rfl, hb2⟩
      have HB2 := hide (bel2 HB1.out hb2)
      clear hb2 HA1 HB1
      go_wp2_with fail
      go_ret
      exact ⟨ret_bool HR.out.symm, HB2.out⟩
    · have HR : Hid (R = false) := hide (by rw [HST.out, decide_eq_false h2, Bool.and_false]; rfl)
      clear HST HAS
      go_enter Try.func11, Try.ntmps11
      go_wp2_with fail
      refine HSZ.out.mono ?_
      rintro e w1 ⟨rfl, hb1⟩
      have HB1 := hide hb1
      clear hb1 HSZ
      go_wp2_with fail
      go_ret
      exact ⟨ret_bool HR.out.symm, HB1.out⟩
  · have HR : Hid (R = false) := hide (by rw [HST.out, decide_eq_false h1]; rfl)
    clear HST HAS
    go_enter Try.func11, Try.ntmps11
    go_wp2_with fail
    refine HSZ.out.mono ?_
    rintro e w1 ⟨rfl, hb1⟩
    have HB1 := hide hb1
    clear hb1 HSZ
    go_wp2_with fail
    go_ret
    exact ⟨ret_bool HR.out.symm, HB1.out⟩

set_option maxRecDepth 100000 in
set_option maxHeartbeats 8000000 in
theorem lawSPages_walk (va : Value) (a : List Nd) (w : World) (ha : NArg w va a) :
    Calls Try.prog 3 #[va] w fun e w' => e = .returned (.bool true) ∧ Below w.heap.size w w' := by
  have HA := hide ha.1
  clear ha
  go_enter Try.func3, Try.ntmps3
  go_wp2_with fail
  refine (awake_nst _).mono ?_
  rintro e w1 ⟨rfl, hb1⟩
  have HB1 := hide hb1
  have HL1 := hide (light_nst w1 va a (HA.out.below hb1))
  clear hb1
  go_wp2_with fail
  refine HL1.out.mono ?_
  rintro e w2 ⟨l1, rfl, hl1, hb2⟩
  have HB2 := hide (bel2 HB1.out hb2)
  have HLA := hide hl1
  clear hb2 HL1 HB1 hl1
  cases l1 with
  | false =>
    go_wp2_with fail
    all_goals
      go_ret
      exact ⟨rfl, HB2.out⟩
  | true =>
  have hwa := HLA.out rfl
  have hta := htL_len a
  have hca := ncL_ws a
  have HLN : Hid ((htL a).length ≤ 1000000 ∧ wsL a ≤ 20000 ∧ ncL a ≤ 20000) := hide ⟨by omega, by omega, by omega⟩
  have HH1 := hide (html_nst w2 va a (HA.out.below HB2.out) (by have := HLN.out.1; omega))
  clear HLA hwa hta hca
  go_wp2_with fail
  refine HH1.out.mono ?_
  rintro e w3 ⟨⟨O1, rfl, hO1⟩, hb3⟩
  have HB3 := hide (bel2 HB2.out hb3)
  have HO1 := hide hO1
  obtain ⟨D, hD⟩ := HA.out
  have HH2 := hide (rhtml_nst D w3 va a (hD.below HB3.out) HLN.out.2.1)
  clear hb3 hO1 HH1 HB2 hD
  go_wp2_with fail
  refine HH2.out.mono ?_
  rintro e w4 ⟨⟨O2, rfl, hO2⟩, hb4⟩
  have HB4 := hide (bel2 HB3.out hb4)
  have hO : O2 = O1 := by rw [← bl_eta O2, hO2, ← HO1.out, bl_eta]
  subst hO
  have HS1 := hide (stable_nst w4 va a (HA.out.below HB4.out) (by have := HLN.out.2.2; omega))
  clear hb4 hO2 HH2 HB3 HO1
  go_wp2_with fail
  refine HS1.out.mono ?_
  rintro e w5 ⟨rfl, hb5⟩
  have HB5 := hide (bel2 HB4.out hb5)
  have HS2 := hide (rStable_nst w5 va a (HA.out.below HB5.out) HLN.out.2.1)
  obtain ⟨S, hS⟩ : ∃ S, S = stable a := ⟨_, rfl⟩
  rw [← hS] at HS2 ⊢
  clear hb5 HS1 HB4 hS
  go_wp2_with fail
  refine HS2.out.mono ?_
  rintro e w6 ⟨rfl, hb6⟩
  have HB6 := hide (bel2 HB5.out hb6)
  clear hb6 HS2 HB5
  cases S with
  | true =>
    go_wp2_with fail
    go_ret
    exact ⟨rfl, HB6.out⟩
  | false =>
    go_wp2_with fail
    go_ret
    exact ⟨rfl, HB6.out⟩
end Go.Proofs.Ytholfdfjapgfbaa
