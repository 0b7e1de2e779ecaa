/-
  versoref05.Attribute and attrs.
-/
import Derived.Test.YtbcadeikdmlpoaaGreatDoorN13
namespace Go.Proofs.YtbcadeikdmlpoaaGreatDoor.Dm
open Go.RowKit
open Utf1

set_option maxRecDepth 100000 in
theorem rattribute_any (s : ByteArray) (w : World) (hs : s.size ≤ 9223372036854775807) : Calls Tryz.prog 86 #[.string s] w fun e w' => e = .returned (.bool (isNmL [45, 95, 58] (bl s))) ∧ w' = w := by
  have HN := hide (fun w => rname_any s ⟨#[45, 95, 58]⟩ w hs (by decide))
  go_enter Tryz.func86, Tryz.ntmps86
  go_wp2_with fail
  refine (HN.out _).mono ?_
  rintro e w2 ⟨rfl, rfl⟩
  go_wp2_with fail
  go_ret
  exact ⟨rfl, rfl⟩

set_option maxRecDepth 100000 in
set_option maxHeartbeats 16000000 in
theorem rattrs_any (ap : Option Addr) (am ac : Nat) (ats : List (List UInt8 × List UInt8)) (w : World) (ha : ARow w ap am ats) : Calls Tryz.prog 62 #[.slice ap am ac] w fun e w' => e = .returned (.bool (mayA ats)) ∧ Below w.heap.size w w' := by
  have HA := hide ha
  have HAM := hide ha.1.1
  have ham := ha.1.2
  obtain ⟨R, hR⟩ : ∃ R, R = mayA ats := ⟨_, rfl⟩
  rw [← hR]
  have HR := hide hR
  clear ha hR
  go_enter Tryz.func62, Tryz.ntmps62
  go_wp2_with fail
  go_loopg [3] am (fun k v3 wr => ∃ (j : Nat) (d r : List (List UInt8 × List UInt8)), r.length = k ∧ d.length = j ∧ j + k = am ∧ v3 = .int .i64 (j : Int) ∧ Hid (ats = d ++ r) ∧ Hid (mayA d = true) ∧ Hid (Below w.heap.size w wr))
  case atStart => exact ⟨0, [], ats, HAM.out.symm, rfl, by omega, rfl, hide rfl, hide mayA_nil, hide (Below.refl _ _)⟩
  case round =>
    obtain ⟨j, d, r, rfl, hdj, hjk, rfl, HD, HM, HB⟩ := hrel
    match r, hjk, HD with
    | [], hjk, HD =>
      have HRR : Hid (R = true) := hide (by
        have := HD.out
        rw [List.append_nil] at this
        rw [HR.out, this]
        exact HM.out)
      simp only [List.length_nil, Nat.add_zero] at hjk
      subst hjk
      clear HD hdj
      go_wp2_with fail
      go_ret
      exact ⟨ret_bool HRR.out.symm, HB.out⟩
    | kv :: r, hjk, HD =>
      have hjN : j < am := by simp only [List.length_cons] at hjk; omega
      have hge : ats[j]? = some kv := by
        rw [HD.out, List.getElem?_append_right (by omega), hdj, Nat.sub_self]
        rfl
      obtain ⟨b, off, rfl, x0, x1, hk1, hk2⟩ := HA.out.2 j kv hge
      have x0 := cell_keep x0 HB.out
      obtain ⟨XA, hXA⟩ : ∃ X : ByteArray, X = ⟨kv.1.toArray⟩ := ⟨_, rfl⟩
      rw [← hXA] at x0
      have hA1 : bl XA = kv.1 := by rw [hXA]
      have hAl : XA.size = kv.1.length := by rw [hXA]; rfl
      have HNM := hide (fun w => rattribute_any XA w (by omega))
      rw [hA1] at HNM
      have HF : Hid (kv.1 ∈ d.map Prod.fst ∨ isNmL [45, 95, 58] kv.1 = false → R = false) := hide (fun h => by rw [HR.out]; exact mayA_false HD.out h)
      have HD2 : Hid (ats = (d ++ [kv]) ++ r) := hide (by rw [HD.out]; simp)
      have HDD : Hid (∀ q, q < j → ∃ kq, ats[q]? = some kq ∧ d[q]? = some kq) := hide (by
        intro q hq
        have hq2 : q < d.length := by omega
        refine ⟨d[q], ?_, List.getElem?_eq_getElem hq2⟩
        rw [HD.out, List.getElem?_append_left hq2, List.getElem?_eq_getElem hq2])
      have hjk2 : j + (r.length + 1) = am := hjk
      have hdj2 : (d ++ [kv]).length = j + 1 := by simp [hdj]
      have HAB : Hid (bl XA = kv.1) := hide hA1
      clear hge hk1 hk2 hXA hAl hA1 HD hjk hdj x1
      cases hnm : isNmL [45, 95, 58] kv.1 with
      | false =>
        rw [hnm] at HNM
        have HRF := hide (HF.out (.inr hnm))
        clear HF hnm
        go_wp2_with fail
        refine (HNM.out _).mono ?_
        rintro e w4 ⟨rfl, rfl⟩
        go_wp2_with fail
        try rw [Exit.noGoto_ret]
        go_ret
        exact ⟨ret_bool HRF.out.symm, HB.out⟩
      | true =>
        rw [hnm] at HNM
        have HM2 : Hid (kv.1 ∉ d.map Prod.fst → mayA (d ++ [kv]) = true) := hide (fun h => mayA_more HM.out h hnm)
        have HF2 : Hid (kv.1 ∈ d.map Prod.fst → R = false) := hide (fun h => HF.out (.inl h))
        have HDL : Hid (d.length = j) := hide (by have := hdj2; simp at this; exact this)
        clear HF hnm HM
        go_wp2_with fail
        refine (HNM.out _).mono ?_
        rintro e w4 ⟨rfl, rfl⟩
        clear HNM
        go_wp2_with fail
        go_loopg [4] j (fun k2 v4 wq => ∃ q : Nat, q + k2 = j ∧ v4 = .int .i64 (q : Int) ∧ Hid (∀ kq ∈ d.take q, kq.1 ≠ kv.1) ∧ Hid (Below w4.heap.size w4 wq))
        case atStart => exact ⟨0, by omega, rfl, hide (fun kq h => by simp at h), hide (Below.refl _ _)⟩
        case round =>
          obtain ⟨q, hqk, rfl, HQ, HBQ⟩ := hrel
          by_cases hql : q < j
          · obtain ⟨kq, hq1, hq2⟩ := HDD.out q hql
            obtain ⟨b2, off2, hbb, y0, -, hy1, -⟩ := HA.out.2 q kq hq1
            injection hbb with hbb
            injection hbb with hb1 hb2
            subst hb1
            subst hb2
            have y0 := cell_keep (cell_keep y0 HB.out) HBQ.out
            have x0 := cell_keep x0 HBQ.out
            obtain ⟨XQ, hXQ⟩ : ∃ X : ByteArray, X = ⟨kq.1.toArray⟩ := ⟨_, rfl⟩
            rw [← hXQ] at y0
            have hQ1 : bl XQ = kq.1 := by rw [hXQ]
            have qe : (XA.toList == XQ.toList) = decide (kv.1 = kq.1) := by
              by_cases h : kv.1 = kq.1
              · rw [decide_eq_true h]
                exact beq_same (by rw [HAB.out, hQ1, h])
              · rw [decide_eq_false h]
                exact beq_ne (by rw [HAB.out, hQ1]; exact h)
            have HTK : Hid (d.take (q + 1) = d.take q ++ [kq]) := hide (by rw [List.take_add_one, hq2]; rfl)
            have HMEM : Hid (kq.1 ∈ d.map Prod.fst) := hide (List.mem_map.2 ⟨kq, List.mem_of_getElem? hq2, rfl⟩)
            clear hXQ hQ1 hq1 hq2 hy1
            by_cases he : kv.1 = kq.1
            · rw [decide_eq_true he] at qe
              have HRF : Hid (R = false) := hide (HF2.out (by rw [he]; exact HMEM.out))
              clear he HF2 HM2 HTK HMEM
              go_upto_region 9 with fail
              go_region
              go_wp2_with fail
              try rw [Exit.noGoto_ret]
              go_ret
              exact ⟨ret_bool HRF.out.symm, bel2 (bel2 HB.out HBQ.out) (bel_one _)⟩
            · rw [decide_eq_false he] at qe
              have HQ2 : Hid (∀ k ∈ d.take (q + 1), k.1 ≠ kv.1) := hide (by
                rw [HTK.out]
                intro k hk
                rcases List.mem_append.1 hk with h | h
                · exact HQ.out k h
                · have : k = kq := by simpa using h
                  rw [this]
                  exact fun e => he e.symm)
              clear he HF2 HM2 HTK HMEM HQ
              go_upto_region 9 with fail
              go_region
              go_wp2_with fail
              go_roundg (gk - 1)
              case measure => omega
              case rel => exact ⟨q + 1, by omega, by first | rfl | simp, HQ2, hide (bel2 HBQ.out (bel_one _))⟩
          · have HM3 : Hid (mayA (d ++ [kv]) = true) := hide (HM2.out (by
              intro h
              obtain ⟨k, hk, e⟩ := List.mem_map.1 h
              have hqd : d.take q = d := List.take_of_length_le (by have := HDL.out; omega)
              exact HQ.out k (by rw [hqd]; exact hk) e))
            clear HM2 HF2 HQ HDD
            go_wp2_with fail
            go_roundg r.length
            case measure => simp only [List.length_cons]; omega
            case rel => exact ⟨j + 1, d ++ [kv], r, rfl, hdj2, by omega, by first | rfl | simp, HD2, HM3, hide (bel2 HB.out HBQ.out)⟩
end Go.Proofs.YtbcadeikdmlpoaaGreatDoor.Dm
