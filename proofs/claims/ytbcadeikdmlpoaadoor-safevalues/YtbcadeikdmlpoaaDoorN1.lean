/-
  dom.Size at a tree that is read alone.
-/
import Derived.Test.YtbcadeikdmlpoaaDoorN0
namespace Go.Proofs.YtbcadeikdmlpoaaDoor.Dm
open Go.RowKit
open Utf1

set_option maxRecDepth 100000 in
set_option maxHeartbeats 8000000 in
theorem size_nst : ∀ (D : Nat) (w : World) (v : Value) (ns : List Nd), NAtD w D v ns → ncL ns ≤ 1000000000 →
    Calls Tryd.prog 27 #[v] w fun e w' => e = .returned (.tuple #[.int .i64 (ncL ns : Int), .int .i64 (dpL ns : Int)]) ∧ Below w.heap.size w w' := by
  intro D
  induction D with
  | zero => intro w v ns h; exact h.elim
  | succ D0 ih =>
  intro w v ns hk hM
  obtain ⟨p, c, rfl, -, hnode⟩ := hk
  have HNODE := hide hnode
  have HIH := hide ih
  have hlc := nc_len ns
  obtain ⟨N, hN⟩ : ∃ N, N = ns.length := ⟨_, rfl⟩
  rw [← hN] at hlc ⊢
  have HN := hide hN
  clear hnode ih hN
  go_enter Tryd.func27, Tryd.ntmps27
  go_wp2_with fail
  go_loopg [4, 5, 14] N (fun k v4 v5 v14 wr => ∃ (j : Nat) (d rest : List Nd), rest.length = k ∧ d.length = j ∧ j + k = N ∧ v4 = .int .i64 ((N + ncL d - j : Nat) : Int) ∧ v5 = .int .i64 (dpL d : Int) ∧ v14 = .int .i64 (j : Int) ∧ Hid (ns = d ++ rest) ∧ Hid (Below w.heap.size w wr))
  case atStart => exact ⟨0, [], ns, HN.out.symm, rfl, by omega, rfl, rfl, rfl, hide rfl, hide (Below.refl _ _)⟩
  case round =>
    obtain ⟨j, d, rest, rfl, hdj, hjk, rfl, rfl, rfl, HD, HB⟩ := hrel
    have hcd := nc_len d
    match rest, hjk, HD with
    | [], hjk, HD =>
      have e1 : N + ncL d - j = ncL ns := by
        have := HD.out
        rw [List.append_nil] at this
        rw [this]
        simp only [List.length_nil] at hjk
        omega
      have e2 : dpL d = dpL ns := by rw [HD.out, List.append_nil]
      simp only [List.length_nil, Nat.add_zero] at hjk
      rw [e1, e2]
      subst hjk
      clear e1 e2 HD hcd hdj
      go_wp2_with fail
      try rw [Exit.noGoto_ret]
      go_ret2
      exact ⟨rfl, HB.out⟩
    | nd :: rest, hjk, HD =>
      have hjN : j < N := by simp only [List.length_cons] at hjk; omega
      have hge : ns[j]? = some nd := by
        rw [HD.out, List.getElem?_append_right (by omega), hdj, Nat.sub_self]
        rfl
      obtain ⟨g, off, ap, am, ac, kp, km, kc, hp, x0, x1, x2, x3, -, -, hkk⟩ := HNODE.out j nd hge
      subst hp
      have hbr := HB.out
      have x0 := cell_keep x0 hbr
      have x1 := cell_keep x1 hbr
      have x2 := cell_keep x2 hbr
      have x3 := cell_keep x3 hbr
      have hc : ncL ns = ncL d + (ncN nd + ncL rest) := by
        rw [HD.out, ncL_app]
        rfl
      have hkn := ncN_kids nd
      have hdp := dpL_nc nd.kids
      have hlr := nc_len rest
      have hdd := dpL_nc d
      have hdk := dpN_kids nd
      have HCK := hide (fun wx (hx : Below w.heap.size w wx) => HIH.out wx (.slice kp km kc) nd.kids (hkk.below hx) (by omega))
      have hcd2 : ncL (d ++ [nd]) = ncL d + ncN nd := by
        rw [ncL_app]
        rfl
      have hdd2 : dpL (d ++ [nd]) = max (dpL d) (dpN nd) := by
        rw [dpL_app]
        simp [dpL]
      obtain ⟨XN, hXN⟩ : ∃ X : ByteArray, X = ⟨nd.name.toArray⟩ := ⟨_, rfl⟩
      obtain ⟨XT, hXT⟩ : ∃ X : ByteArray, X = ⟨nd.text.toArray⟩ := ⟨_, rfl⟩
      rw [← hXN] at x0
      rw [← hXT] at x2
      have q0 : XN.toList.isEmpty = decide (nd.name = []) := by
        rw [ByteArray.toList_eq, hXN]
        show nd.name.isEmpty = _
        cases nd.name <;> simp
      obtain ⟨w2, hw2⟩ : ∃ w2, w2 = wr.alloc (.cells #[.string XN, .slice ap am ac, .string XT, .slice kp km kc] 36) := ⟨_, rfl⟩
      have hwsz : w.heap.size ≤ wr.heap.size := hbr.size
      have hbw2 : Below w.heap.size w w2 := by rw [hw2]; exact HB.out.alloc HB.out.size _
      have y0 : w2.cell? ⟨wr.heap.size, 0, none⟩ = some (.string XN) := by rw [hw2, new_cell]; rfl
      have y3 : w2.cell? ⟨wr.heap.size, 3, none⟩ = some (.slice kp km kc) := by rw [hw2, new_cell]; rfl
      have hlt2 : wr.heap.size < w2.heap.size := by rw [hw2]; simp
      have HBW2 := hide hbw2
      have HD2 : Hid (ns = (d ++ [nd]) ++ rest) := hide (by rw [HD.out]; simp)
      have hjk2 : j + (rest.length + 1) = N := hjk
      clear hge hkk hbr HB HD hbw2 hXT hXN hjk
      obtain ⟨S, hS⟩ : ∃ S, S = N + ncL d - j := ⟨_, rfl⟩
      obtain ⟨D, hD⟩ : ∃ D, D = dpL d := ⟨_, rfl⟩
      obtain ⟨K, hK⟩ : ∃ K, K = ncL nd.kids := ⟨_, rfl⟩
      obtain ⟨E, hE⟩ : ∃ E, E = dpL nd.kids := ⟨_, rfl⟩
      rw [← hS, ← hD]
      rw [← hK, ← hE] at HCK
      have hKb : K ≤ 1000000000 := by omega
      have hEb : E ≤ 1000000000 := by omega
      have hSb : S ≤ 1000000000 := by omega
      have hDb : D ≤ 1000000000 := by omega
      have hSK : S + K ≤ 2000000000 := by omega
      have e4 : ((N + ncL (d ++ [nd]) - (j + 1) : Nat) : Int) = (S : Int) + (K : Int) := by omega
      have HE4 := hide e4
      have HE5 : Hid (dpL (d ++ [nd]) = max D (E + if nd.name = [] then 0 else 1)) := hide (by rw [hdd2, hdk, ← hE, ← hD])
      have hjb : j ≤ 1000000000 := by omega
      have hdj2 : (d ++ [nd]).length = j + 1 := by simp [hdj]
      have HJ2 := hide (And.intro hdj2 (show j + 1 + rest.length = N by omega))
      clear hS hD hK hE e4 hdd2 hdk hcd2 hkn hdp hlr hdd hc hcd hlc hdj hdj2 hjk2 hM
      go_upto_region 5 with fail
      rw [← hw2]
      clear hw2 x0 x1 x2 x3
      go_wp2_with fail
      refine (HCK.out w2 HBW2.out).mono ?_
      rintro e w3 ⟨rfl, hb3⟩
      have y0 := cell_keep y0 hb3
      have HBW3 := hide (HBW2.out.trans (hb3.mono HBW2.out.size))
      clear hb3 HCK HBW2 y3
      by_cases hnm : nd.name = []
      · rw [decide_eq_true hnm] at q0
        rw [if_pos hnm] at HE5
        clear hnm
        go_wp2_with fail
        go_roundg rest.length
        case measure => simp only [List.length_cons]; omega
        case rel =>
          refine ⟨j + 1, d ++ [nd], rest, rfl, HJ2.out.1, HJ2.out.2, ?_, ?_, by first | rfl | simp, HD2, HBW3⟩
          · rw [HE4.out]
          · rw [HE5.out]
            congr 1
            omega
      · rw [decide_eq_false hnm] at q0
        rw [if_neg hnm] at HE5
        clear hnm
        go_wp2_with fail
        go_roundg rest.length
        case measure => simp only [List.length_cons]; omega
        case rel =>
          refine ⟨j + 1, d ++ [nd], rest, rfl, HJ2.out.1, HJ2.out.2, ?_, ?_, by first | rfl | simp, HD2, HBW3⟩
          · rw [HE4.out]
          · rw [HE5.out]
            congr 1
            omega
end Go.Proofs.YtbcadeikdmlpoaaDoor.Dm
