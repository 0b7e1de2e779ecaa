/-
  The document's own Has.
-/
import Derived.Test.YtbcadeikdmlpoaaGreatDoorPW
import Derived.Test.YtbcadeikdmlpoaaGreatDoorPM
import Derived.Test.YtbcadeikdmlpoaaGreatDoorPC
import Derived.Deep.RegionHeld3
import Derived.Test.YtbcadeikdmlpoaaGreatDoorN1
import Derived.Test.YtbcadeikdmlpoaaGreatDoorN15
import Derived.Test.YtbcadeikdmlpoaaGreatDoorSPX
import Derived.Test.YtbcadeikdmlpoaaGreatDoorUX
import Derived.Test.YtbcadeikdmlpoaaGreatDoorYZ
import Derived.Test.YtbcadeikdmlpoaaGreatDoorQ10
import Derived.Test.YtbcadeikdmlpoaaGreatDoorN0
namespace Go.Proofs.YtbcadeikdmlpoaaGreatDoor
open Go.RowKit
open Utf1 Pol8

set_option maxHeartbeats 4000000 in
theorem rhas_any (v : Value) (ss : List ByteArray) (X : ByteArray) (hl : ss.length ≤ 100000) (w : World) (hv : StrArg w v ss) :
    Calls Tryz.prog 44 #[v, .string X] w fun e w' => e = .returned (.bool (decide (bl X ∈ ss.map bl))) ∧ w' = w := by
  obtain ⟨R, hR⟩ : ∃ R, R = decide (bl X ∈ ss.map bl) := ⟨_, rfl⟩
  rw [← hR]
  have HAL := hide hR
  clear hR
  obtain ⟨p, cap, rfl, -, hc⟩ := hv
  have HC := hide hc
  obtain ⟨N, hN⟩ : ∃ N, N = ss.length := ⟨_, rfl⟩
  rw [← hN] at hl ⊢
  have HN := hide hN
  clear hc hN
  go_enter Tryz.func44, Tryz.ntmps44
  go_wp2_with fail
  go_loopg [5] N (fun g v wx => wx = w ∧ ∃ i : Nat, i + g = N ∧ v = .int .i64 (i : Int) ∧ Hid (bl X ∉ (ss.take i).map bl))
  case atStart => exact ⟨rfl, 0, by omega, rfl, hide (by simp)⟩
  case round =>
    obtain ⟨rfl, i, hi, rfl, HU⟩ := hrel
    by_cases hlt : i < N
    · obtain ⟨y, hge⟩ : ∃ y, ss[i]? = some y := ⟨_, List.getElem?_eq_getElem (by rw [← HN.out]; exact hlt)⟩
      obtain ⟨b, off, rfl, c0⟩ := HC.out i y hge
      have q0 := eq_two y X
      have HMS := hide (mem_step (X := X) hge)
      have HMM : Hid (bl y ∈ ss.map bl) := hide (List.mem_map_of_mem (List.mem_of_getElem? hge))
      clear hge
      by_cases hy : bl y = bl X
      · rw [decide_eq_true hy] at q0
        have HR : Hid (R = true) := hide (by
          rw [HAL.out]
          apply decide_eq_true
          rw [← hy]
          exact HMM.out)
        clear hy HU HMS
        go_wp2_with fail
        go_ret
        rw [HR.out]
        exact ⟨rfl, rfl⟩
      · rw [decide_eq_false hy] at q0
        have HU2 : Hid (bl X ∉ (ss.take (i + 1)).map bl) := hide (fun h => (HMS.out.1 h).elim HU.out hy)
        clear hy HU HMS
        go_wp2_with fail
        go_roundg (gk - 1)
        case measure => omega
        case rel => exact ⟨rfl, i + 1, by omega, by first | rfl | simp, HU2⟩
    · have HR : Hid (R = false) := hide (by
        rw [HAL.out]
        apply decide_eq_false
        have := HU.out
        rw [List.take_of_length_le (by rw [← HN.out]; omega)] at this
        exact this)
      clear HU
      go_wp2_with fail
      go_ret
      rw [HR.out]
      exact ⟨rfl, rfl⟩

end Go.Proofs.YtbcadeikdmlpoaaGreatDoor

namespace Go.Proofs.YtbcadeikdmlpoaaGreatDoor
open Go.RowKit
open Utf1 Pol8

set_option maxHeartbeats 8000000 in
theorem rattrB_any (v1 v2 v3 v4 v5 : Value) (p : Pol) (l1 l2 l3 l4 l5 : List ByteArray) (e a : ByteArray) (w : World) (hv : PolV w v1 v2 v3 v4 v5 p l1 l2 l3 l4 l5) (hf : fits p) (he : e.size ≤ 100000) (ha : a.size ≤ 100000) :
    Calls Tryz.prog 66 #[.agg #[.int .i64 p.ep, v1, v2, v3, v4, v5, .int .i64 p.dp, .int .i64 p.nd, .int .i64 p.bt], .string e, .string a] w fun r w' => r = .returned (.bool (attrB p (bl e) (bl a))) ∧ Below w.heap.size w w' := by
  obtain ⟨f1, -⟩ := fits_of hf (by simp) hv.e1
  obtain ⟨f2, -⟩ := fits_of hf (by simp) hv.e2
  have HRE : Hid (attrB p (bl e) (bl a) = (decide (bl e ∈ l1.map bl) && (decide (bl (⟨#[42, 46]⟩ ++ a) ∈ l2.map bl) || decide (bl (e ++ ⟨#[46]⟩ ++ a) ∈ l2.map bl)))) := hide (by
    have e1 : bl (⟨#[42, 46]⟩ ++ a) = 42 :: 46 :: bl a := by rw [app_bl]; rfl
    have e2 : bl (e ++ ⟨#[46]⟩ ++ a) = bl e ++ 46 :: bl a := by
      rw [app_bl, app_bl]
      show bl e ++ [46] ++ bl a = _
      simp
    rw [e1, e2, hv.e1, hv.e2]
    unfold attrB
    by_cases h1 : (42 :: 46 :: bl a) ∈ p.at_ <;> by_cases h2 : (bl e ++ 46 :: bl a) ∈ p.at_ <;> simp only [h1, h2] <;> simp)
  rw [HRE.out]
  obtain ⟨A, hA⟩ : ∃ A : Array Value, A = #[.int .i64 p.ep, v1, v2, v3, v4, v5, .int .i64 p.dp, .int .i64 p.nd, .int .i64 p.bt] := ⟨_, rfl⟩
  obtain ⟨w1, hw1⟩ : ∃ w1, w1 = w.alloc (.cells A 24) := ⟨_, rfl⟩
  have HNEW : Hid (BoxP w A w1) := hide (by rw [hw1]; exact ⟨new_block _ _ _, bel_alloc (Below.refl _ _) _⟩)
  have y1 := HNEW.out.cell 1 v1 (by rw [hA]; rfl)
  have y2 := HNEW.out.cell 2 v2 (by rw [hA]; rfl)
  have C1 := hide (rhas_any v1 l1 e (by omega) w1 (hv.s1.below HNEW.out.2))
  have C2 := hide (rhas_any v2 l2 (⟨#[42, 46]⟩ ++ a) (by omega) w1 (hv.s2.below HNEW.out.2))
  have C3 := hide (rhas_any v2 l2 (e ++ ⟨#[46]⟩ ++ a) (by omega) w1 (hv.s2.below HNEW.out.2))
  generalize decide (bl e ∈ l1.map bl) = d1 at C1
  generalize decide (bl (⟨#[42, 46]⟩ ++ a) ∈ l2.map bl) = d2 at C2
  generalize decide (bl (e ++ ⟨#[46]⟩ ++ a) ∈ l2.map bl) = d3 at C3
  rw [hA] at hw1
  clear HRE hv hf hA f1 f2
  cases d1 with
  | false =>
    go_enter Tryz.func66, Tryz.ntmps66
    go_upto_region 1 with fail
    rw [← hw1]
    clear hw1
    go_wp2_with fail
    refine C1.out.mono ?_
    rintro r w2 ⟨rfl, rfl⟩
    go_wp2_with fail
    go_ret
    exact ⟨rfl, HNEW.out.2⟩
  | true =>
    cases d2 with
    | true =>
      go_enter Tryz.func66, Tryz.ntmps66
      go_upto_region 1 with fail
      rw [← hw1]
      clear hw1
      go_wp2_with fail
      refine C1.out.mono ?_
      rintro r w2 ⟨rfl, rfl⟩
      go_wp2_with fail
      refine C2.out.mono ?_
      rintro r w2 ⟨rfl, rfl⟩
      go_wp2_with fail
      go_ret
      exact ⟨rfl, HNEW.out.2⟩
    | false =>
      go_enter Tryz.func66, Tryz.ntmps66
      go_upto_region 1 with fail
      rw [← hw1]
      clear hw1
      go_wp2_with fail
      refine C1.out.mono ?_
      rintro r w2 ⟨rfl, rfl⟩
      go_wp2_with fail
      refine C2.out.mono ?_
      rintro r w2 ⟨rfl, rfl⟩
      go_wp2_with fail
      refine C3.out.mono ?_
      rintro r w2 ⟨rfl, rfl⟩
      go_wp2_with fail
      go_ret
      exact ⟨rfl, HNEW.out.2⟩
end Go.Proofs.YtbcadeikdmlpoaaGreatDoor

namespace Utf1
mutual
/-- How many elements stand within one another, as the document's Size tells it. -/
def drN : Nd → Nat
  | .mk n _ _ k => if n = [] then 0 else drL k + 1
def drL : List Nd → Nat
  | [] => 0
  | n :: r => max (drN n) (drL r)
end
theorem drN_kids (n : Nd) : drN n = if n.name = [] then 0 else drL n.kids + 1 := by
  cases n
  rw [drN]
  rfl
theorem drL_app : ∀ a b : List Nd, drL (a ++ b) = max (drL a) (drL b)
  | [], b => by simp [drL]
  | n :: a, b => by
    rw [List.cons_append, drL, drL, drL_app a b]
    omega
mutual
theorem drN_nc : ∀ n : Nd, drN n ≤ ncN n
  | .mk n a t k => by
    rw [drN, ncN]
    have := drL_nc k
    split <;> omega
theorem drL_nc : ∀ l : List Nd, drL l ≤ ncL l
  | [] => Nat.le_refl _
  | n :: r => by
    rw [drL, ncL]
    have := drN_nc n
    have := drL_nc r
    omega
end
end Utf1
namespace Go.Proofs.YtbcadeikdmlpoaaGreatDoor.Dm
open Go.RowKit
open Utf1

set_option maxRecDepth 100000 in
set_option maxHeartbeats 8000000 in
theorem rsize_nst : ∀ (D : Nat) (w : World) (v : Value) (ns : List Nd), NAtD w D v ns → ncL ns ≤ 1000000000 →
    Calls Tryz.prog 20 #[v] w fun e w' => e = .returned (.tuple #[.int .i64 (ncL ns : Int), .int .i64 (drL ns : Int)]) ∧ Below w.heap.size w w' := by
  intro D
  induction D with
  | zero => intro w v ns h; exact h.elim
  | succ D0 ih =>
  intro w v ns hk hM
  obtain ⟨p, c, rfl, -, hnode⟩ := hk
  have HNODE := hide hnode
  have HIH := hide ih
  have hlc := nc_len ns
  obtain ⟨N, hN⟩ : ∃ N, N = ns.length := ⟨_, rfl⟩
  rw [← hN] at hlc ⊢
  have HN := hide hN
  clear hnode ih hN
  go_enter Tryz.func20, Tryz.ntmps20
  go_wp2_with fail
  go_loopg [4, 5, 6] N (fun k v4 v5 v6 wr => ∃ (j : Nat) (d rest : List Nd), rest.length = k ∧ d.length = j ∧ j + k = N ∧ v4 = .int .i64 (ncL d : Int) ∧ v5 = .int .i64 (drL d : Int) ∧ v6 = .int .i64 (j : Int) ∧ Hid (ns = d ++ rest) ∧ Hid (Below w.heap.size w wr))
  case atStart => exact ⟨0, [], ns, HN.out.symm, rfl, by omega, rfl, rfl, rfl, hide rfl, hide (Below.refl _ _)⟩
  case round =>
    obtain ⟨j, d, rest, rfl, hdj, hjk, rfl, rfl, rfl, HD, HB⟩ := hrel
    match rest, hjk, HD with
    | [], hjk, HD =>
      have e1 : d = ns := by
        have := HD.out
        rw [List.append_nil] at this
        exact this.symm
      simp only [List.length_nil, Nat.add_zero] at hjk
      subst hjk
      subst e1
      clear HD hdj
      go_wp2_with fail
      go_ret2
      exact ⟨rfl, HB.out⟩
    | nd :: rest, hjk, HD =>
      have hjN : j < N := by simp only [List.length_cons] at hjk; omega
      have hge : ns[j]? = some nd := by
        rw [HD.out, List.getElem?_append_right (by omega), hdj, Nat.sub_self]
        rfl
      obtain ⟨g, off, ap, am, ac, kp, km, kc, hp, x0, x1, x2, x3, -, -, hkk⟩ := HNODE.out j nd hge
      subst hp
      have x0 := cell_keep x0 HB.out
      have x3 := cell_keep x3 HB.out
      have hc : ncL ns = ncL d + (ncN nd + ncL rest) := by
        rw [HD.out, ncL_app]
        rfl
      have hkn := ncN_kids nd
      have hdp := drL_nc nd.kids
      have hdd := drL_nc d
      have HCK := hide (HIH.out wr (.slice kp km kc) nd.kids (hkk.below HB.out) (by omega))
      have HE4 : Hid ((ncL (d ++ [nd]) : Int) = (ncL d : Int) + 1 + (ncL nd.kids : Int)) := hide (by
        have : ncL (d ++ [nd]) = ncL d + (ncN nd + 0) := by rw [ncL_app]; rfl
        omega)
      have HE5 : Hid (drL (d ++ [nd]) = max (drL d) (if nd.name = [] then 0 else drL nd.kids + 1)) := hide (by
        rw [drL_app, ← drN_kids]
        simp [drL])
      obtain ⟨XN, hXN⟩ : ∃ X : ByteArray, X = ⟨nd.name.toArray⟩ := ⟨_, rfl⟩
      rw [← hXN] at x0
      have q0 : XN.toList.isEmpty = decide (nd.name = []) := by rw [hXN]; exact nm_empty _
      have HD2 : Hid (ns = (d ++ [nd]) ++ rest) := hide (by rw [HD.out]; simp)
      have hjk2 : j + (rest.length + 1) = N := hjk
      have hdj2 : (d ++ [nd]).length = j + 1 := by simp [hdj]
      obtain ⟨S, hS⟩ : ∃ S, S = ncL d := ⟨_, rfl⟩
      obtain ⟨D, hD⟩ : ∃ D, D = drL d := ⟨_, rfl⟩
      obtain ⟨K, hK⟩ : ∃ K, K = ncL nd.kids := ⟨_, rfl⟩
      obtain ⟨E, hE⟩ : ∃ E, E = drL nd.kids := ⟨_, rfl⟩
      rw [← hS, ← hD]
      rw [← hK, ← hE] at HCK
      rw [← hS, ← hK] at HE4
      rw [← hD, ← hE] at HE5
      have hKb : K ≤ 1000000000 := by omega
      have hEb : E ≤ 1000000000 := by omega
      have hSb : S ≤ 1000000000 := by omega
      have hDb : D ≤ 1000000000 := by omega
      have hjb : j ≤ 1000000000 := by omega
      clear hge hkk HD hXN hjk hdj hc hkn hdp hdd hS hD hK hE x1 x2 HNODE HIH
      go_wp2_with fail
      refine HCK.out.mono ?_
      rintro e w3 ⟨rfl, hb3⟩
      have x0 := cell_keep x0 hb3
      have HB3 := hide (bel2 HB.out hb3)
      clear hb3 HCK HB x3
      by_cases hnm : nd.name = []
      · rw [decide_eq_true hnm] at q0
        rw [if_pos hnm] at HE5
        clear hnm
        go_wp2_with fail
        go_roundg rest.length
        case measure => simp only [List.length_cons]; omega
        case rel =>
          refine ⟨j + 1, d ++ [nd], rest, rfl, hdj2, by omega, ?_, ?_, by first | rfl | simp, HD2, HB3⟩
          · rw [HE4.out]
          · rw [HE5.out]
            congr 1
            omega
      · rw [decide_eq_false hnm] at q0
        rw [if_neg hnm] at HE5
        clear hnm
        go_wp2_with fail
        go_roundg rest.length
        case measure => simp only [List.length_cons]; omega
        case rel =>
          refine ⟨j + 1, d ++ [nd], rest, rfl, hdj2, by omega, ?_, ?_, by first | rfl | simp, HD2, HB3⟩
          · rw [HE4.out]
          · rw [HE5.out]
            congr 1
            omega
end Go.Proofs.YtbcadeikdmlpoaaGreatDoor.Dm

namespace Utf1
mutual
theorem dr_N : ∀ (x : Nd) (p i b : Bool), stN p i b x = true → drN x = dpN x
  | .mk n a t k, p, i, b, h => by
    rw [drN, dpN]
    by_cases hn : n = []
    · obtain ⟨_, _, _, hk⟩ := stN_text hn h
      rw [if_pos hn, if_pos hn, hk]
      rfl
    · obtain ⟨_, _, _, _, h4, h5⟩ := stN_elem hn h
      rw [if_neg hn, if_neg hn]
      by_cases hv : n ∈ voids
      · rw [h4 hv]
        rfl
      · rw [dr_L k _ _ _ (h5 hv)]
theorem dr_L : ∀ (l : List Nd) (p i b : Bool), stL p i b l = true → drL l = dpL l
  | [], _, _, _, _ => by rw [drL, dpL]
  | x :: l, p, i, b, h => by
    rw [drL, dpL, dr_N x _ _ _ (stL_cons h).1, dr_L l _ _ _ (stL_cons h).2]
end
theorem stable_dr (ns : List Nd) : (decide (ncL ns ≤ 2000) && decide (drL ns ≤ 64) && stL false false false ns) = stable ns := by
  unfold stable
  cases h : stL false false false ns with
  | false => rw [Bool.and_false, Bool.and_false]
  | true => rw [dr_L ns _ _ _ h]
end Utf1
namespace Go.Proofs.YtbcadeikdmlpoaaGreatDoor.Dm
open Go.RowKit
open Utf1

set_option maxRecDepth 100000 in
set_option maxHeartbeats 8000000 in
theorem rStable_nst (w : World) (v : Value) (ns : List Nd) (hk : NAt w v ns) (hw : wsL ns ≤ 20000) :
    Calls Tryz.prog 21 #[v] w fun e w' => e = .returned (.bool (stable ns)) ∧ Below w.heap.size w w' := by
  obtain ⟨D, hk⟩ := hk
  have hc := ncL_ws ns
  have HSZ := hide (rsize_nst D w v ns hk (by omega))
  have HAS : Hid (∀ wx, Below w.heap.size w wx → Calls Tryz.prog 42 #[v, .slice none 0 0] wx fun e w' => e = .returned (.bool (stL false false false ns)) ∧ Below wx.heap.size wx w') := hide (fun wx hx => rstable_nst D wx v ns (.slice none 0 0) [] (hk.below hx) (srow_nil wx) (by simp; omega))
  have hd := drL_nc ns
  have HST := hide (stable_dr ns).symm
  obtain ⟨R, hR⟩ : ∃ R, R = stable ns := ⟨_, rfl⟩
  rw [← hR] at HST ⊢
  obtain ⟨A, hA⟩ : ∃ A, A = stL false false false ns := ⟨_, rfl⟩
  obtain ⟨n, hn⟩ : ∃ n, n = ncL ns := ⟨_, rfl⟩
  obtain ⟨d, hdd⟩ : ∃ d, d = drL ns := ⟨_, rfl⟩
  rw [← hA] at HAS HST
  rw [← hn, ← hdd] at HSZ HST hd
  rw [← hn] at hc
  clear hk hR hA hn hdd
  by_cases h1 : n ≤ 2000
  · by_cases h2 : d ≤ 64
    · have HR : Hid (R = A) := hide (by rw [HST.out, decide_eq_true h1, decide_eq_true h2]; rfl)
      clear HST
      go_enter Tryz.func21, Tryz.ntmps21
      go_wp2_with fail
      refine HSZ.out.mono ?_
      rintro e w1 ⟨rfl, hb1⟩
      have HA1 := hide (HAS.out w1 hb1)
      have HB1 := hide hb1
      clear hb1 HAS HSZ
      go_wp2_with fail
      refine HA1.out.mono ?_
      rintro e w2 ⟨rfl, hb2⟩
      have HB2 := hide (bel2 HB1.out hb2)
      clear hb2 HA1 HB1
      go_wp2_with fail
      go_ret
      exact ⟨ret_bool HR.out.symm, HB2.out⟩
    · have HR : Hid (R = false) := hide (by rw [HST.out, decide_eq_false h2, Bool.and_false]; rfl)
      clear HST HAS
      go_enter Tryz.func21, Tryz.ntmps21
      go_wp2_with fail
      refine HSZ.out.mono ?_
      rintro e w1 ⟨rfl, hb1⟩
      have HB1 := hide hb1
      clear hb1 HSZ
      go_wp2_with fail
      go_ret
      exact ⟨ret_bool HR.out.symm, HB1.out⟩
  · have HR : Hid (R = false) := hide (by rw [HST.out, decide_eq_false h1]; rfl)
    clear HST HAS
    go_enter Tryz.func21, Tryz.ntmps21
    go_wp2_with fail
    refine HSZ.out.mono ?_
    rintro e w1 ⟨rfl, hb1⟩
    have HB1 := hide hb1
    clear hb1 HSZ
    go_wp2_with fail
    go_ret
    exact ⟨ret_bool HR.out.symm, HB1.out⟩
end Go.Proofs.YtbcadeikdmlpoaaGreatDoor.Dm

namespace Go.Proofs.YtbcadeikdmlpoaaGreatDoor
open Go.RowKit
open Utf1 Pol8

abbrev placeS : List ByteArray := [⟨#[104, 114, 101, 102]⟩, ⟨#[115, 114, 99]⟩, ⟨#[99, 105, 116, 101]⟩, ⟨#[97, 99, 116, 105, 111, 110]⟩, ⟨#[98, 97, 99, 107, 103, 114, 111, 117, 110, 100]⟩, ⟨#[108, 111, 110, 103, 100, 101, 115, 99]⟩, ⟨#[112, 105, 110, 103]⟩, ⟨#[112, 111, 115, 116, 101, 114]⟩, ⟨#[115, 114, 99, 115, 101, 116]⟩, ⟨#[117, 115, 101, 109, 97, 112]⟩]
theorem placeS_bl : placeS.map bl = Saf.placeL := rfl
set_option maxRecDepth 100000 in
set_option maxHeartbeats 8000000 in
theorem rplace_any (n : ByteArray) (w : World) :
    Calls Tryz.prog 68 #[.string n] w fun e w' => e = .returned (.bool (Saf.placeB (bl n))) ∧ Below w.heap.size w w' := by
  obtain ⟨w1, hw1⟩ : ∃ w1, w1 = w.alloc (.cells (strV placeS).toArray 9) := ⟨_, rfl⟩
  have HS : Hid (StrArg w1 (.slice (some ⟨w.heap.size, 0, none⟩) 10 10) placeS) := hide (by rw [hw1]; exact strArg_row w placeS 9)
  have HB : Hid (Below w.heap.size w w1) := hide (by rw [hw1]; exact bel_alloc (Below.refl _ _) _)
  have C1 := hide (rhas_any (.slice (some ⟨w.heap.size, 0, none⟩) 10 10) placeS n (by decide) w1 HS.out)
  rw [placeS_bl] at C1
  have HR : Hid (Saf.placeB (bl n) = decide (bl n ∈ Saf.placeL)) := hide rfl
  generalize decide (bl n ∈ Saf.placeL) = r at C1 HR
  rw [HR.out]
  rw [show (strV placeS).toArray = #[.string ⟨#[104, 114, 101, 102]⟩, .string ⟨#[115, 114, 99]⟩, .string ⟨#[99, 105, 116, 101]⟩, .string ⟨#[97, 99, 116, 105, 111, 110]⟩, .string ⟨#[98, 97, 99, 107, 103, 114, 111, 117, 110, 100]⟩, .string ⟨#[108, 111, 110, 103, 100, 101, 115, 99]⟩, .string ⟨#[112, 105, 110, 103]⟩, .string ⟨#[112, 111, 115, 116, 101, 114]⟩, .string ⟨#[115, 114, 99, 115, 101, 116]⟩, .string ⟨#[117, 115, 101, 109, 97, 112]⟩] from rfl] at hw1
  clear HS HR
  go_enter Tryz.func68, Tryz.ntmps68
  go_wp2_with fail
  rw [← hw1]
  clear hw1
  refine C1.out.mono ?_
  rintro e w2 ⟨rfl, rfl⟩
  clear C1
  go_wp2_with fail
  go_ret
  exact ⟨rfl, HB.out⟩

/-- What is held while a value's parts are gone through. -/
structure ClsI (R : Bool) (cl : List L) (V : L) (ls : List ByteArray) (f i : Nat) : Prop where
  le : f ≤ i
  up : i ≤ V.length + 1
  n : ls.length ≤ i
  on : i ≤ V.length → R = Saf.clsFrom cl (ls.map bl) (Pol8.segs 32 (V.drop f)) ∧ ∀ j c, f ≤ j → j < i → V[j]? = some c → c ≠ 32
  off : V.length < i → R = true
theorem seg_no {V : L} {f i : Nat} (h : ∀ j c, f ≤ j → j < i → V[j]? = some c → c ≠ 32) : (32 : UInt8) ∉ (V.drop f).take (i - f) := by
  intro hm
  obtain ⟨k, hk⟩ := List.getElem?_of_mem hm
  rw [List.getElem?_take] at hk
  split at hk
  · rename_i hlt
    rw [List.getElem?_drop] at hk
    exact h (f + k) 32 (by omega) (by omega) hk rfl
  · cases hk
theorem cls_more {R : Bool} {cl : List L} {V : L} {ls : List ByteArray} {f i : Nat} (h : ClsI R cl V ls f i) {c : UInt8} (hc : V[i]? = some c) (h32 : c ≠ 32) : ClsI R cl V ls f (i + 1) := by
  have hl := (List.getElem?_eq_some_iff.1 hc).1
  obtain ⟨h1, h2⟩ := h.on (by omega)
  have hle := h.le
  have hn := h.n
  refine ⟨by omega, by omega, by omega, fun _ => ⟨h1, fun j d hj hji hd => ?_⟩, fun e => by omega⟩
  by_cases e : j = i
  · subst e
    rw [hc] at hd
    cases hd
    exact h32
  · exact h2 j d hj (by omega) hd
theorem cls_part {R : Bool} {cl : List L} {V : L} {ls : List ByteArray} {f i : Nat} (h : ClsI R cl V ls f i) (hi : i ≤ V.length) (hend : i = V.length ∨ V[i]? = some 32) {C : ByteArray} (hC : bl C = (V.drop f).take (i - f)) :
    ((bl C ∈ cl ∧ bl C ∉ ls.map bl) → ClsI R cl V (ls ++ [C]) (i + 1) (i + 1)) ∧ (¬ (bl C ∈ cl ∧ bl C ∉ ls.map bl) → R = false) := by
  obtain ⟨h1, h2⟩ := h.on hi
  have hno := seg_no h2
  have hle := h.le
  have hn := h.n
  rw [← hC] at hno
  have hsp : V.drop f = bl C ++ V.drop i := by
    rw [hC, show V.drop i = (V.drop f).drop (i - f) by rw [List.drop_drop, show f + (i - f) = i by omega], List.take_append_drop]
  have key : Pol8.segs 32 (V.drop f) = bl C :: (if i = V.length then [] else Pol8.segs 32 (V.drop (i + 1))) := by
    by_cases e : i = V.length
    · rw [if_pos e, hsp, List.drop_eq_nil_of_le (by omega), List.append_nil]
      exact Pol8.segs_end 32 _ hno
    · rw [if_neg e]
      have hV : V[i]? = some 32 := hend.resolve_left e
      have hil := (List.getElem?_eq_some_iff.1 hV).1
      rw [hsp, List.drop_eq_getElem_cons hil, (List.getElem?_eq_some_iff.1 hV).2]
      exact Pol8.segs_semi 32 _ _ hno
  rw [key, Saf.clsFrom] at h1
  constructor
  · rintro ⟨a, b⟩
    rw [decide_eq_true a, decide_eq_false b, Bool.not_false, Bool.and_true, Bool.true_and] at h1
    refine ⟨Nat.le_refl _, by omega, by rw [List.length_append]; simp; omega, fun hi' => ?_, fun hi' => ?_⟩
    · rw [if_neg (by omega)] at h1
      exact ⟨by rw [h1, List.map_append]; rfl, fun j c hj hji => by omega⟩
    · rw [if_pos (by omega)] at h1
      rw [h1, Saf.clsFrom]
  · intro hne
    rw [h1]
    by_cases a : bl C ∈ cl
    · have b : bl C ∈ ls.map bl := by
        by_cases b : bl C ∈ ls.map bl
        · exact b
        · exact absurd ⟨a, b⟩ hne
      rw [decide_eq_true b]
      simp
    · rw [decide_eq_false a]
      rfl

set_option maxRecDepth 100000 in
set_option maxHeartbeats 8000000 in
theorem rclasses_any (s : ByteArray) (v : Value) (cs : List ByteArray) (hs : s.size ≤ 90000) (hl : cs.length ≤ 100000) (w : World) (hv : StrArg w v cs) :
    Calls Tryz.prog 67 #[.string s, v] w fun e w' => e = .returned (.bool (Saf.classesB (cs.map bl) (bl s))) ∧ Below w.heap.size w w' := by
  obtain ⟨i0, hi, hz0, hz1, hz2⟩ := info_parts infoStr
  obtain ⟨R, hR⟩ : ∃ R, R = Saf.classesB (cs.map bl) (bl s) := ⟨_, rfl⟩
  rw [← hR]
  have H0 : Hid (ClsI R (cs.map bl) (bl s) [] 0 0) := hide ⟨Nat.le_refl _, by omega, Nat.zero_le _, fun _ => ⟨hR, fun j c _ h => by omega⟩, fun h => by omega⟩
  have HV := hide hv
  have CH : Hid (∀ (X : ByteArray) wx, Below w.heap.size w wx → Calls Tryz.prog 44 #[v, .string X] wx fun e w' => e = .returned (.bool (decide (bl X ∈ cs.map bl))) ∧ w' = wx) := hide (fun X wx h => rhas_any v cs X hl wx (hv.below h))
  obtain ⟨p0, cap0, rfl, -, -⟩ := hv
  clear hR
  go_enter Tryz.func67, Tryz.ntmps67
  go_wp2_with fail
  go_loopg [5, 6, 7] (s.size + 1) (fun g v5 v6 v7 wx => ∃ (f i m c : Nat) (q : Option Addr) (ls : List ByteArray), i + g = s.size + 1 ∧ f ≤ i ∧ v5 = .slice q m c ∧ v6 = .int .i64 (f : Int) ∧ v7 = .int .i64 (i : Int) ∧ m ≤ i ∧ Hid (m = ls.length ∧ wx.ownsRow w.heap.size 9 1 (.slice q m c) m (strV ls) ∧ Below w.heap.size w wx ∧ ClsI R (cs.map bl) (bl s) ls f i))
  case atStart => exact ⟨0, 0, 0, 0, none, [], by omega, by omega, rfl, rfl, rfl, by omega, hide ⟨rfl, ⟨rfl, .inl ⟨rfl, rfl⟩⟩, Below.refl _ _, H0.out⟩⟩
  case round =>
    obtain ⟨f, i, m, c, q, ls, hig, hfi, rfl, rfl, rfl, hmi, HU⟩ := hrel
    clear H0
    have hlen : (bl s).length = s.size := bl_len s
    by_cases hle : i ≤ s.size
    · by_cases hcont : ∃ d, (bl s)[i]? = some d ∧ d ≠ 32
      · obtain ⟨d, hd, hd32⟩ := hcont
        have hlt : i < s.size := by have := (List.getElem?_eq_some_iff.1 hd).1; omega
        have hx := idxK hd wr
        have hn32 : ((d.toNat : Int) != 32) = true := by
          have := neqK d 32 (by decide)
          rw [decide_eq_true (show d ≠ UInt8.ofNat 32 from hd32)] at this
          exact this
        have HU2 := hide (cls_more HU.out.2.2.2 hd hd32)
        generalize (d.toNat : Int) = dz at hx hn32
        clear hd hd32 hlen
        go_wp2_with fail
        go_roundg (s.size + 1 - i - 1)
        case measure => omega
        case rel => exact ⟨f, i + 1, m, c, q, ls, by omega, by omega, rfl, rfl, by first | rfl | simp, by omega, hide ⟨HU.out.1, HU.out.2.1, HU.out.2.2.1, HU2.out⟩⟩
      · have hend : i = s.size ∨ (bl s)[i]? = some 32 := by
          by_cases e : i = s.size
          · exact .inl e
          · obtain ⟨d, hd⟩ := getK s i (by omega)
            by_cases h : d = 32
            · exact .inr (by rw [hd, h])
            · exact absurd ⟨d, hd, h⟩ hcont
        obtain ⟨C, hC⟩ : ∃ C, C = s.extract f i := ⟨_, rfl⟩
        have hCb : bl C = ((bl s).drop f).take (i - f) := by rw [hC, extract_bl]
        obtain ⟨hy, hn⟩ := cls_part HU.out.2.2.2 (by rw [hlen]; exact hle) (by rw [hlen]; exact hend) hCb
        have C1 := hide (CH.out C wr HU.out.2.2.1)
        have C2 := hide (rhas_any (.slice q m c) ls C (by have := HU.out.1; omega) wr (by
          have h := HU.out.2.1
          rw [HU.out.1] at h ⊢
          exact own_arg h))
        have b0 : (0 : Int) ≤ (f : Int) := by omega
        have b1 : (f : Int) ≤ (i : Int) := by omega
        have b2 : (i : Int) ≤ (s.size : Int) := by omega
        clear hcont hCb hlen
        rcases hend with e | e
        focus
          have hlt : ¬ i < s.size := by omega
          clear e
          go_upto_region 8 with fail
          rw [← hC]
          clear hC
          go_wp2_with fail
          refine C1.out.mono ?_
          rintro e wx ⟨rfl, hwx⟩
          rw [hwx]
          clear hwx
          clear C1
          cases hm1 : decide (bl C ∈ cs.map bl) with
          | false =>
            have HR : Hid (R = false) := hide (hn (fun h => by rw [decide_eq_true h.1] at hm1; cases hm1))
            have HB := hide HU.out.2.2.1
            clear hy hn HU C2 hm1
            go_wp2_with fail
            go_ret
            rw [HR.out]
            exact ⟨rfl, HB.out⟩
          | true =>
            have hm1 := of_decide_eq_true hm1
            go_wp2_with fail
            refine C2.out.mono ?_
            rintro e wx ⟨rfl, hwx⟩
            rw [hwx]
            clear hwx
            clear C2
            cases hm2 : decide (bl C ∈ ls.map bl) with
            | true =>
              have HR : Hid (R = false) := hide (hn (fun h => h.2 (of_decide_eq_true hm2)))
              have HB := hide HU.out.2.2.1
              clear hy hn HU hm1 hm2
              go_wp2_with fail
              go_ret
              rw [HR.out]
              exact ⟨rfl, HB.out⟩
            | false =>
              have HN2 := hide (hy ⟨hm1, of_decide_eq_false hm2⟩)
              clear hy hn hm1 hm2
              have HOW : Hid ((wr.alloc (.cells #[.string C] 9)).ownsRow w.heap.size 9 1 (.slice q m c) m (strV ls)) := hide (HU.out.2.1.alloc _)
              have HSZ : Hid (w.heap.size ≤ (wr.alloc (.cells #[.string C] 9)).heap.size) := hide (by have := HU.out.2.2.1.size; simp; omega)
              go_wp2_with (at_builtin; refine wpList_append_own _ rfl _ _ 22 rfl w.heap.size 9 i0 _ 1 16 Tryz.underlying22 hi hz0 hz1 hz2 rfl (by decide) (.slice q m c) m (strV ls) rfl HOW.out ⟨wr.heap.size, 0, none⟩ 1 1 [.string C] rfl rfl (one_new _ _ _) (by simp [Value.oneCell']) (by unfold maxLen; omega) (by omega) HSZ.out ?_)
              intro u' w3 hown3 hg3 _
              obtain ⟨p', c', rfl, -⟩ := own_shape hown3
              have HR3 : Hid (m + 1 = (ls ++ [C]).length ∧ w3.ownsRow w.heap.size 9 1 (.slice p' (m + 1) c') (m + 1) (strV (ls ++ [C])) ∧ Below w.heap.size w w3) := hide ⟨by rw [List.length_append, ← HU.out.1]; rfl, by rw [strV_app]; exact hown3, (HU.out.2.2.1.alloc HU.out.2.2.1.size _).grown hg3 (by have := HU.out.2.2.1.size; simp; omega) (fun kk hk => (own_block HU.out.2.1 hk).1)⟩
              clear hown3 hg3 HOW HSZ HU
              go_wp2_with fail
              go_roundg (s.size + 1 - i - 1)
              case measure => omega
              case rel => exact ⟨i + 1, i + 1, m + 1, c', p', ls ++ [C], by omega, by omega, rfl, by first | rfl | simp, by first | rfl | simp, by omega, hide ⟨HR3.out.1, HR3.out.2.1, HR3.out.2.2, HN2.out⟩⟩
        focus
          have hlt : i < s.size := by have := (List.getElem?_eq_some_iff.1 e).1; rw [bl_len] at this; exact this
          have hx := idxK e wr
          clear e
          go_upto_region 8 with fail
          rw [← hC]
          clear hC hx
          go_wp2_with fail
          refine C1.out.mono ?_
          rintro e wx ⟨rfl, hwx⟩
          rw [hwx]
          clear hwx
          clear C1
          cases hm1 : decide (bl C ∈ cs.map bl) with
          | false =>
            have HR : Hid (R = false) := hide (hn (fun h => by rw [decide_eq_true h.1] at hm1; cases hm1))
            have HB := hide HU.out.2.2.1
            clear hy hn HU C2 hm1
            go_wp2_with fail
            go_ret
            rw [HR.out]
            exact ⟨rfl, HB.out⟩
          | true =>
            have hm1 := of_decide_eq_true hm1
            go_wp2_with fail
            refine C2.out.mono ?_
            rintro e wx ⟨rfl, hwx⟩
            rw [hwx]
            clear hwx
            clear C2
            cases hm2 : decide (bl C ∈ ls.map bl) with
            | true =>
              have HR : Hid (R = false) := hide (hn (fun h => h.2 (of_decide_eq_true hm2)))
              have HB := hide HU.out.2.2.1
              clear hy hn HU hm1 hm2
              go_wp2_with fail
              go_ret
              rw [HR.out]
              exact ⟨rfl, HB.out⟩
            | false =>
              have HN2 := hide (hy ⟨hm1, of_decide_eq_false hm2⟩)
              clear hy hn hm1 hm2
              have HOW : Hid ((wr.alloc (.cells #[.string C] 9)).ownsRow w.heap.size 9 1 (.slice q m c) m (strV ls)) := hide (HU.out.2.1.alloc _)
              have HSZ : Hid (w.heap.size ≤ (wr.alloc (.cells #[.string C] 9)).heap.size) := hide (by have := HU.out.2.2.1.size; simp; omega)
              go_wp2_with (at_builtin; refine wpList_append_own _ rfl _ _ 22 rfl w.heap.size 9 i0 _ 1 16 Tryz.underlying22 hi hz0 hz1 hz2 rfl (by decide) (.slice q m c) m (strV ls) rfl HOW.out ⟨wr.heap.size, 0, none⟩ 1 1 [.string C] rfl rfl (one_new _ _ _) (by simp [Value.oneCell']) (by unfold maxLen; omega) (by omega) HSZ.out ?_)
              intro u' w3 hown3 hg3 _
              obtain ⟨p', c', rfl, -⟩ := own_shape hown3
              have HR3 : Hid (m + 1 = (ls ++ [C]).length ∧ w3.ownsRow w.heap.size 9 1 (.slice p' (m + 1) c') (m + 1) (strV (ls ++ [C])) ∧ Below w.heap.size w w3) := hide ⟨by rw [List.length_append, ← HU.out.1]; rfl, by rw [strV_app]; exact hown3, (HU.out.2.2.1.alloc HU.out.2.2.1.size _).grown hg3 (by have := HU.out.2.2.1.size; simp; omega) (fun kk hk => (own_block HU.out.2.1 hk).1)⟩
              clear hown3 hg3 HOW HSZ HU
              go_wp2_with fail
              go_roundg (s.size + 1 - i - 1)
              case measure => omega
              case rel => exact ⟨i + 1, i + 1, m + 1, c', p', ls ++ [C], by omega, by omega, rfl, by first | rfl | simp, by first | rfl | simp, by omega, hide ⟨HR3.out.1, HR3.out.2.1, HR3.out.2.2, HN2.out⟩⟩
    · have HR : Hid (R = true) := hide (HU.out.2.2.2.off (by omega))
      have HB := hide HU.out.2.2.1
      clear HU hlen
      go_wp2_with fail
      go_ret
      rw [HR.out]
      exact ⟨rfl, HB.out⟩
end Go.Proofs.YtbcadeikdmlpoaaGreatDoor

namespace Go.Proofs.YtbcadeikdmlpoaaGreatDoor
open Go.RowKit
open Utf1 Pol8

set_option maxRecDepth 100000 in
set_option maxHeartbeats 16000000 in
theorem rvalue_any (v1 v2 v3 v4 v5 : Value) (p : Pol) (l1 l2 l3 l4 l5 : List ByteArray) (e n v : ByteArray) (w : World) (hv : PolV w v1 v2 v3 v4 v5 p l1 l2 l3 l4 l5) (hf : fits p) (he : e.size ≤ 100000) (hn : n.size ≤ 100000) (hz : v.size ≤ 90000) :
    Calls Tryz.prog 43 #[pval p v1 v2 v3 v4 v5, .string e, .agg #[.string n, .string v]] w fun r w' => r = .returned (.bool (Saf.valueB p (bl e) (bl n) (bl v))) ∧ Below w.heap.size w w' := by
  obtain ⟨R, hR⟩ : ∃ R, R = Saf.valueB p (bl e) (bl n) (bl v) := ⟨_, rfl⟩
  rw [← hR]
  unfold Saf.valueB at hR
  have HR := hide hR
  clear hR
  obtain ⟨f1, -⟩ := fits_of hf (by simp) hv.e1
  obtain ⟨f3, -⟩ := fits_of hf (by simp) hv.e3
  obtain ⟨f4, -⟩ := fits_of hf (by simp) hv.e4
  obtain ⟨f5, -⟩ := fits_of hf (by simp) hv.e5
  have HV := hide hv
  obtain ⟨o1, k1, rfl, -, -⟩ := hv.s1
  obtain ⟨o2, k2, rfl, -, -⟩ := hv.s2
  obtain ⟨o3, k3, rfl, -, -⟩ := hv.s3
  obtain ⟨o4, k4, rfl, -, -⟩ := hv.s4
  obtain ⟨o5, k5, rfl, -, -⟩ := hv.s5
  clear hv
  obtain ⟨w1, hw1⟩ : ∃ w1, w1 = (w.alloc (.cells #[.int .i64 p.ep, .slice o1 (List.length l1) k1, .slice o2 (List.length l2) k2, .slice o3 (List.length l3) k3, .slice o4 (List.length l4) k4, .slice o5 (List.length l5) k5, .int .i64 p.dp, .int .i64 p.nd, .int .i64 p.bt] 24)).alloc (.cells #[.string n, .string v] 33) := ⟨_, rfl⟩
  have H1 : Hid (BoxV w #[.int .i64 p.ep, .slice o1 (List.length l1) k1, .slice o2 (List.length l2) k2, .slice o3 (List.length l3) k3, .slice o4 (List.length l4) k4, .slice o5 (List.length l5) k5, .int .i64 p.dp, .int .i64 p.nd, .int .i64 p.bt] #[.string n, .string v] w1) := hide (by rw [hw1]; exact BoxV.new _ _ _)
  have SK : Hid (∀ wx, BoxV w #[.int .i64 p.ep, .slice o1 (List.length l1) k1, .slice o2 (List.length l2) k2, .slice o3 (List.length l3) k3, .slice o4 (List.length l4) k4, .slice o5 (List.length l5) k5, .int .i64 p.dp, .int .i64 p.nd, .int .i64 p.bt] #[.string n, .string v] wx → wx.cell? ⟨w.heap.size, 0, none⟩ = some (.int .i64 p.ep) ∧ wx.cell? ⟨w.heap.size, 1, none⟩ = some (.slice o1 (List.length l1) k1) ∧ wx.cell? ⟨w.heap.size, 2, none⟩ = some (.slice o2 (List.length l2) k2) ∧ wx.cell? ⟨w.heap.size, 3, none⟩ = some (.slice o3 (List.length l3) k3) ∧ wx.cell? ⟨w.heap.size, 4, none⟩ = some (.slice o4 (List.length l4) k4) ∧ wx.cell? ⟨w.heap.size, 5, none⟩ = some (.slice o5 (List.length l5) k5) ∧ wx.cell? ⟨w.heap.size, 6, none⟩ = some (.int .i64 p.dp) ∧ wx.cell? ⟨w.heap.size, 7, none⟩ = some (.int .i64 p.nd) ∧ wx.cell? ⟨w.heap.size, 8, none⟩ = some (.int .i64 p.bt) ∧ wx.cell? ⟨w.heap.size + 1, 0, none⟩ = some (.string n) ∧ wx.cell? ⟨w.heap.size + 1, 1, none⟩ = some (.string v) ∧ Hid (BoxV w #[.int .i64 p.ep, .slice o1 (List.length l1) k1, .slice o2 (List.length l2) k2, .slice o3 (List.length l3) k3, .slice o4 (List.length l4) k4, .slice o5 (List.length l5) k5, .int .i64 p.dp, .int .i64 p.nd, .int .i64 p.bt] #[.string n, .string v] wx)) := hide (fun wx h => ⟨h.a 0 _ rfl, h.a 1 _ rfl, h.a 2 _ rfl, h.a 3 _ rfl, h.a 4 _ rfl, h.a 5 _ rfl, h.a 6 _ rfl, h.a 7 _ rfl, h.a 8 _ rfl, h.b 0 _ rfl, h.b 1 _ rfl, hide h⟩)
  have SB : Hid (∀ wx, (wx.cell? ⟨w.heap.size, 0, none⟩ = some (.int .i64 p.ep) ∧ wx.cell? ⟨w.heap.size, 1, none⟩ = some (.slice o1 (List.length l1) k1) ∧ wx.cell? ⟨w.heap.size, 2, none⟩ = some (.slice o2 (List.length l2) k2) ∧ wx.cell? ⟨w.heap.size, 3, none⟩ = some (.slice o3 (List.length l3) k3) ∧ wx.cell? ⟨w.heap.size, 4, none⟩ = some (.slice o4 (List.length l4) k4) ∧ wx.cell? ⟨w.heap.size, 5, none⟩ = some (.slice o5 (List.length l5) k5) ∧ wx.cell? ⟨w.heap.size, 6, none⟩ = some (.int .i64 p.dp) ∧ wx.cell? ⟨w.heap.size, 7, none⟩ = some (.int .i64 p.nd) ∧ wx.cell? ⟨w.heap.size, 8, none⟩ = some (.int .i64 p.bt) ∧ wx.cell? ⟨w.heap.size + 1, 0, none⟩ = some (.string n) ∧ wx.cell? ⟨w.heap.size + 1, 1, none⟩ = some (.string v) ∧ Hid (BoxV w #[.int .i64 p.ep, .slice o1 (List.length l1) k1, .slice o2 (List.length l2) k2, .slice o3 (List.length l3) k3, .slice o4 (List.length l4) k4, .slice o5 (List.length l5) k5, .int .i64 p.dp, .int .i64 p.nd, .int .i64 p.bt] #[.string n, .string v] wx)) → BoxV w #[.int .i64 p.ep, .slice o1 (List.length l1) k1, .slice o2 (List.length l2) k2, .slice o3 (List.length l3) k3, .slice o4 (List.length l4) k4, .slice o5 (List.length l5) k5, .int .i64 p.dp, .int .i64 p.nd, .int .i64 p.bt] #[.string n, .string v] wx) := hide (fun wx h => h.2.2.2.2.2.2.2.2.2.2.2.out)
  have C1 : Hid (∀ wx, BoxV w #[.int .i64 p.ep, .slice o1 (List.length l1) k1, .slice o2 (List.length l2) k2, .slice o3 (List.length l3) k3, .slice o4 (List.length l4) k4, .slice o5 (List.length l5) k5, .int .i64 p.dp, .int .i64 p.nd, .int .i64 p.bt] #[.string n, .string v] wx → Calls Tryz.prog 44 #[.slice o1 l1.length k1, .string e] wx fun r w' => r = .returned (.bool (decide (bl e ∈ p.el))) ∧ w' = wx) := hide (fun wx h => by
    have := rhas_any (.slice o1 l1.length k1) l1 e f1 wx ((HV.out.below h.2.2).s1)
    rw [HV.out.e1] at this
    exact this)
  have C2 : Hid (∀ wx, BoxV w #[.int .i64 p.ep, .slice o1 (List.length l1) k1, .slice o2 (List.length l2) k2, .slice o3 (List.length l3) k3, .slice o4 (List.length l4) k4, .slice o5 (List.length l5) k5, .int .i64 p.dp, .int .i64 p.nd, .int .i64 p.bt] #[.string n, .string v] wx → Calls Tryz.prog 65 #[.string v, .slice o5 l5.length k5] wx fun r w' => r = .returned (.string ⟨(Sty.filt p.pr (bl v)).toArray⟩) ∧ BoxV w #[.int .i64 p.ep, .slice o1 (List.length l1) k1, .slice o2 (List.length l2) k2, .slice o3 (List.length l3) k3, .slice o4 (List.length l4) k4, .slice o5 (List.length l5) k5, .int .i64 p.dp, .int .i64 p.nd, .int .i64 p.bt] #[.string n, .string v] w') := hide (fun wx h => by
    have := Sy.rfilter_any v (.slice o5 l5.length k5) l5 hz f5 wx ((HV.out.below h.2.2).s5)
    rw [HV.out.e5] at this
    exact this.mono fun _ w' ⟨h1, h2⟩ => ⟨h1, h.keep h2⟩)
  have C3 : Hid (∀ wx, BoxV w #[.int .i64 p.ep, .slice o1 (List.length l1) k1, .slice o2 (List.length l2) k2, .slice o3 (List.length l3) k3, .slice o4 (List.length l4) k4, .slice o5 (List.length l5) k5, .int .i64 p.dp, .int .i64 p.nd, .int .i64 p.bt] #[.string n, .string v] wx → Calls Tryz.prog 66 #[.agg #[.int .i64 p.ep, .slice o1 (List.length l1) k1, .slice o2 (List.length l2) k2, .slice o3 (List.length l3) k3, .slice o4 (List.length l4) k4, .slice o5 (List.length l5) k5, .int .i64 p.dp, .int .i64 p.nd, .int .i64 p.bt], .string e, .string n] wx fun r w' => r = .returned (.bool (attrB p (bl e) (bl n))) ∧ BoxV w #[.int .i64 p.ep, .slice o1 (List.length l1) k1, .slice o2 (List.length l2) k2, .slice o3 (List.length l3) k3, .slice o4 (List.length l4) k4, .slice o5 (List.length l5) k5, .int .i64 p.dp, .int .i64 p.nd, .int .i64 p.bt] #[.string n, .string v] w') := hide (fun wx h => (rattrB_any _ _ _ _ _ p _ _ _ _ _ e n wx (HV.out.below h.2.2) hf he hn).mono fun _ w' ⟨h1, h2⟩ => ⟨h1, h.keep h2⟩)
  have C4 : Hid (∀ wx, BoxV w #[.int .i64 p.ep, .slice o1 (List.length l1) k1, .slice o2 (List.length l2) k2, .slice o3 (List.length l3) k3, .slice o4 (List.length l4) k4, .slice o5 (List.length l5) k5, .int .i64 p.dp, .int .i64 p.nd, .int .i64 p.bt] #[.string n, .string v] wx → Calls Tryz.prog 67 #[.string v, .slice o4 l4.length k4] wx fun r w' => r = .returned (.bool (Saf.classesB p.cl (bl v))) ∧ BoxV w #[.int .i64 p.ep, .slice o1 (List.length l1) k1, .slice o2 (List.length l2) k2, .slice o3 (List.length l3) k3, .slice o4 (List.length l4) k4, .slice o5 (List.length l5) k5, .int .i64 p.dp, .int .i64 p.nd, .int .i64 p.bt] #[.string n, .string v] w') := hide (fun wx h => by
    have := rclasses_any v (.slice o4 l4.length k4) l4 hz f4 wx ((HV.out.below h.2.2).s4)
    rw [HV.out.e4] at this
    exact this.mono fun _ w' ⟨h1, h2⟩ => ⟨h1, h.keep h2⟩)
  have C5 : Hid (∀ wx, BoxV w #[.int .i64 p.ep, .slice o1 (List.length l1) k1, .slice o2 (List.length l2) k2, .slice o3 (List.length l3) k3, .slice o4 (List.length l4) k4, .slice o5 (List.length l5) k5, .int .i64 p.dp, .int .i64 p.nd, .int .i64 p.bt] #[.string n, .string v] wx → Calls Tryz.prog 68 #[.string n] wx fun r w' => r = .returned (.bool (Saf.placeB (bl n))) ∧ BoxV w #[.int .i64 p.ep, .slice o1 (List.length l1) k1, .slice o2 (List.length l2) k2, .slice o3 (List.length l3) k3, .slice o4 (List.length l4) k4, .slice o5 (List.length l5) k5, .int .i64 p.dp, .int .i64 p.nd, .int .i64 p.bt] #[.string n, .string v] w') := hide (fun wx h => (rplace_any n wx).mono fun _ w' ⟨h1, h2⟩ => ⟨h1, h.keep h2⟩)
  have C6 : Hid (∀ wx, BoxV w #[.int .i64 p.ep, .slice o1 (List.length l1) k1, .slice o2 (List.length l2) k2, .slice o3 (List.length l3) k3, .slice o4 (List.length l4) k4, .slice o5 (List.length l5) k5, .int .i64 p.dp, .int .i64 p.nd, .int .i64 p.bt] #[.string n, .string v] wx → Calls Tryz.prog 69 #[.string v, .slice o3 l3.length k3] wx fun r w' => r = .returned (.bool (allowed (bl v) p.sc)) ∧ BoxV w #[.int .i64 p.ep, .slice o1 (List.length l1) k1, .slice o2 (List.length l2) k2, .slice o3 (List.length l3) k3, .slice o4 (List.length l4) k4, .slice o5 (List.length l5) k5, .int .i64 p.dp, .int .i64 p.nd, .int .i64 p.bt] #[.string n, .string v] w') := hide (fun wx h => by
    have := Ul.rallowed_any v (.slice o3 l3.length k3) l3 (by omega) f3 wx ((HV.out.below h.2.2).s3)
    rw [HV.out.e3] at this
    exact this.mono fun _ w' ⟨h1, h2⟩ => ⟨h1, h.keep h2⟩)
  clear HV hf f1 f3 f4 f5
  generalize decide (bl e ∈ p.el) = r1 at C1 HR
  generalize attrB p (bl e) (bl n) = r3 at C3 HR
  generalize Saf.classesB p.cl (bl v) = r4 at C4 HR
  generalize Saf.placeB (bl n) = r5 at C5 HR
  generalize allowed (bl v) p.sc = r6 at C6 HR
  obtain ⟨F, hF⟩ : ∃ F : ByteArray, F = ⟨(Sty.filt p.pr (bl v)).toArray⟩ := ⟨_, rfl⟩
  have hFb : bl F = Sty.filt p.pr (bl v) := by rw [hF]
  rw [← hF] at C2
  rw [← hFb] at HR
  clear hF hFb
  have g1 := eq_lit n [114, 101, 108]
  have g2 := eq_lit n [115, 116, 121, 108, 101]
  have g3 := eq_lit n [99, 108, 97, 115, 115]
  have g4 := eq_lit e [97]
  have g5 := eq_lit v [110, 111, 102, 111, 108, 108, 111, 119, 32, 110, 111, 111, 112, 101, 110, 101, 114]
  have g6 := ne_empty v
  have g6' := empty_bl v
  have g7 := eq_two F v
  obtain ⟨y0, y1, y2, y3, y4, y5, y6, y7, y8, z0, z1, -⟩ := SK.out w1 H1.out
  go_enter Tryz.func43, Tryz.ntmps43
  go_upto_region 1 with fail
  rw [← hw1]
  clear hw1
  go_wp2_with fail
  refine (C1.out _ H1.out).mono ?_
  rintro r wx ⟨rfl, hwx⟩
  rw [hwx]
  clear hwx C1
  cases r1 with
  | false =>
    have HN : Hid (R = false) := hide (by rw [HR.out]; rfl)
    clear HR
    go_wp2_with fail
    go_ret
    rw [HN.out]
    exact ⟨rfl, H1.out.2.2⟩
  | true =>
    rw [Bool.true_and] at HR
    by_cases hrel : bl n = [114, 101, 108]
    · rw [decide_eq_true hrel] at g1
      have HN : Hid (R = (decide (bl e = [97]) && decide (bl v = [110, 111, 102, 111, 108, 108, 111, 119, 32, 110, 111, 111, 112, 101, 110, 101, 114]))) := hide (by rw [HR.out, if_pos (show bl n = Saf.relN from hrel)]; rfl)
      clear HR hrel
      generalize decide (bl e = [97]) = t1 at g4 HN
      generalize decide (bl v = [110, 111, 102, 111, 108, 108, 111, 119, 32, 110, 111, 111, 112, 101, 110, 101, 114]) = t2 at g5 HN
      cases t1 with
      | false =>
        go_wp2_with fail
        go_ret
        rw [HN.out]
        exact ⟨rfl, H1.out.2.2⟩
      | true =>
        go_wp2_with fail
        go_ret
        rw [HN.out]
        exact ⟨ret_bool (by simp), H1.out.2.2⟩
    · rw [decide_eq_false hrel] at g1
      have HR2 := hide (HR.out.trans (if_neg hrel))
      clear HR hrel g4 g5
      by_cases hsty : bl n = [115, 116, 121, 108, 101]
      · rw [decide_eq_true hsty] at g2
        have HN : Hid (R = (decide (bl v ≠ []) && decide (bl F = bl v))) := hide (by rw [HR2.out, if_pos (show bl n = Saf.styN from hsty)])
        clear HR2 hsty
        by_cases hve : bl v = []
        · rw [decide_eq_false (fun h => h hve)] at g6 HN
          rw [decide_eq_true hve] at g6'
          go_wp2_with fail
          clear y0 y1 y2 y3 y4 y5 y6 y7 y8 z0 z1
          refine wp_region_held_drew (S := (fun wx => wx.cell? ⟨w.heap.size, 0, none⟩ = some (.int .i64 p.ep) ∧ wx.cell? ⟨w.heap.size, 1, none⟩ = some (.slice o1 (List.length l1) k1) ∧ wx.cell? ⟨w.heap.size, 2, none⟩ = some (.slice o2 (List.length l2) k2) ∧ wx.cell? ⟨w.heap.size, 3, none⟩ = some (.slice o3 (List.length l3) k3) ∧ wx.cell? ⟨w.heap.size, 4, none⟩ = some (.slice o4 (List.length l4) k4) ∧ wx.cell? ⟨w.heap.size, 5, none⟩ = some (.slice o5 (List.length l5) k5) ∧ wx.cell? ⟨w.heap.size, 6, none⟩ = some (.int .i64 p.dp) ∧ wx.cell? ⟨w.heap.size, 7, none⟩ = some (.int .i64 p.nd) ∧ wx.cell? ⟨w.heap.size, 8, none⟩ = some (.int .i64 p.bt) ∧ wx.cell? ⟨w.heap.size + 1, 0, none⟩ = some (.string n) ∧ wx.cell? ⟨w.heap.size + 1, 1, none⟩ = some (.string v) ∧ Hid (BoxV w #[.int .i64 p.ep, .slice o1 (List.length l1) k1, .slice o2 (List.length l2) k2, .slice o3 (List.length l3) k3, .slice o4 (List.length l4) k4, .slice o5 (List.length l5) k5, .int .i64 p.dp, .int .i64 p.nd, .int .i64 p.bt] #[.string n, .string v] wx))) (by kernel_rfl) (SK.out _ (H1.out.keep ((Below.refl _ _).drew))) (fun hHeld => ?_)
          refine wpAnyH_at (i := 0) (v := ?ve0) (a1 := ?xe0) rfl (by kernel_rfl) (by kernel_rfl) (by kernel_rfl) (fun _ _ _ h => h) (Or.inl ⟨by rfl, ?ye0⟩) (by assumption) ?he0 ?ze0
          case ye0 => (intro w hSw; (try dsimp only at hSw); go_simp; try (with_reducible rfl))
          case he0 => (go_simp; exact rfl)
          case ze0 =>
          refine wpAnyH_at (i := 1) (v := ?ve1) (a1 := ?xe1) rfl (by kernel_rfl) (by kernel_rfl) (by kernel_rfl) (fun _ _ _ h => h) (Or.inl ⟨by rfl, ?ye1⟩) (by assumption) ?he1 ?ze1
          case ye1 => (intro w hSw; (try dsimp only at hSw); go_simp; try (with_reducible rfl))
          case he1 => (go_simp; exact rfl)
          case ze1 =>
          refine wpAnyH_at (i := 2) (v := ?ve2) (a1 := ?xe2) rfl (by kernel_rfl) (by kernel_rfl) (by kernel_rfl) (fun _ _ _ h => h) (Or.inl ⟨by rfl, ?ye2⟩) (by assumption) ?he2 ?ze2
          case ye2 => (intro w hSw; (try dsimp only at hSw); go_simp; try (with_reducible rfl))
          case he2 => (go_simp; exact rfl)
          case ze2 =>
          refine wpAnyH_at (i := 3) (v := ?ve3) (a1 := ?xe3) rfl (by kernel_rfl) (by kernel_rfl) (by kernel_rfl) (fun _ _ _ h => h) (Or.inl ⟨by rfl, ?ye3⟩) (by assumption) ?he3 ?ze3
          case ye3 => (intro w hSw; (try dsimp only at hSw); go_simp; try (with_reducible rfl))
          case he3 => (go_simp; exact rfl)
          case ze3 =>
          refine wpAnyH_at (i := 4) (v := undef) (a1 := ?xe4) rfl (by kernel_rfl) (by kernel_rfl) (by kernel_rfl) (fun _ _ _ h => h) (Or.inr ⟨by rfl, rfl⟩) (by assumption) ?he4 ?ze4
          case he4 => (go_simp; exact rfl)
          case ze4 =>
          refine wpAnyH_at (i := 5) (v := undef) (a1 := ?xe5) rfl (by kernel_rfl) (by kernel_rfl) (by kernel_rfl) (fun _ _ _ h => h) (Or.inr ⟨by rfl, rfl⟩) (by assumption) ?he5 ?ze5
          case he5 => (go_simp; exact rfl)
          case ze5 =>
          refine wpAnyH_at (i := 6) (v := undef) (a1 := ?xe6) rfl (by kernel_rfl) (by kernel_rfl) (by kernel_rfl) (fun _ _ _ h => h) (Or.inr ⟨by rfl, rfl⟩) (by assumption) ?he6 ?ze6
          case he6 => (go_simp; exact rfl)
          case ze6 =>
          refine wpAnyH_at (i := 7) (v := undef) (a1 := ?xe7) rfl (by kernel_rfl) (by kernel_rfl) (by kernel_rfl) (fun _ _ _ h => h) (Or.inr ⟨by rfl, rfl⟩) (by assumption) ?he7 ?ze7
          case he7 => (go_simp; exact rfl)
          case ze7 =>
          refine wpAnyH_at (i := 8) (v := undef) (a1 := ?xe8) rfl (by kernel_rfl) (by kernel_rfl) (by kernel_rfl) (fun _ _ _ h => h) (Or.inr ⟨by rfl, rfl⟩) (by assumption) ?he8 ?ze8
          case he8 => (go_simp; exact rfl)
          case ze8 =>
          refine wpAnyH_at (i := 9) (v := undef) (a1 := ?xe9) rfl (by kernel_rfl) (by kernel_rfl) (by kernel_rfl) (fun _ _ _ h => h) (Or.inr ⟨by rfl, rfl⟩) (by assumption) ?he9 ?ze9
          case he9 => (go_simp; exact rfl)
          case ze9 =>
          refine wpAnyH_at (i := 10) (v := undef) (a1 := ?xe10) rfl (by kernel_rfl) (by kernel_rfl) (by kernel_rfl) (fun _ _ _ h => h) (Or.inr ⟨by rfl, rfl⟩) (by assumption) ?he10 ?ze10
          case he10 => (go_simp; exact rfl)
          case ze10 =>
          refine wpAnyH_at (i := 11) (v := undef) (a1 := ?xe11) rfl (by kernel_rfl) (by kernel_rfl) (by kernel_rfl) (fun _ _ _ h => h) (Or.inr ⟨by rfl, rfl⟩) (by assumption) ?he11 ?ze11
          case he11 => (go_simp; exact rfl)
          case ze11 =>
          refine wpAnyH_at (i := 12) (v := ?ve12) (a1 := ?xe12) rfl (by kernel_rfl) (by kernel_rfl) (by kernel_rfl) (fun _ _ _ h => h) (Or.inl ⟨by rfl, ?ye12⟩) (by assumption) ?he12 ?ze12
          case ye12 => (intro w hSw; (try dsimp only at hSw); go_simp; try (with_reducible rfl))
          case he12 => (go_simp; exact rfl)
          case ze12 =>
          refine wpAnyH_at (i := 13) (v := ?ve13) (a1 := ?xe13) rfl (by kernel_rfl) (by kernel_rfl) (by kernel_rfl) (fun _ _ _ h => h) (Or.inl ⟨by rfl, ?ye13⟩) (by assumption) ?he13 ?ze13
          case ye13 => (intro w hSw; (try dsimp only at hSw); go_simp; try (with_reducible rfl))
          case he13 => (go_simp; exact rfl)
          case ze13 =>
          refine wpAnyH_done (by kernel_rfl) ?_ _
          have H7 := hide (SB.out _ (by assumption))
          go_wp2_with fail
          go_ret
          rw [HN.out]
          exact ⟨rfl, H7.out.2.2⟩
        · rw [decide_eq_true hve] at g6 HN
          rw [decide_eq_false hve] at g6'
          generalize decide (bl F = bl v) = t2 at g7 HN
          go_wp2_with fail
          clear y0 y1 y2 y3 y4 y5 y6 y7 y8 z0 z1
          refine wp_region_held_drew (S := (fun wx => wx.cell? ⟨w.heap.size, 0, none⟩ = some (.int .i64 p.ep) ∧ wx.cell? ⟨w.heap.size, 1, none⟩ = some (.slice o1 (List.length l1) k1) ∧ wx.cell? ⟨w.heap.size, 2, none⟩ = some (.slice o2 (List.length l2) k2) ∧ wx.cell? ⟨w.heap.size, 3, none⟩ = some (.slice o3 (List.length l3) k3) ∧ wx.cell? ⟨w.heap.size, 4, none⟩ = some (.slice o4 (List.length l4) k4) ∧ wx.cell? ⟨w.heap.size, 5, none⟩ = some (.slice o5 (List.length l5) k5) ∧ wx.cell? ⟨w.heap.size, 6, none⟩ = some (.int .i64 p.dp) ∧ wx.cell? ⟨w.heap.size, 7, none⟩ = some (.int .i64 p.nd) ∧ wx.cell? ⟨w.heap.size, 8, none⟩ = some (.int .i64 p.bt) ∧ wx.cell? ⟨w.heap.size + 1, 0, none⟩ = some (.string n) ∧ wx.cell? ⟨w.heap.size + 1, 1, none⟩ = some (.string v) ∧ Hid (BoxV w #[.int .i64 p.ep, .slice o1 (List.length l1) k1, .slice o2 (List.length l2) k2, .slice o3 (List.length l3) k3, .slice o4 (List.length l4) k4, .slice o5 (List.length l5) k5, .int .i64 p.dp, .int .i64 p.nd, .int .i64 p.bt] #[.string n, .string v] wx))) (by kernel_rfl) (SK.out _ (H1.out.keep ((Below.refl _ _).drew))) (fun hHeld => ?_)
          refine wpAnyH_at (i := 0) (v := ?vf0) (a1 := ?xf0) rfl (by kernel_rfl) (by kernel_rfl) (by kernel_rfl) (fun _ _ _ h => h) (Or.inl ⟨by rfl, ?yf0⟩) (by assumption) ?hf0 ?zf0
          case yf0 => (intro w hSw; (try dsimp only at hSw); go_simp; try (with_reducible rfl))
          case hf0 => (go_simp; exact rfl)
          case zf0 =>
          refine wpAnyH_at (i := 1) (v := ?vf1) (a1 := ?xf1) rfl (by kernel_rfl) (by kernel_rfl) (by kernel_rfl) (fun _ _ _ h => h) (Or.inl ⟨by rfl, ?yf1⟩) (by assumption) ?hf1 ?zf1
          case yf1 => (intro w hSw; (try dsimp only at hSw); go_simp; try (with_reducible rfl))
          case hf1 => (go_simp; exact rfl)
          case zf1 =>
          refine wpAnyH_at (i := 2) (v := ?vf2) (a1 := ?xf2) rfl (by kernel_rfl) (by kernel_rfl) (by kernel_rfl) (fun _ _ _ h => h) (Or.inl ⟨by rfl, ?yf2⟩) (by assumption) ?hf2 ?zf2
          case yf2 => (intro w hSw; (try dsimp only at hSw); go_simp; try (with_reducible rfl))
          case hf2 => (go_simp; exact rfl)
          case zf2 =>
          refine wpAnyH_at (i := 3) (v := ?vf3) (a1 := ?xf3) rfl (by kernel_rfl) (by kernel_rfl) (by kernel_rfl) (fun _ _ _ h => h) (Or.inl ⟨by rfl, ?yf3⟩) (by assumption) ?hf3 ?zf3
          case yf3 => (intro w hSw; (try dsimp only at hSw); go_simp; try (with_reducible rfl))
          case hf3 => (go_simp; exact rfl)
          case zf3 =>
          refine wpAnyH_at (i := 4) (v := ?vf4) (a1 := ?xf4) rfl (by kernel_rfl) (by kernel_rfl) (by kernel_rfl) (fun _ _ _ h => h) (Or.inl ⟨by rfl, ?yf4⟩) (by assumption) ?hf4 ?zf4
          case yf4 => (intro w hSw; (try dsimp only at hSw); go_simp; try (with_reducible rfl))
          case hf4 => (go_simp; exact rfl)
          case zf4 =>
          refine wpAnyH_at (i := 5) (v := ?vf5) (a1 := ?xf5) rfl (by kernel_rfl) (by kernel_rfl) (by kernel_rfl) (fun _ _ _ h => h) (Or.inl ⟨by rfl, ?yf5⟩) (by assumption) ?hf5 ?zf5
          case yf5 => (intro w hSw; (try dsimp only at hSw); go_simp; try (with_reducible rfl))
          case hf5 => (go_simp; exact rfl)
          case zf5 =>
          refine wpAnyH_at (i := 6) (v := ?vf6) (a1 := ?xf6) rfl (by kernel_rfl) (by kernel_rfl) (by kernel_rfl) (fun _ _ _ h => h) (Or.inl ⟨by rfl, ?yf6⟩) (by assumption) ?hf6 ?zf6
          case yf6 => (intro w hSw; (try dsimp only at hSw); go_simp; try (with_reducible rfl))
          case hf6 => (go_simp; exact rfl)
          case zf6 =>
          refine wpAnyH_at (i := 7) (v := ?vf7) (a1 := ?xf7) rfl (by kernel_rfl) (by kernel_rfl) (by kernel_rfl) (fun _ _ _ h => h) (Or.inl ⟨by rfl, ?yf7⟩) (by assumption) ?hf7 ?zf7
          case yf7 => (intro w hSw; (try dsimp only at hSw); go_simp; try (with_reducible rfl))
          case hf7 => (go_simp; exact rfl)
          case zf7 =>
          refine wpAnyH_at (i := 9) (v := ?vf9) (a1 := ?xf9) rfl (by kernel_rfl) (by kernel_rfl) (by kernel_rfl) (fun _ _ _ h => h) (Or.inl ⟨by rfl, ?yf9⟩) (by assumption) ?hf9 ?zf9
          case yf9 => (intro w hSw; (try dsimp only at hSw); go_simp; try (with_reducible rfl))
          case hf9 => (go_simp; exact rfl)
          case zf9 =>
          refine wpAnyH_at (i := 10) (v := ?vf10) (a1 := ?xf10) rfl (by kernel_rfl) (by kernel_rfl) (by kernel_rfl) (fun _ _ _ h => h) (Or.inl ⟨by rfl, ?yf10⟩) (by assumption) ?hf10 ?zf10
          case yf10 => (intro w hSw; (try dsimp only at hSw); go_simp; try (with_reducible rfl))
          case hf10 => (go_simp; exact rfl)
          case zf10 =>
          refine wpAnyH_ready (rs := [8]) (by kernel_rfl) (by simp) ?_
          refine AllReadyH.cons rfl (fun K hK => ?_) AllReadyH.nil
          go_simp
          refine (C2.out _ (SB.out _ (by assumption))).mono ?_
          rintro r w6 ⟨rfl, h6⟩
          try go_wp2_with fail
          refine hK.out _ _ (SK.out _ (by assumption)) (fun hHeld2 => ?_)
          clear hK K hHeld
          have hHeld := hHeld2
          clear hHeld2
          refine wpAnyH_at (i := 11) (v := ?vf11) (a1 := ?xf11) rfl (by kernel_rfl) (by kernel_rfl) (by kernel_rfl) (fun _ _ _ h => h) (Or.inl ⟨by rfl, ?yf11⟩) (by assumption) ?hf11 ?zf11
          case yf11 => (intro w hSw; (try dsimp only at hSw); go_simp; try (with_reducible rfl))
          case hf11 => (go_simp; exact rfl)
          case zf11 =>
          refine wpAnyH_at (i := 12) (v := ?vf12) (a1 := ?xf12) rfl (by kernel_rfl) (by kernel_rfl) (by kernel_rfl) (fun _ _ _ h => h) (Or.inl ⟨by rfl, ?yf12⟩) (by assumption) ?hf12 ?zf12
          case yf12 => (intro w hSw; (try dsimp only at hSw); go_simp; try (with_reducible rfl))
          case hf12 => (go_simp; exact rfl)
          case zf12 =>
          refine wpAnyH_at (i := 13) (v := ?vf13) (a1 := ?xf13) rfl (by kernel_rfl) (by kernel_rfl) (by kernel_rfl) (fun _ _ _ h => h) (Or.inl ⟨by rfl, ?yf13⟩) (by assumption) ?hf13 ?zf13
          case yf13 => (intro w hSw; (try dsimp only at hSw); go_simp; try (with_reducible rfl))
          case hf13 => (go_simp; exact rfl)
          case zf13 =>
          refine wpAnyH_done (by kernel_rfl) ?_ _
          have H7 := hide (SB.out _ (by assumption))
          go_wp2_with fail
          go_ret
          rw [HN.out]
          exact ⟨ret_bool (by simp), H7.out.2.2⟩
      · rw [decide_eq_false hsty] at g2
        have HR3 := hide (HR2.out.trans (if_neg hsty))
        clear HR2 hsty C2 g7
        go_wp2_with fail
        refine (C3.out _ H1.out).mono ?_
        rintro r w2 ⟨rfl, h2⟩
        have H2 := hide h2
        clear h2 C3 H1 y0 y1 y2 y3 y4 y5 y6 y7 y8 z0 z1
        obtain ⟨y0, y1, y2, y3, y4, y5, y6, y7, y8, z0, z1, -⟩ := SK.out w2 H2.out
        cases r3 with
        | false =>
          have HN : Hid (R = false) := hide (by rw [HR3.out]; rfl)
          clear HR3
          go_wp2_with fail
          go_ret
          rw [HN.out]
          exact ⟨rfl, H2.out.2.2⟩
        | true =>
          rw [Bool.true_and] at HR3
          by_cases hcl : bl n = [99, 108, 97, 115, 115]
          · rw [decide_eq_true hcl] at g3
            have HN : Hid (R = (decide (bl v ≠ []) && r4)) := hide (by rw [HR3.out, if_pos (show bl n = Saf.clsN from hcl)])
            clear HR3 hcl
            by_cases hve : bl v = []
            · rw [decide_eq_false (fun h => h hve)] at g6 HN
              rw [decide_eq_true hve] at g6'
              go_wp2_with fail
              go_ret
              rw [HN.out]
              exact ⟨rfl, H2.out.2.2⟩
            · rw [decide_eq_true hve] at g6 HN
              rw [decide_eq_false hve] at g6'
              go_wp2_with fail
              refine (C4.out _ H2.out).mono ?_
              rintro r w3 ⟨rfl, h3⟩
              have H3 := hide h3
              clear h3 C4 H2 y0 y1 y2 y3 y4 y5 y6 y7 y8 z0 z1
              go_wp2_with fail
              go_ret
              rw [HN.out]
              exact ⟨ret_bool (by simp), H3.out.2.2⟩
          · rw [decide_eq_false hcl] at g3
            have HN : Hid (R = (!r5 || r6)) := hide (HR3.out.trans (if_neg hcl))
            clear HR3 hcl
            go_wp2_with fail
            refine (C5.out _ H2.out).mono ?_
            rintro r w3 ⟨rfl, h3⟩
            have H3 := hide h3
            clear h3 C5 H2 y0 y1 y2 y3 y4 y5 y6 y7 y8 z0 z1
            obtain ⟨y0, y1, y2, y3, y4, y5, y6, y7, y8, z0, z1, -⟩ := SK.out w3 H3.out
            cases r5 with
            | false =>
              go_wp2_with fail
              go_ret
              rw [HN.out]
              exact ⟨rfl, H3.out.2.2⟩
            | true =>
              go_wp2_with fail
              refine (C6.out _ H3.out).mono ?_
              rintro r w4 ⟨rfl, h4⟩
              have H4 := hide h4
              clear h4 C6 H3 y0 y1 y2 y3 y4 y5 y6 y7 y8 z0 z1
              go_wp2_with fail
              go_ret
              rw [HN.out]
              exact ⟨ret_bool (by simp), H4.out.2.2⟩
end Go.Proofs.YtbcadeikdmlpoaaGreatDoor

namespace Go.Proofs.YtbcadeikdmlpoaaGreatDoor
open Go.RowKit
open Utf1 Pol8

theorem hasB_yes {a : Saf.At} {n : L} {i : Nat} {kv : L × L} (h : a[i]? = some kv) (e : kv.1 = n) : Saf.hasB a n = true := by
  unfold Saf.hasB
  rw [List.any_eq_true]
  exact ⟨kv, List.mem_of_getElem? h, decide_eq_true e⟩
theorem hasB_no {a : Saf.At} {n : L} (h : ∀ (j : Nat) (kv : L × L), j < a.length → a[j]? = some kv → kv.1 ≠ n) : Saf.hasB a n = false := by
  unfold Saf.hasB
  rw [List.any_eq_false]
  intro kv hkv
  obtain ⟨j, hj⟩ := List.getElem?_of_mem hkv
  have := h j kv (List.getElem?_eq_some_iff.1 hj).1 hj
  rw [decide_eq_false this]
  decide
theorem bl_mk (l : L) : bl (⟨l.toArray⟩ : ByteArray) = l := rfl

set_option maxRecDepth 100000 in
set_option maxHeartbeats 8000000 in
theorem rhasA_any (XN XT : ByteArray) (ap kp : Option Addr) (am ac km kc : Nat) (at' : Saf.At) (n : ByteArray) (w : World) (har : Dm.ARow w ap am at') :
    Calls Tryz.prog 70 #[.agg #[.string XN, .slice ap am ac, .string XT, .slice kp km kc], .string n] w fun e w' => e = .returned (.bool (Saf.hasB at' (bl n))) ∧ Below w.heap.size w w' := by
  obtain ⟨R, hR⟩ : ∃ R, R = Saf.hasB at' (bl n) := ⟨_, rfl⟩
  rw [← hR]
  have HR := hide hR
  have HAR := hide har
  have hm := har.1.2
  have hml := har.1.1
  have HML := hide hml
  obtain ⟨w1, hw1⟩ : ∃ w1, w1 = w.alloc (.cells #[.string XN, .slice ap am ac, .string XT, .slice kp km kc] 36) := ⟨_, rfl⟩
  have H1 : Hid (BoxN w #[.string XN, .slice ap am ac, .string XT, .slice kp km kc] w1) := hide (by rw [hw1]; exact BoxN.new _ _)
  clear har hR hml
  go_enter Tryz.func70, Tryz.ntmps70
  go_upto_region 1 with fail
  rw [← hw1]
  clear hw1
  go_wp2_with fail
  go_loopg [5] am (fun g v5 wx => ∃ i : Nat, i + g = am ∧ v5 = .int .i64 (i : Int) ∧ Hid (BoxN w #[.string XN, .slice ap am ac, .string XT, .slice kp km kc] wx ∧ ∀ (j : Nat) (kv : L × L), j < i → at'[j]? = some kv → kv.1 ≠ bl n))
  case atStart => exact ⟨0, by omega, rfl, hide ⟨H1.out, fun j kv hj => by omega⟩⟩
  case round =>
    obtain ⟨i, hi, rfl, HU⟩ := hrel
    clear H1
    have y1 := HU.out.1.cell 1 _ rfl
    by_cases hlt : i < am
    · obtain ⟨kv, hkv⟩ : ∃ kv, at'[i]? = some kv := ⟨_, List.getElem?_eq_getElem (by have := HML.out; omega)⟩
      obtain ⟨b, off, rfl, c0, -, -, -⟩ := HAR.out.2 i kv hkv
      have c0 := cell_keep c0 HU.out.1.2
      obtain ⟨X, hX⟩ : ∃ X : ByteArray, X = ⟨kv.1.toArray⟩ := ⟨_, rfl⟩
      rw [← hX] at c0
      have hXb : bl X = kv.1 := by rw [hX]
      have heq := eq_two X n
      rw [hXb] at heq
      have HKV := hide hkv
      clear hX hXb hkv
      by_cases he : kv.1 = bl n
      · rw [decide_eq_true he] at heq
        have HN : Hid (R = true) := hide (by rw [HR.out]; exact hasB_yes HKV.out he)
        have HB := hide HU.out.1.2
        clear he HU HR
        go_wp2_with fail
        go_ret
        rw [HN.out]
        exact ⟨rfl, HB.out⟩
      · rw [decide_eq_false he] at heq
        have HNE := hide he
        clear he
        go_wp2_with fail
        go_roundg (am - i - 1)
        case measure => omega
        case rel => exact ⟨i + 1, by omega, by first | rfl | simp, hide ⟨HU.out.1, fun j x hj hjx => by
          by_cases e : j = i
          · subst e
            rw [HKV.out] at hjx
            cases hjx
            exact HNE.out
          · exact HU.out.2 j x (by omega) hjx⟩⟩
    · have HN : Hid (R = false) := hide (by rw [HR.out]; exact hasB_no (fun j kv hj hjk => HU.out.2 j kv (by have := HML.out; omega) hjk))
      have HB := hide HU.out.1.2
      clear HU HR
      go_wp2_with fail
      go_ret
      rw [HN.out]
      exact ⟨rfl, HB.out⟩
theorem has_len {a : Saf.At} {n : L} (h : Saf.hasB a n = true) : 0 < a.length := by
  cases a with
  | nil => cases h
  | cons x r => simp
set_option maxRecDepth 100000 in
set_option maxHeartbeats 8000000 in
theorem rlinked_any (XN XT : ByteArray) (ap kp : Option Addr) (am ac km kc : Nat) (at' : Saf.At) (w : World) (har : Dm.ARow w ap am at') :
    Calls Tryz.prog 45 #[.agg #[.string XN, .slice ap am ac, .string XT, .slice kp km kc]] w fun e w' => e = .returned (.bool (Saf.linkedB at')) ∧ Below w.heap.size w w' := by
  obtain ⟨R, hR⟩ : ∃ R, R = Saf.linkedB at' := ⟨_, rfl⟩
  rw [← hR]
  unfold Saf.linkedB at hR
  have HR := hide hR
  have HAR := hide har
  have hm := har.1.2
  have hml := har.1.1
  have HML := hide hml
  obtain ⟨w1, hw1⟩ : ∃ w1, w1 = w.alloc (.cells #[.string XN, .slice ap am ac, .string XT, .slice kp km kc] 36) := ⟨_, rfl⟩
  have H1 : Hid (BoxN w #[.string XN, .slice ap am ac, .string XT, .slice kp km kc] w1) := hide (by rw [hw1]; exact BoxN.new _ _)
  have CH : Hid (∀ (n : ByteArray) wx, BoxN w #[.string XN, .slice ap am ac, .string XT, .slice kp km kc] wx → Calls Tryz.prog 70 #[.agg #[.string XN, .slice ap am ac, .string XT, .slice kp km kc], .string n] wx fun e w' => e = .returned (.bool (Saf.hasB at' (bl n))) ∧ BoxN w #[.string XN, .slice ap am ac, .string XT, .slice kp km kc] w') := hide (fun n wx h => (rhasA_any XN XT ap kp am ac km kc at' n wx (HAR.out.below h.2)).mono fun _ w' ⟨h1, h2⟩ => ⟨h1, h.keep h2⟩)
  have HY : Hid (∀ wx, BoxN w #[.string XN, .slice ap am ac, .string XT, .slice kp km kc] wx → wx.cell? ⟨w.heap.size, 0, none⟩ = some (.string XN) ∧ wx.cell? ⟨w.heap.size, 1, none⟩ = some (.slice ap am ac) ∧ wx.cell? ⟨w.heap.size, 2, none⟩ = some (.string XT) ∧ wx.cell? ⟨w.heap.size, 3, none⟩ = some (.slice kp km kc)) := hide (fun wx h => ⟨h.cell 0 _ rfl, h.cell 1 _ rfl, h.cell 2 _ rfl, h.cell 3 _ rfl⟩)
  have K1 := hide (CH.out ⟨#[104, 114, 101, 102]⟩)
  have K2 := hide (CH.out ⟨#[114, 101, 108]⟩)
  rw [show bl (⟨#[104, 114, 101, 102]⟩ : ByteArray) = Saf.href from rfl] at K1
  rw [show bl (⟨#[114, 101, 108]⟩ : ByteArray) = Saf.relN from rfl] at K2
  clear har hR hml CH
  obtain ⟨y0, y1, y2, y3⟩ := HY.out w1 H1.out
  go_enter Tryz.func45, Tryz.ntmps45
  go_upto_region 1 with fail
  rw [← hw1]
  clear hw1
  go_wp2_with fail
  refine (K1.out _ H1.out).mono ?_
  rintro e w2 ⟨rfl, h2⟩
  have H2 := hide h2
  clear h2 K1 H1 y0 y1 y2 y3
  obtain ⟨y0, y1, y2, y3⟩ := HY.out w2 H2.out
  cases hh : Saf.hasB at' Saf.href with
  | false =>
    have HN : Hid (R = !Saf.hasB at' Saf.relN) := hide (by rw [HR.out, if_neg (by rw [hh]; decide)])
    generalize Saf.hasB at' Saf.relN = r at K2 HN
    clear HR hh
    go_wp2_with fail
    refine (K2.out _ H2.out).mono ?_
    rintro e w3 ⟨rfl, h3⟩
    have H3 := hide h3
    clear h3 K2 H2 y0 y1 y2 y3
    go_wp2_with fail
    go_ret
    rw [HN.out]
    exact ⟨rfl, H3.out.2⟩
  | true =>
    have hpos := has_len hh
    have HN : Hid (R = Saf.lastB at' Saf.relN) := hide (by rw [HR.out, if_pos hh])
    obtain ⟨k, rfl⟩ : ∃ k, am = k + 1 := ⟨am - 1, by have := HML.out; omega⟩
    obtain ⟨kv, hkv⟩ : ∃ kv, at'[k]? = some kv := ⟨_, List.getElem?_eq_getElem (by have := HML.out; omega)⟩
    obtain ⟨b, off, rfl, c0, -, -, -⟩ := HAR.out.2 k kv hkv
    have c0 := cell_keep c0 H2.out.2
    obtain ⟨X, hX⟩ : ∃ X : ByteArray, X = ⟨kv.1.toArray⟩ := ⟨_, rfl⟩
    rw [← hX] at c0
    have hXb : bl X = kv.1 := by rw [hX]
    have heq := eq_lit X [114, 101, 108]
    rw [hXb] at heq
    have HL : Hid (R = decide (kv.1 = [114, 101, 108])) := hide (by
      rw [HN.out]
      unfold Saf.lastB
      rw [List.getLast?_eq_getElem?, show at'.length - 1 = k by have := HML.out; omega, hkv]
      show decide (some kv.1 = some Saf.relN) = _
      by_cases h : kv.1 = [114, 101, 108]
      · rw [decide_eq_true h, decide_eq_true (by rw [h]; rfl)]
      · rw [decide_eq_false h]
        exact decide_eq_false (fun e => h (Option.some.inj e)))
    generalize decide (kv.1 = [114, 101, 108]) = r at heq HL
    have hwk : IntKind.i64.wrap (k : Int) = (k : Int) := IntWalk.i64_in _ (by omega)
    clear HN HR hh hX hXb hkv hpos K2
    have hk1 : k < k + 1 := by omega
    go_wp2_with fail
    go_ret
    rw [HL.out]
    exact ⟨rfl, H2.out.2⟩
end Go.Proofs.YtbcadeikdmlpoaaGreatDoor

namespace Go.Proofs.YtbcadeikdmlpoaaGreatDoor
open Go.RowKit
open Utf1 Pol8

theorem innerL_no {p : Pol} : ∀ {ns : List Nd} {i : Nat} {x : Nd}, ns[i]? = some x → Saf.innerN p x = false → Saf.innerL p ns = false
  | [], i, x, h, _ => by simp at h
  | y :: r, 0, x, h, hx => by
    have e : y = x := by simpa using h
    subst e
    rw [Saf.innerL, hx]
    rfl
  | y :: r, i + 1, x, h, hx => by
    rw [Saf.innerL, innerL_no (ns := r) (i := i) (by simpa using h) hx, Bool.and_false]
theorem innerL_yes {p : Pol} : ∀ {ns : List Nd}, (∀ (i : Nat) (x : Nd), ns[i]? = some x → Saf.innerN p x = true) → Saf.innerL p ns = true
  | [], _ => by rw [Saf.innerL]
  | y :: r, h => by
    rw [Saf.innerL, h 0 y rfl, innerL_yes (ns := r) (fun i x hx => h (i + 1) x (by simpa using hx))]
    rfl
theorem ws_node : ∀ {ns : List Nd} {i : Nat} {x : Nd}, ns[i]? = some x → wsN x ≤ wsL ns
  | [], i, x, h => by simp at h
  | y :: r, 0, x, h => by
    have e : y = x := by simpa using h
    subst e
    rw [wsL]
    omega
  | y :: r, i + 1, x, h => by
    have := ws_node (ns := r) (i := i) (x := x) (by simpa using h)
    rw [wsL]
    omega
theorem wa_attr : ∀ {l : Saf.At} {i : Nat} {kv : L × L}, l[i]? = some kv → kv.1.length + kv.2.length ≤ waL l
  | [], i, x, h => by simp at h
  | y :: r, 0, x, h => by
    have e : y = x := by simpa using h
    subst e
    rw [waL]
    omega
  | y :: r, i + 1, x, h => by
    have := wa_attr (l := r) (i := i) (kv := x) (by simpa using h)
    rw [waL]
    omega
/-- A policy's block below, a node's block on top. -/
def Box2 (w wz : World) (A B : Array Value) (wx : World) : Prop := BoxP w A wx ∧ BoxN wz B wx
theorem Box2.keep {w wz wx wy : World} {A B : Array Value} (h : Box2 w wz A B wx) (hb : Below wx.heap.size wx wy) : Box2 w wz A B wy := ⟨h.1.keep hb, h.2.keep hb⟩

set_option maxRecDepth 100000 in
set_option maxHeartbeats 16000000 in
theorem rinner_nst (v1 v2 v3 v4 v5 : Value) (p : Pol) (l1 l2 l3 l4 l5 : List ByteArray) (hf : fits p) : ∀ (D : Nat) (w : World) (v : Value) (ns : List Nd), PolV w v1 v2 v3 v4 v5 p l1 l2 l3 l4 l5 → Dm.NAtD w D v ns → wsL ns ≤ 20000 →
    Calls Tryz.prog 22 #[pval p v1 v2 v3 v4 v5, v] w fun e w' => e = .returned (.bool (Saf.innerL p ns)) ∧ Below w.heap.size w w' := by
  intro D
  induction D with
  | zero => intro w v ns _ h; exact h.elim
  | succ D0 ih =>
  intro w v ns hv hk hws
  obtain ⟨pp, c, rfl, hNm, hnode⟩ := hk
  have HNODE := hide hnode
  have HIH := hide ih
  have HV := hide hv
  have HF := hide hf
  have HWS := hide hws
  obtain ⟨R, hR⟩ : ∃ R, R = Saf.innerL p ns := ⟨_, rfl⟩
  rw [← hR]
  have HR := hide hR
  obtain ⟨N, hN⟩ : ∃ N, N = ns.length := ⟨_, rfl⟩
  rw [← hN] at hNm ⊢
  have HN := hide hN
  obtain ⟨o1, k1, rfl, -, -⟩ := hv.s1
  obtain ⟨o2, k2, rfl, -, -⟩ := hv.s2
  obtain ⟨o3, k3, rfl, -, -⟩ := hv.s3
  obtain ⟨o4, k4, rfl, -, -⟩ := hv.s4
  obtain ⟨o5, k5, rfl, -, -⟩ := hv.s5
  obtain ⟨w1, hw1⟩ : ∃ w1, w1 = w.alloc (.cells #[.int .i64 p.ep, .slice o1 (List.length l1) k1, .slice o2 (List.length l2) k2, .slice o3 (List.length l3) k3, .slice o4 (List.length l4) k4, .slice o5 (List.length l5) k5, .int .i64 p.dp, .int .i64 p.nd, .int .i64 p.bt] 24) := ⟨_, rfl⟩
  have H1 : Hid (BoxP w #[.int .i64 p.ep, .slice o1 (List.length l1) k1, .slice o2 (List.length l2) k2, .slice o3 (List.length l3) k3, .slice o4 (List.length l4) k4, .slice o5 (List.length l5) k5, .int .i64 p.dp, .int .i64 p.nd, .int .i64 p.bt] w1) := hide (by rw [hw1]; exact ⟨new_block _ _ _, bel_alloc (Below.refl _ _) _⟩)
  clear hnode ih hN hv hR hws hf
  go_enter Tryz.func22, Tryz.ntmps22
  go_upto_region 1 with fail
  rw [← hw1]
  clear hw1
  go_wp2_with fail
  go_loopg [5] N (fun g v5 wx => ∃ i : Nat, i + g = N ∧ v5 = .int .i64 (i : Int) ∧ Hid (BoxP w #[.int .i64 p.ep, .slice o1 (List.length l1) k1, .slice o2 (List.length l2) k2, .slice o3 (List.length l3) k3, .slice o4 (List.length l4) k4, .slice o5 (List.length l5) k5, .int .i64 p.dp, .int .i64 p.nd, .int .i64 p.bt] wx ∧ ∀ (j : Nat) (x : Nd), j < i → ns[j]? = some x → Saf.innerN p x = true))
  case atStart => exact ⟨0, by omega, rfl, hide ⟨H1.out, fun j x hj => by omega⟩⟩
  case round =>
    obtain ⟨i, hi, rfl, HU⟩ := hrel
    clear H1
    obtain ⟨wz, hwz⟩ : ∃ wz, wz = wr := ⟨_, rfl⟩
    subst hwz
    by_cases hlt : i < N
    · obtain ⟨nd, hnd⟩ : ∃ nd, ns[i]? = some nd := ⟨_, List.getElem?_eq_getElem (by have := HN.out; omega)⟩
      obtain ⟨g, off, ap, am, ac, kp, km, kc, rfl, x0, x1, x2, x3, -, har, hkk⟩ := HNODE.out i nd hnd
      have x0 := cell_keep x0 HU.out.1.2
      have x1 := cell_keep x1 HU.out.1.2
      have x2 := cell_keep x2 HU.out.1.2
      have x3 := cell_keep x3 HU.out.1.2
      obtain ⟨XN, hXN⟩ : ∃ X : ByteArray, X = ⟨nd.name.toArray⟩ := ⟨_, rfl⟩
      obtain ⟨XT, hXT⟩ : ∃ X : ByteArray, X = ⟨nd.text.toArray⟩ := ⟨_, rfl⟩
      rw [← hXN] at x0
      rw [← hXT] at x2
      have HXN : Hid (bl XN = nd.name) := hide (by rw [hXN])
      have HND := hide hnd
      have HAR := hide har
      have HKK := hide hkk
      have hwn := ws_node hnd
      rw [wsN_kids] at hwn
      have HWN := hide hwn
      clear hXN hXT hnd har hkk hwn
      obtain ⟨w2, hw2⟩ : ∃ w2, w2 = wz.alloc (.cells #[.string XN, .slice ap am ac, .string XT, .slice kp km kc] 36) := ⟨_, rfl⟩
      have H2 : Hid (Box2 w wz #[.int .i64 p.ep, .slice o1 (List.length l1) k1, .slice o2 (List.length l2) k2, .slice o3 (List.length l3) k3, .slice o4 (List.length l4) k4, .slice o5 (List.length l5) k5, .int .i64 p.dp, .int .i64 p.nd, .int .i64 p.bt] #[.string XN, .slice ap am ac, .string XT, .slice kp km kc] w2) := hide (by rw [hw2]; exact ⟨HU.out.1.keep (bel_alloc (Below.refl _ _) _), BoxN.new _ _⟩)
      have HST : Hid (∀ wx, Box2 w wz #[.int .i64 p.ep, .slice o1 (List.length l1) k1, .slice o2 (List.length l2) k2, .slice o3 (List.length l3) k3, .slice o4 (List.length l4) k4, .slice o5 (List.length l5) k5, .int .i64 p.dp, .int .i64 p.nd, .int .i64 p.bt] #[.string XN, .slice ap am ac, .string XT, .slice kp km kc] wx → Below w.heap.size w wx) := hide (fun wx h => h.1.2)
      have hemp := empty_bl XN
      rw [HXN.out] at hemp
      have heql := eq_lit XN []
      rw [HXN.out] at heql
      go_upto_region 5 with fail
      rw [← hw2]
      clear hw2 x0 x1 x2 x3
      have y0 := H2.out.2.cell 0 _ rfl
      by_cases hne : nd.name = []
      · rw [decide_eq_true hne] at hemp heql
        have HIN : Hid (Saf.innerN p nd = true) := hide (by rw [Saf.innerN_kids, if_pos hne])
        clear hne
        go_wp2_with fail
        go_roundg (N - i - 1)
        case measure => omega
        case rel => exact ⟨i + 1, by omega, by first | rfl | simp, hide ⟨H2.out.1, fun j x hj hjx => by
          by_cases e : j = i
          · subst e
            rw [HND.out] at hjx
            cases hjx
            exact HIN.out
          · exact HU.out.2 j x (by omega) hjx⟩⟩
      · rw [decide_eq_false hne] at hemp heql
        have HIN : Hid (Saf.innerN p nd = (nd.attrs.all (fun kv => Saf.valueB p nd.name kv.1 kv.2) && (decide (nd.name ∈ p.el) && ((!decide (nd.name = Saf.aN) || Saf.linkedB nd.attrs) && Saf.innerL p nd.kids)))) := hide (by rw [Saf.innerN_kids, if_neg hne])
        have hml := HAR.out.1.1
        have hmb := HAR.out.1.2
        have HML := hide hml
        have HUP := hide HU.out.2
        clear hne hml HU
        go_wp2_with fail
        clear y0
        go_loopg [7] am (fun g v7 wx => ∃ k : Nat, k + g = am ∧ v7 = .int .i64 (k : Int) ∧ Hid (Box2 w wz #[.int .i64 p.ep, .slice o1 (List.length l1) k1, .slice o2 (List.length l2) k2, .slice o3 (List.length l3) k3, .slice o4 (List.length l4) k4, .slice o5 (List.length l5) k5, .int .i64 p.dp, .int .i64 p.nd, .int .i64 p.bt] #[.string XN, .slice ap am ac, .string XT, .slice kp km kc] wx ∧ ∀ (j : Nat) (kv : L × L), j < k → nd.attrs[j]? = some kv → Saf.valueB p nd.name kv.1 kv.2 = true))
        case atStart => exact ⟨0, by omega, rfl, hide ⟨H2.out, fun j kv hj => by omega⟩⟩
        case round =>
          obtain ⟨k, hk, rfl, HK⟩ := hrel
          clear H2
          have y1 := HK.out.1.2.cell 1 _ rfl
          by_cases hkl : k < am
          · obtain ⟨kv, hkv⟩ : ∃ kv, nd.attrs[k]? = some kv := ⟨_, List.getElem?_eq_getElem (by have := HML.out; omega)⟩
            obtain ⟨b, off', hap, c0, c1, -, -⟩ := HAR.out.2 k kv hkv
            subst hap
            obtain ⟨X1, hX1⟩ : ∃ X : ByteArray, X = ⟨kv.1.toArray⟩ := ⟨_, rfl⟩
            obtain ⟨X2, hX2⟩ : ∃ X : ByteArray, X = ⟨kv.2.toArray⟩ := ⟨_, rfl⟩
            rw [← hX1] at c0
            rw [← hX2] at c1
            have hb1 : bl X1 = kv.1 := by rw [hX1]
            have hb2 : bl X2 = kv.2 := by rw [hX2]
            have hwa := wa_attr hkv
            have hzs : XN.size ≤ 100000 ∧ X1.size ≤ 100000 ∧ X2.size ≤ 90000 := by
              rw [← bl_len, ← bl_len, ← bl_len, HXN.out, hb1, hb2]
              have := HWN.out
              have := HWS.out
              omega
            have CV : Hid (∀ wx, Box2 w wz #[.int .i64 p.ep, .slice o1 (List.length l1) k1, .slice o2 (List.length l2) k2, .slice o3 (List.length l3) k3, .slice o4 (List.length l4) k4, .slice o5 (List.length l5) k5, .int .i64 p.dp, .int .i64 p.nd, .int .i64 p.bt] #[.string XN, .slice (some ⟨b, off', none⟩) am ac, .string XT, .slice kp km kc] wx → Calls Tryz.prog 43 #[.agg #[.int .i64 p.ep, .slice o1 (List.length l1) k1, .slice o2 (List.length l2) k2, .slice o3 (List.length l3) k3, .slice o4 (List.length l4) k4, .slice o5 (List.length l5) k5, .int .i64 p.dp, .int .i64 p.nd, .int .i64 p.bt], .string XN, .agg #[.string X1, .string X2]] wx fun r w' => r = .returned (.bool (Saf.valueB p nd.name kv.1 kv.2)) ∧ Box2 w wz #[.int .i64 p.ep, .slice o1 (List.length l1) k1, .slice o2 (List.length l2) k2, .slice o3 (List.length l3) k3, .slice o4 (List.length l4) k4, .slice o5 (List.length l5) k5, .int .i64 p.dp, .int .i64 p.nd, .int .i64 p.bt] #[.string XN, .slice (some ⟨b, off', none⟩) am ac, .string XT, .slice kp km kc] w') := hide (fun wx h => by
              have := rvalue_any _ _ _ _ _ p _ _ _ _ _ XN X1 X2 wx (HV.out.below h.1.2) HF.out hzs.1 hzs.2.1 hzs.2.2
              rw [HXN.out, hb1, hb2] at this
              exact this.mono fun _ w' ⟨h1, h2⟩ => ⟨h1, h.keep h2⟩)
            have HC0 := hide (And.intro c0 c1)
            have SK : Hid (∀ wx, Box2 w wz #[.int .i64 p.ep, .slice o1 (List.length l1) k1, .slice o2 (List.length l2) k2, .slice o3 (List.length l3) k3, .slice o4 (List.length l4) k4, .slice o5 (List.length l5) k5, .int .i64 p.dp, .int .i64 p.nd, .int .i64 p.bt] #[.string XN, .slice (some ⟨b, off', none⟩) am ac, .string XT, .slice kp km kc] wx → wx.cell? ⟨w.heap.size, 0, none⟩ = some (.int .i64 p.ep) ∧ wx.cell? ⟨w.heap.size, 1, none⟩ = some (.slice o1 (List.length l1) k1) ∧ wx.cell? ⟨w.heap.size, 2, none⟩ = some (.slice o2 (List.length l2) k2) ∧ wx.cell? ⟨w.heap.size, 3, none⟩ = some (.slice o3 (List.length l3) k3) ∧ wx.cell? ⟨w.heap.size, 4, none⟩ = some (.slice o4 (List.length l4) k4) ∧ wx.cell? ⟨w.heap.size, 5, none⟩ = some (.slice o5 (List.length l5) k5) ∧ wx.cell? ⟨w.heap.size, 6, none⟩ = some (.int .i64 p.dp) ∧ wx.cell? ⟨w.heap.size, 7, none⟩ = some (.int .i64 p.nd) ∧ wx.cell? ⟨w.heap.size, 8, none⟩ = some (.int .i64 p.bt) ∧ wx.cell? ⟨wz.heap.size, 0, none⟩ = some (.string XN) ∧ wx.cell? ⟨wz.heap.size, 1, none⟩ = some (.slice (some ⟨b, off', none⟩) am ac) ∧ wx.cell? ⟨wz.heap.size, 2, none⟩ = some (.string XT) ∧ wx.cell? ⟨wz.heap.size, 3, none⟩ = some (.slice kp km kc) ∧ wx.cell? ⟨b, off' + k * 2, none⟩ = some (.string X1) ∧ wx.cell? ⟨b, off' + k * 2 + 1, none⟩ = some (.string X2) ∧ Hid (Box2 w wz #[.int .i64 p.ep, .slice o1 (List.length l1) k1, .slice o2 (List.length l2) k2, .slice o3 (List.length l3) k3, .slice o4 (List.length l4) k4, .slice o5 (List.length l5) k5, .int .i64 p.dp, .int .i64 p.nd, .int .i64 p.bt] #[.string XN, .slice (some ⟨b, off', none⟩) am ac, .string XT, .slice kp km kc] wx)) := hide (fun wx h => ⟨h.1.cell 0 _ rfl, h.1.cell 1 _ rfl, h.1.cell 2 _ rfl, h.1.cell 3 _ rfl, h.1.cell 4 _ rfl, h.1.cell 5 _ rfl, h.1.cell 6 _ rfl, h.1.cell 7 _ rfl, h.1.cell 8 _ rfl, h.2.cell 0 _ rfl, h.2.cell 1 _ rfl, h.2.cell 2 _ rfl, h.2.cell 3 _ rfl, cell_keep HC0.out.1 h.1.2, cell_keep HC0.out.2 h.1.2, hide h⟩)
            have SB : Hid (∀ wx, (wx.cell? ⟨w.heap.size, 0, none⟩ = some (.int .i64 p.ep) ∧ wx.cell? ⟨w.heap.size, 1, none⟩ = some (.slice o1 (List.length l1) k1) ∧ wx.cell? ⟨w.heap.size, 2, none⟩ = some (.slice o2 (List.length l2) k2) ∧ wx.cell? ⟨w.heap.size, 3, none⟩ = some (.slice o3 (List.length l3) k3) ∧ wx.cell? ⟨w.heap.size, 4, none⟩ = some (.slice o4 (List.length l4) k4) ∧ wx.cell? ⟨w.heap.size, 5, none⟩ = some (.slice o5 (List.length l5) k5) ∧ wx.cell? ⟨w.heap.size, 6, none⟩ = some (.int .i64 p.dp) ∧ wx.cell? ⟨w.heap.size, 7, none⟩ = some (.int .i64 p.nd) ∧ wx.cell? ⟨w.heap.size, 8, none⟩ = some (.int .i64 p.bt) ∧ wx.cell? ⟨wz.heap.size, 0, none⟩ = some (.string XN) ∧ wx.cell? ⟨wz.heap.size, 1, none⟩ = some (.slice (some ⟨b, off', none⟩) am ac) ∧ wx.cell? ⟨wz.heap.size, 2, none⟩ = some (.string XT) ∧ wx.cell? ⟨wz.heap.size, 3, none⟩ = some (.slice kp km kc) ∧ wx.cell? ⟨b, off' + k * 2, none⟩ = some (.string X1) ∧ wx.cell? ⟨b, off' + k * 2 + 1, none⟩ = some (.string X2) ∧ Hid (Box2 w wz #[.int .i64 p.ep, .slice o1 (List.length l1) k1, .slice o2 (List.length l2) k2, .slice o3 (List.length l3) k3, .slice o4 (List.length l4) k4, .slice o5 (List.length l5) k5, .int .i64 p.dp, .int .i64 p.nd, .int .i64 p.bt] #[.string XN, .slice (some ⟨b, off', none⟩) am ac, .string XT, .slice kp km kc] wx)) → Box2 w wz #[.int .i64 p.ep, .slice o1 (List.length l1) k1, .slice o2 (List.length l2) k2, .slice o3 (List.length l3) k3, .slice o4 (List.length l4) k4, .slice o5 (List.length l5) k5, .int .i64 p.dp, .int .i64 p.nd, .int .i64 p.bt] #[.string XN, .slice (some ⟨b, off', none⟩) am ac, .string XT, .slice kp km kc] wx) := hide (fun wx h => h.2.2.2.2.2.2.2.2.2.2.2.2.2.2.2.out)
            have HKV := hide hkv
            clear c0 c1 hX1 hX2 hb1 hb2 hwa hzs hkv
            go_wp2_with fail
            clear y1
            cases hvb : Saf.valueB p nd.name kv.1 kv.2 with
            | false =>
              have HN2 : Hid (R = false) := hide (by
                rw [HR.out]
                refine innerL_no HND.out ?_
                rw [HIN.out, show nd.attrs.all (fun kv => Saf.valueB p nd.name kv.1 kv.2) = false from by
                  rw [List.all_eq_false]
                  exact ⟨kv, List.mem_of_getElem? HKV.out, by rw [hvb]; decide⟩]
                rfl)
              rw [hvb] at CV
              clear hvb
              refine wp_region_held_drew (S := (fun wx => wx.cell? ⟨w.heap.size, 0, none⟩ = some (.int .i64 p.ep) ∧ wx.cell? ⟨w.heap.size, 1, none⟩ = some (.slice o1 (List.length l1) k1) ∧ wx.cell? ⟨w.heap.size, 2, none⟩ = some (.slice o2 (List.length l2) k2) ∧ wx.cell? ⟨w.heap.size, 3, none⟩ = some (.slice o3 (List.length l3) k3) ∧ wx.cell? ⟨w.heap.size, 4, none⟩ = some (.slice o4 (List.length l4) k4) ∧ wx.cell? ⟨w.heap.size, 5, none⟩ = some (.slice o5 (List.length l5) k5) ∧ wx.cell? ⟨w.heap.size, 6, none⟩ = some (.int .i64 p.dp) ∧ wx.cell? ⟨w.heap.size, 7, none⟩ = some (.int .i64 p.nd) ∧ wx.cell? ⟨w.heap.size, 8, none⟩ = some (.int .i64 p.bt) ∧ wx.cell? ⟨wz.heap.size, 0, none⟩ = some (.string XN) ∧ wx.cell? ⟨wz.heap.size, 1, none⟩ = some (.slice (some ⟨b, off', none⟩) am ac) ∧ wx.cell? ⟨wz.heap.size, 2, none⟩ = some (.string XT) ∧ wx.cell? ⟨wz.heap.size, 3, none⟩ = some (.slice kp km kc) ∧ wx.cell? ⟨b, off' + k * 2, none⟩ = some (.string X1) ∧ wx.cell? ⟨b, off' + k * 2 + 1, none⟩ = some (.string X2) ∧ Hid (Box2 w wz #[.int .i64 p.ep, .slice o1 (List.length l1) k1, .slice o2 (List.length l2) k2, .slice o3 (List.length l3) k3, .slice o4 (List.length l4) k4, .slice o5 (List.length l5) k5, .int .i64 p.dp, .int .i64 p.nd, .int .i64 p.bt] #[.string XN, .slice (some ⟨b, off', none⟩) am ac, .string XT, .slice kp km kc] wx))) (by kernel_rfl) (SK.out _ (HK.out.1.keep ((Below.refl _ _).drew))) (fun hHeld => ?_)
              refine wpAnyH_at (i := 0) (v := ?ve0) (a1 := ?xe0) rfl (by kernel_rfl) (by kernel_rfl) (by kernel_rfl) (fun _ _ _ h => h) (Or.inl ⟨by rfl, ?ye0⟩) (by assumption) ?he0 ?ze0
              case ye0 => (intro w hSw; (try dsimp only at hSw); go_simp; try (with_reducible rfl))
              case he0 => (go_simp; exact rfl)
              case ze0 =>
              refine wpAnyH_at (i := 1) (v := ?ve1) (a1 := ?xe1) rfl (by kernel_rfl) (by kernel_rfl) (by kernel_rfl) (fun _ _ _ h => h) (Or.inl ⟨by rfl, ?ye1⟩) (by assumption) ?he1 ?ze1
              case ye1 => (intro w hSw; (try dsimp only at hSw); go_simp; try (with_reducible rfl))
              case he1 => (go_simp; exact rfl)
              case ze1 =>
              refine wpAnyH_at (i := 2) (v := ?ve2) (a1 := ?xe2) rfl (by kernel_rfl) (by kernel_rfl) (by kernel_rfl) (fun _ _ _ h => h) (Or.inl ⟨by rfl, ?ye2⟩) (by assumption) ?he2 ?ze2
              case ye2 => (intro w hSw; (try dsimp only at hSw); go_simp; try (with_reducible rfl))
              case he2 => (go_simp; exact rfl)
              case ze2 =>
              refine wpAnyH_at (i := 3) (v := ?ve3) (a1 := ?xe3) rfl (by kernel_rfl) (by kernel_rfl) (by kernel_rfl) (fun _ _ _ h => h) (Or.inl ⟨by rfl, ?ye3⟩) (by assumption) ?he3 ?ze3
              case ye3 => (intro w hSw; (try dsimp only at hSw); go_simp; try (with_reducible rfl))
              case he3 => (go_simp; exact rfl)
              case ze3 =>
              refine wpAnyH_at (i := 4) (v := ?ve4) (a1 := ?xe4) rfl (by kernel_rfl) (by kernel_rfl) (by kernel_rfl) (fun _ _ _ h => h) (Or.inl ⟨by rfl, ?ye4⟩) (by assumption) ?he4 ?ze4
              case ye4 => (intro w hSw; (try dsimp only at hSw); go_simp; try (with_reducible rfl))
              case he4 => (go_simp; exact rfl)
              case ze4 =>
              refine wpAnyH_at (i := 5) (v := ?ve5) (a1 := ?xe5) rfl (by kernel_rfl) (by kernel_rfl) (by kernel_rfl) (fun _ _ _ h => h) (Or.inl ⟨by rfl, ?ye5⟩) (by assumption) ?he5 ?ze5
              case ye5 => (intro w hSw; (try dsimp only at hSw); go_simp; try (with_reducible rfl))
              case he5 => (go_simp; exact rfl)
              case ze5 =>
              refine wpAnyH_at (i := 6) (v := ?ve6) (a1 := ?xe6) rfl (by kernel_rfl) (by kernel_rfl) (by kernel_rfl) (fun _ _ _ h => h) (Or.inl ⟨by rfl, ?ye6⟩) (by assumption) ?he6 ?ze6
              case ye6 => (intro w hSw; (try dsimp only at hSw); go_simp; try (with_reducible rfl))
              case he6 => (go_simp; exact rfl)
              case ze6 =>
              refine wpAnyH_at (i := 7) (v := ?ve7) (a1 := ?xe7) rfl (by kernel_rfl) (by kernel_rfl) (by kernel_rfl) (fun _ _ _ h => h) (Or.inl ⟨by rfl, ?ye7⟩) (by assumption) ?he7 ?ze7
              case ye7 => (intro w hSw; (try dsimp only at hSw); go_simp; try (with_reducible rfl))
              case he7 => (go_simp; exact rfl)
              case ze7 =>
              refine wpAnyH_ready (rs := [8]) (by kernel_rfl) (by simp) ?_
              refine AllReadyH.cons rfl (fun K hK => ?_) AllReadyH.nil
              go_simp
              refine (CV.out _ (SB.out _ (by assumption))).mono ?_
              rintro r w6 ⟨rfl, h6⟩
              try go_wp2_with fail
              refine hK.out _ _ (SK.out _ (by assumption)) (fun hHeld2 => ?_)
              clear hK K hHeld
              have hHeld := hHeld2
              clear hHeld2
              refine wpAnyH_at (i := 9) (v := ?ve9) (a1 := ?xe9) rfl (by kernel_rfl) (by kernel_rfl) (by kernel_rfl) (fun _ _ _ h => h) (Or.inl ⟨by rfl, ?ye9⟩) (by assumption) ?he9 ?ze9
              case ye9 => (intro w hSw; (try dsimp only at hSw); go_simp; try (with_reducible rfl))
              case he9 => (go_simp; exact rfl)
              case ze9 =>
              refine wpAnyH_done (by kernel_rfl) ?_ _
              have H7 := hide (SB.out _ (by assumption))
              clear CV SK SB HK
              go_wp2_with fail
              go_ret
              rw [HN2.out]
              exact ⟨rfl, H7.out.1.2⟩
            | true =>
              have HVB := hide hvb
              rw [hvb] at CV
              clear hvb
              refine wp_region_held_drew (S := (fun wx => wx.cell? ⟨w.heap.size, 0, none⟩ = some (.int .i64 p.ep) ∧ wx.cell? ⟨w.heap.size, 1, none⟩ = some (.slice o1 (List.length l1) k1) ∧ wx.cell? ⟨w.heap.size, 2, none⟩ = some (.slice o2 (List.length l2) k2) ∧ wx.cell? ⟨w.heap.size, 3, none⟩ = some (.slice o3 (List.length l3) k3) ∧ wx.cell? ⟨w.heap.size, 4, none⟩ = some (.slice o4 (List.length l4) k4) ∧ wx.cell? ⟨w.heap.size, 5, none⟩ = some (.slice o5 (List.length l5) k5) ∧ wx.cell? ⟨w.heap.size, 6, none⟩ = some (.int .i64 p.dp) ∧ wx.cell? ⟨w.heap.size, 7, none⟩ = some (.int .i64 p.nd) ∧ wx.cell? ⟨w.heap.size, 8, none⟩ = some (.int .i64 p.bt) ∧ wx.cell? ⟨wz.heap.size, 0, none⟩ = some (.string XN) ∧ wx.cell? ⟨wz.heap.size, 1, none⟩ = some (.slice (some ⟨b, off', none⟩) am ac) ∧ wx.cell? ⟨wz.heap.size, 2, none⟩ = some (.string XT) ∧ wx.cell? ⟨wz.heap.size, 3, none⟩ = some (.slice kp km kc) ∧ wx.cell? ⟨b, off' + k * 2, none⟩ = some (.string X1) ∧ wx.cell? ⟨b, off' + k * 2 + 1, none⟩ = some (.string X2) ∧ Hid (Box2 w wz #[.int .i64 p.ep, .slice o1 (List.length l1) k1, .slice o2 (List.length l2) k2, .slice o3 (List.length l3) k3, .slice o4 (List.length l4) k4, .slice o5 (List.length l5) k5, .int .i64 p.dp, .int .i64 p.nd, .int .i64 p.bt] #[.string XN, .slice (some ⟨b, off', none⟩) am ac, .string XT, .slice kp km kc] wx))) (by kernel_rfl) (SK.out _ (HK.out.1.keep ((Below.refl _ _).drew))) (fun hHeld => ?_)
              refine wpAnyH_at (i := 0) (v := ?vf0) (a1 := ?xf0) rfl (by kernel_rfl) (by kernel_rfl) (by kernel_rfl) (fun _ _ _ h => h) (Or.inl ⟨by rfl, ?yf0⟩) (by assumption) ?hf0 ?zf0
              case yf0 => (intro w hSw; (try dsimp only at hSw); go_simp; try (with_reducible rfl))
              case hf0 => (go_simp; exact rfl)
              case zf0 =>
              refine wpAnyH_at (i := 1) (v := ?vf1) (a1 := ?xf1) rfl (by kernel_rfl) (by kernel_rfl) (by kernel_rfl) (fun _ _ _ h => h) (Or.inl ⟨by rfl, ?yf1⟩) (by assumption) ?hf1 ?zf1
              case yf1 => (intro w hSw; (try dsimp only at hSw); go_simp; try (with_reducible rfl))
              case hf1 => (go_simp; exact rfl)
              case zf1 =>
              refine wpAnyH_at (i := 2) (v := ?vf2) (a1 := ?xf2) rfl (by kernel_rfl) (by kernel_rfl) (by kernel_rfl) (fun _ _ _ h => h) (Or.inl ⟨by rfl, ?yf2⟩) (by assumption) ?hf2 ?zf2
              case yf2 => (intro w hSw; (try dsimp only at hSw); go_simp; try (with_reducible rfl))
              case hf2 => (go_simp; exact rfl)
              case zf2 =>
              refine wpAnyH_at (i := 3) (v := ?vf3) (a1 := ?xf3) rfl (by kernel_rfl) (by kernel_rfl) (by kernel_rfl) (fun _ _ _ h => h) (Or.inl ⟨by rfl, ?yf3⟩) (by assumption) ?hf3 ?zf3
              case yf3 => (intro w hSw; (try dsimp only at hSw); go_simp; try (with_reducible rfl))
              case hf3 => (go_simp; exact rfl)
              case zf3 =>
              refine wpAnyH_at (i := 4) (v := ?vf4) (a1 := ?xf4) rfl (by kernel_rfl) (by kernel_rfl) (by kernel_rfl) (fun _ _ _ h => h) (Or.inl ⟨by rfl, ?yf4⟩) (by assumption) ?hf4 ?zf4
              case yf4 => (intro w hSw; (try dsimp only at hSw); go_simp; try (with_reducible rfl))
              case hf4 => (go_simp; exact rfl)
              case zf4 =>
              refine wpAnyH_at (i := 5) (v := ?vf5) (a1 := ?xf5) rfl (by kernel_rfl) (by kernel_rfl) (by kernel_rfl) (fun _ _ _ h => h) (Or.inl ⟨by rfl, ?yf5⟩) (by assumption) ?hf5 ?zf5
              case yf5 => (intro w hSw; (try dsimp only at hSw); go_simp; try (with_reducible rfl))
              case hf5 => (go_simp; exact rfl)
              case zf5 =>
              refine wpAnyH_at (i := 6) (v := ?vf6) (a1 := ?xf6) rfl (by kernel_rfl) (by kernel_rfl) (by kernel_rfl) (fun _ _ _ h => h) (Or.inl ⟨by rfl, ?yf6⟩) (by assumption) ?hf6 ?zf6
              case yf6 => (intro w hSw; (try dsimp only at hSw); go_simp; try (with_reducible rfl))
              case hf6 => (go_simp; exact rfl)
              case zf6 =>
              refine wpAnyH_at (i := 7) (v := ?vf7) (a1 := ?xf7) rfl (by kernel_rfl) (by kernel_rfl) (by kernel_rfl) (fun _ _ _ h => h) (Or.inl ⟨by rfl, ?yf7⟩) (by assumption) ?hf7 ?zf7
              case yf7 => (intro w hSw; (try dsimp only at hSw); go_simp; try (with_reducible rfl))
              case hf7 => (go_simp; exact rfl)
              case zf7 =>
              refine wpAnyH_ready (rs := [8]) (by kernel_rfl) (by simp) ?_
              refine AllReadyH.cons rfl (fun K hK => ?_) AllReadyH.nil
              go_simp
              refine (CV.out _ (SB.out _ (by assumption))).mono ?_
              rintro r w6 ⟨rfl, h6⟩
              try go_wp2_with fail
              refine hK.out _ _ (SK.out _ (by assumption)) (fun hHeld2 => ?_)
              clear hK K hHeld
              have hHeld := hHeld2
              clear hHeld2
              refine wpAnyH_at (i := 9) (v := ?vf9) (a1 := ?xf9) rfl (by kernel_rfl) (by kernel_rfl) (by kernel_rfl) (fun _ _ _ h => h) (Or.inl ⟨by rfl, ?yf9⟩) (by assumption) ?hf9 ?zf9
              case yf9 => (intro w hSw; (try dsimp only at hSw); go_simp; try (with_reducible rfl))
              case hf9 => (go_simp; exact rfl)
              case zf9 =>
              refine wpAnyH_done (by kernel_rfl) ?_ _
              have H7 := hide (SB.out _ (by assumption))
              have HK2 := hide HK.out.2
              clear CV SK SB HK
              go_wp2_with fail
              go_roundg (am - k - 1)
              case measure => omega
              case rel => exact ⟨k + 1, by omega, by first | rfl | simp, hide ⟨H7.out, fun j x hj hjx => by
                by_cases e : j = k
                · subst e
                  rw [HKV.out] at hjx
                  cases hjx
                  exact HVB.out
                · exact HK2.out j x (by omega) hjx⟩⟩
          · have HALL : Hid (nd.attrs.all (fun kv => Saf.valueB p nd.name kv.1 kv.2) = true) := hide (by
              rw [List.all_eq_true]
              intro kv hkv
              obtain ⟨j, hj⟩ := List.getElem?_of_mem hkv
              exact HK.out.2 j kv (by have := (List.getElem?_eq_some_iff.1 hj).1; have := HML.out; omega) hj)
            have H3 := hide HK.out.1
            clear HK
            have HIN2 : Hid (Saf.innerN p nd = (decide (nd.name ∈ p.el) && ((!decide (nd.name = Saf.aN) || Saf.linkedB nd.attrs) && Saf.innerL p nd.kids))) := hide (by rw [HIN.out, HALL.out, Bool.true_and])
            have hwk := HWN.out
            have CH : Hid (∀ wx, Box2 w wz #[.int .i64 p.ep, .slice o1 (List.length l1) k1, .slice o2 (List.length l2) k2, .slice o3 (List.length l3) k3, .slice o4 (List.length l4) k4, .slice o5 (List.length l5) k5, .int .i64 p.dp, .int .i64 p.nd, .int .i64 p.bt] #[.string XN, .slice ap am ac, .string XT, .slice kp km kc] wx → Calls Tryz.prog 44 #[.slice o1 l1.length k1, .string XN] wx fun r w' => r = .returned (.bool (decide (nd.name ∈ p.el))) ∧ w' = wx) := hide (fun wx h => by
              have := rhas_any (.slice o1 l1.length k1) l1 XN (fits_of HF.out (by simp) HV.out.e1).1 wx ((HV.out.below h.1.2).s1)
              rw [HV.out.e1, HXN.out] at this
              exact this)
            have CL : Hid (∀ wx, Box2 w wz #[.int .i64 p.ep, .slice o1 (List.length l1) k1, .slice o2 (List.length l2) k2, .slice o3 (List.length l3) k3, .slice o4 (List.length l4) k4, .slice o5 (List.length l5) k5, .int .i64 p.dp, .int .i64 p.nd, .int .i64 p.bt] #[.string XN, .slice ap am ac, .string XT, .slice kp km kc] wx → Calls Tryz.prog 45 #[.agg #[.string XN, .slice ap am ac, .string XT, .slice kp km kc]] wx fun r w' => r = .returned (.bool (Saf.linkedB nd.attrs)) ∧ Box2 w wz #[.int .i64 p.ep, .slice o1 (List.length l1) k1, .slice o2 (List.length l2) k2, .slice o3 (List.length l3) k3, .slice o4 (List.length l4) k4, .slice o5 (List.length l5) k5, .int .i64 p.dp, .int .i64 p.nd, .int .i64 p.bt] #[.string XN, .slice ap am ac, .string XT, .slice kp km kc] w') := hide (fun wx h => (rlinked_any XN XT ap kp am ac km kc nd.attrs wx (HAR.out.below h.1.2)).mono fun _ w' ⟨h1, h2⟩ => ⟨h1, h.keep h2⟩)
            have CI : Hid (∀ wx, Box2 w wz #[.int .i64 p.ep, .slice o1 (List.length l1) k1, .slice o2 (List.length l2) k2, .slice o3 (List.length l3) k3, .slice o4 (List.length l4) k4, .slice o5 (List.length l5) k5, .int .i64 p.dp, .int .i64 p.nd, .int .i64 p.bt] #[.string XN, .slice ap am ac, .string XT, .slice kp km kc] wx → Calls Tryz.prog 22 #[.agg #[.int .i64 p.ep, .slice o1 (List.length l1) k1, .slice o2 (List.length l2) k2, .slice o3 (List.length l3) k3, .slice o4 (List.length l4) k4, .slice o5 (List.length l5) k5, .int .i64 p.dp, .int .i64 p.nd, .int .i64 p.bt], .slice kp km kc] wx fun r w' => r = .returned (.bool (Saf.innerL p nd.kids)) ∧ Box2 w wz #[.int .i64 p.ep, .slice o1 (List.length l1) k1, .slice o2 (List.length l2) k2, .slice o3 (List.length l3) k3, .slice o4 (List.length l4) k4, .slice o5 (List.length l5) k5, .int .i64 p.dp, .int .i64 p.nd, .int .i64 p.bt] #[.string XN, .slice ap am ac, .string XT, .slice kp km kc] w') := hide (fun wx h => (HIH.out wx (.slice kp km kc) nd.kids (HV.out.below h.1.2) (Dm.NAtD.below h.1.2 HKK.out) (by have := HWS.out; omega)).mono fun _ w' ⟨h1, h2⟩ => ⟨h1, h.keep h2⟩)
            have SC : Hid (∀ wx, Box2 w wz #[.int .i64 p.ep, .slice o1 (List.length l1) k1, .slice o2 (List.length l2) k2, .slice o3 (List.length l3) k3, .slice o4 (List.length l4) k4, .slice o5 (List.length l5) k5, .int .i64 p.dp, .int .i64 p.nd, .int .i64 p.bt] #[.string XN, .slice ap am ac, .string XT, .slice kp km kc] wx → wx.cell? ⟨w.heap.size, 0, none⟩ = some (.int .i64 p.ep) ∧ wx.cell? ⟨w.heap.size, 1, none⟩ = some (.slice o1 (List.length l1) k1) ∧ wx.cell? ⟨w.heap.size, 2, none⟩ = some (.slice o2 (List.length l2) k2) ∧ wx.cell? ⟨w.heap.size, 3, none⟩ = some (.slice o3 (List.length l3) k3) ∧ wx.cell? ⟨w.heap.size, 4, none⟩ = some (.slice o4 (List.length l4) k4) ∧ wx.cell? ⟨w.heap.size, 5, none⟩ = some (.slice o5 (List.length l5) k5) ∧ wx.cell? ⟨w.heap.size, 6, none⟩ = some (.int .i64 p.dp) ∧ wx.cell? ⟨w.heap.size, 7, none⟩ = some (.int .i64 p.nd) ∧ wx.cell? ⟨w.heap.size, 8, none⟩ = some (.int .i64 p.bt) ∧ wx.cell? ⟨wz.heap.size, 0, none⟩ = some (.string XN) ∧ wx.cell? ⟨wz.heap.size, 1, none⟩ = some (.slice ap am ac) ∧ wx.cell? ⟨wz.heap.size, 2, none⟩ = some (.string XT) ∧ wx.cell? ⟨wz.heap.size, 3, none⟩ = some (.slice kp km kc)) := hide (fun wx h => ⟨h.1.cell 0 _ rfl, h.1.cell 1 _ rfl, h.1.cell 2 _ rfl, h.1.cell 3 _ rfl, h.1.cell 4 _ rfl, h.1.cell 5 _ rfl, h.1.cell 6 _ rfl, h.1.cell 7 _ rfl, h.1.cell 8 _ rfl, h.2.cell 0 _ rfl, h.2.cell 1 _ rfl, h.2.cell 2 _ rfl, h.2.cell 3 _ rfl⟩)
            have heqa := eq_lit XN [97]
            rw [HXN.out] at heqa
            have HIN3 : Hid (Saf.innerN p nd = (decide (nd.name ∈ p.el) && ((!decide (nd.name = [97]) || Saf.linkedB nd.attrs) && Saf.innerL p nd.kids))) := hide HIN2.out
            have HGO : Hid (Saf.innerN p nd = true → ∀ (j : Nat) (x : Nd), j < i + 1 → ns[j]? = some x → Saf.innerN p x = true) := hide (fun hin j x hj hjx => by
              by_cases e : j = i
              · subst e
                rw [HND.out] at hjx
                cases hjx
                exact hin
              · exact HUP.out j x (by omega) hjx)
            have HNO : Hid (Saf.innerN p nd = false → R = false) := hide (fun h => by rw [HR.out]; exact innerL_no HND.out h)
            clear HIN HIN2 HALL hwk
            generalize Saf.innerN p nd = IN at HIN3 HGO HNO
            generalize decide (nd.name ∈ p.el) = r1 at CH HIN3
            generalize decide (nd.name = [97]) = ta at heqa HIN3
            generalize Saf.linkedB nd.attrs = r2 at CL HIN3
            generalize Saf.innerL p nd.kids = r3 at CI HIN3
            clear HAR HKK HXN HND HWN HML HUP
            obtain ⟨y0, q1, q2, q3, q4, q5, y6, y7, y8, z0, z1, z2, z3⟩ := SC.out _ H3.out
            go_wp2_with fail
            refine (CH.out _ H3.out).mono ?_
            rintro r wx ⟨rfl, hwx⟩
            rw [hwx]
            clear hwx CH
            cases r1 with
            | false =>
              have HF2 : Hid (R = false) := hide (HNO.out (by rw [HIN3.out]; rfl))
              clear HIN3
              go_wp2_with fail
              go_ret
              rw [HF2.out]
              exact ⟨rfl, H3.out.1.2⟩
            | true =>
              cases ta with
              | false =>
                have HIN4 : Hid (IN = r3) := hide (by rw [HIN3.out]; simp)
                clear HIN3 CL
                go_wp2_with fail
                refine (CI.out _ H3.out).mono ?_
                rintro r w6 ⟨rfl, h6⟩
                have H6 := hide h6
                clear h6 CI H3 y0 q1 q2 q3 q4 q5 y6 y7 y8 z0 z1 z2 z3
                cases r3 with
                | false =>
                  have HF2 : Hid (R = false) := hide (HNO.out HIN4.out)
                  go_wp2_with fail
                  go_ret
                  rw [HF2.out]
                  exact ⟨rfl, H6.out.1.2⟩
                | true =>
                  have HF2 := hide (HGO.out HIN4.out)
                  go_wp2_with fail
                  go_roundg (N - i - 1)
                  case measure => omega
                  case rel => exact ⟨i + 1, by omega, by first | rfl | simp, hide ⟨H6.out.1, HF2.out⟩⟩
              | true =>
                go_wp2_with fail
                refine (CL.out _ H3.out).mono ?_
                rintro r w5 ⟨rfl, h5⟩
                have H5 := hide h5
                clear h5 CL H3 y0 q1 q2 q3 q4 q5 y6 y7 y8 z0 z1 z2 z3
                obtain ⟨y0, q1, q2, q3, q4, q5, y6, y7, y8, z0, z1, z2, z3⟩ := SC.out _ H5.out
                cases r2 with
                | false =>
                  have HF2 : Hid (R = false) := hide (HNO.out (by rw [HIN3.out]; rfl))
                  clear HIN3
                  go_wp2_with fail
                  go_ret
                  rw [HF2.out]
                  exact ⟨rfl, H5.out.1.2⟩
                | true =>
                  have HIN4 : Hid (IN = r3) := hide (by rw [HIN3.out]; simp)
                  clear HIN3
                  go_wp2_with fail
                  refine (CI.out _ H5.out).mono ?_
                  rintro r w6 ⟨rfl, h6⟩
                  have H6 := hide h6
                  clear h6 CI H5 y0 q1 q2 q3 q4 q5 y6 y7 y8 z0 z1 z2 z3
                  cases r3 with
                  | false =>
                    have HF2 : Hid (R = false) := hide (HNO.out HIN4.out)
                    go_wp2_with fail
                    go_ret
                    rw [HF2.out]
                    exact ⟨rfl, H6.out.1.2⟩
                  | true =>
                    have HF2 := hide (HGO.out HIN4.out)
                    go_wp2_with fail
                    go_roundg (N - i - 1)
                    case measure => omega
                    case rel => exact ⟨i + 1, by omega, by first | rfl | simp, hide ⟨H6.out.1, HF2.out⟩⟩
    · have HN2 : Hid (R = true) := hide (by rw [HR.out]; exact innerL_yes (fun j x hx => HU.out.2 j x (by have := (List.getElem?_eq_some_iff.1 hx).1; have := HN.out; omega) hx))
      have HB := hide HU.out.1.2
      clear HU
      go_wp2_with fail
      go_ret
      rw [HN2.out]
      exact ⟨rfl, HB.out⟩
end Go.Proofs.YtbcadeikdmlpoaaGreatDoor

namespace Go.Proofs.YtbcadeikdmlpoaaGreatDoor
open Go.RowKit
open Utf1 Pol8

set_option maxRecDepth 100000 in
set_option maxHeartbeats 8000000 in
theorem rsafe_any (v1 v2 v3 v4 v5 : Value) (p : Pol) (l1 l2 l3 l4 l5 : List ByteArray) (v : Value) (ns : List Nd) (w : World) (hv : PolV w v1 v2 v3 v4 v5 p l1 l2 l3 l4 l5) (hf : fits p) (hk : Dm.NAt w v ns) (hws : wsL ns ≤ 20000) :
    Calls Tryz.prog 9 #[pval p v1 v2 v3 v4 v5, v] w fun e w' => e = .returned (.bool (Saf.safeB p ns)) ∧ Below w.heap.size w w' := by
  obtain ⟨R, hR⟩ : ∃ R, R = Saf.safeB p ns := ⟨_, rfl⟩
  rw [← hR]
  unfold Saf.safeB at hR
  have HR := hide hR
  have hnc := ncL_ws ns
  have HV := hide hv
  have HK := hide hk
  obtain ⟨D, hkD⟩ := hk
  have CS : Hid (∀ wx, Below w.heap.size w wx → Calls Tryz.prog 20 #[v] wx fun e w' => e = .returned (.tuple #[.int .i64 (ncL ns : Int), .int .i64 (drL ns : Int)]) ∧ Below wx.heap.size wx w') := hide (fun wx h => Dm.rsize_nst D wx v ns (Dm.NAtD.below h hkD) (by omega))
  have CT : Hid (∀ wx, Below w.heap.size w wx → Calls Tryz.prog 21 #[v] wx fun e w' => e = .returned (.bool (stable ns)) ∧ Below wx.heap.size wx w') := hide (fun wx h => Dm.rStable_nst wx v ns (HK.out.below h) hws)
  have CI : Hid (∀ wx, Below w.heap.size w wx → Calls Tryz.prog 22 #[pval p v1 v2 v3 v4 v5, v] wx fun e w' => e = .returned (.bool (Saf.innerL p ns)) ∧ Below wx.heap.size wx w') := hide (fun wx h => rinner_nst v1 v2 v3 v4 v5 p l1 l2 l3 l4 l5 hf D wx v ns (hv.below h) (Dm.NAtD.below h hkD) hws)
  have HDR : Hid (stable ns = true → drL ns = dpL ns) := hide (fun h => by
    unfold stable at h
    rw [Bool.and_eq_true] at h
    exact dr_L ns _ _ _ h.2)
  obtain ⟨pv, cv, hvv, -⟩ : ∃ pv cv, v = .slice pv ns.length cv ∧ True := by
    cases D with
    | zero => exact hkD.elim
    | succ D =>
      obtain ⟨pv, cv, e, -⟩ := hkD
      exact ⟨pv, cv, e, trivial⟩
  obtain ⟨o1, k1, rfl, -, -⟩ := hv.s1
  obtain ⟨o2, k2, rfl, -, -⟩ := hv.s2
  obtain ⟨o3, k3, rfl, -, -⟩ := hv.s3
  obtain ⟨o4, k4, rfl, -, -⟩ := hv.s4
  obtain ⟨o5, k5, rfl, -, -⟩ := hv.s5
  obtain ⟨A, hA⟩ : ∃ A : Array Value, A = #[.int .i64 p.ep, .slice o1 l1.length k1, .slice o2 l2.length k2, .slice o3 l3.length k3, .slice o4 l4.length k4, .slice o5 l5.length k5, .int .i64 p.dp, .int .i64 p.nd, .int .i64 p.bt] := ⟨_, rfl⟩
  obtain ⟨w1, hw1⟩ : ∃ w1, w1 = w.alloc (.cells A 24) := ⟨_, rfl⟩
  have H1 : Hid (BoxP w A w1) := hide (by rw [hw1]; exact ⟨new_block _ _ _, bel_alloc (Below.refl _ _) _⟩)
  have HY : Hid (∀ wx, BoxP w A wx → wx.cell? ⟨w.heap.size, 0, none⟩ = some (.int .i64 p.ep) ∧ wx.cell? ⟨w.heap.size, 1, none⟩ = some (.slice o1 l1.length k1) ∧ wx.cell? ⟨w.heap.size, 2, none⟩ = some (.slice o2 l2.length k2) ∧ wx.cell? ⟨w.heap.size, 3, none⟩ = some (.slice o3 l3.length k3) ∧ wx.cell? ⟨w.heap.size, 4, none⟩ = some (.slice o4 l4.length k4) ∧ wx.cell? ⟨w.heap.size, 5, none⟩ = some (.slice o5 l5.length k5) ∧ wx.cell? ⟨w.heap.size, 6, none⟩ = some (.int .i64 p.dp) ∧ wx.cell? ⟨w.heap.size, 7, none⟩ = some (.int .i64 p.nd) ∧ wx.cell? ⟨w.heap.size, 8, none⟩ = some (.int .i64 p.bt)) := hide (fun wx h => ⟨h.cell 0 _ (by rw [hA]; rfl), h.cell 1 _ (by rw [hA]; rfl), h.cell 2 _ (by rw [hA]; rfl), h.cell 3 _ (by rw [hA]; rfl), h.cell 4 _ (by rw [hA]; rfl), h.cell 5 _ (by rw [hA]; rfl), h.cell 6 _ (by rw [hA]; rfl), h.cell 7 _ (by rw [hA]; rfl), h.cell 8 _ (by rw [hA]; rfl)⟩)
  rw [hA] at hw1
  subst hvv
  generalize ns.length = NL at CS CT CI
  generalize Saf.innerL p ns = ri at CI HR
  generalize hst : stable ns = rs at CT HR HDR
  clear hst hA hv hR HV HK hkD hws hf
  obtain ⟨nc, hnc'⟩ : ∃ nc, nc = ncL ns := ⟨_, rfl⟩
  obtain ⟨dr, hdr⟩ : ∃ dr, dr = drL ns := ⟨_, rfl⟩
  rw [← hnc', ← hdr] at CS
  rw [← hnc'] at HR
  rw [← hdr] at HDR
  clear hnc hnc' hdr
  obtain ⟨a6, a7, h6, h7⟩ : ∃ a6 a7, a6 = p.dp ∧ a7 = p.nd := ⟨_, _, rfl, rfl⟩
  rw [← h6, ← h7] at HR
  go_enter Tryz.func9, Tryz.ntmps9
  go_upto_region 1 with fail
  rw [← hw1]
  clear hw1
  go_wp2_with fail
  refine (CS.out _ H1.out.2).mono ?_
  rintro e w2 ⟨rfl, h2⟩
  have H2 := hide (H1.out.keep h2)
  clear h2 CS H1
  go_wp2_with fail
  refine (CT.out _ H2.out.2).mono ?_
  rintro e w3 ⟨rfl, h3⟩
  have H3 := hide (H2.out.keep h3)
  clear h3 CT H2
  obtain ⟨y0, y1, y2, y3, y4, y5, y6, y7, y8⟩ := HY.out w3 H3.out
  unfold pval at CI
  rw [← h6] at y6
  rw [← h7] at y7
  rw [← h6, ← h7] at CI
  have H67 := hide (And.intro h6 h7)
  clear h6 h7
  cases rs with
  | false =>
    have HN : Hid (R = false) := hide (by rw [HR.out]; rfl)
    clear HR
    go_wp2_with fail
    go_ret
    rw [HN.out]
    exact ⟨rfl, H3.out.2⟩
  | true =>
    rw [← HDR.out rfl, Bool.true_and] at HR
    clear HDR
    by_cases hn : (nc : Int) ≤ a7
    · by_cases hd : (dr : Int) ≤ a6
      · have HN : Hid (R = ri) := hide (by rw [HR.out, decide_eq_true hn, decide_eq_true hd, Bool.true_and, Bool.true_and])
        clear HR
        go_wp2_with fail
        refine (CI.out _ H3.out.2).mono ?_
        rintro e w4 ⟨rfl, h4⟩
        have H4 := hide (H3.out.keep h4)
        clear h4 CI H3 y0 y1 y2 y3 y4 y5 y6 y7 y8
        go_wp2_with fail
        go_ret
        rw [HN.out]
        exact ⟨ret_bool (by simp), H4.out.2⟩
      · have HN : Hid (R = false) := hide (by rw [HR.out, decide_eq_false hd]; simp)
        clear HR
        go_wp2_with fail
        go_ret
        rw [HN.out]
        exact ⟨rfl, H3.out.2⟩
    · have HN : Hid (R = false) := hide (by rw [HR.out, decide_eq_false hn]; rfl)
      clear HR
      go_wp2_with fail
      go_ret
      rw [HN.out]
      exact ⟨rfl, H3.out.2⟩
end Go.Proofs.YtbcadeikdmlpoaaGreatDoor
