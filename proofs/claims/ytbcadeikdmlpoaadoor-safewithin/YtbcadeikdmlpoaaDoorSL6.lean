/-
  The law SafeWithin.
-/
import Derived.Test.YtbcadeikdmlpoaaDoorSLX
import Derived.Test.YtbcadeikdmlpoaaDoorN12
namespace Go.Proofs.YtbcadeikdmlpoaaDoor
open Go.RowKit
open Utf1 Pol8

theorem natD_take {w : World} {D : Nat} {g off n c : Nat} {ns : List Nd} (h : Dm.NAtD w (D + 1) (.slice (some ⟨g, off, none⟩) n c) ns) {k : Nat} (hk : k ≤ ns.length) : Dm.NAtD w (D + 1) (.slice (some ⟨g, off, none⟩) k c) (ns.take k) := by
  obtain ⟨p, c', e, hl, hn⟩ := h
  injection e with e1 e2 e3
  subst e3
  refine ⟨some ⟨g, off, none⟩, c, by rw [List.length_take, Nat.min_eq_left hk], by rw [List.length_take]; omega, fun i nd hi => ?_⟩
  rw [List.getElem?_take] at hi
  split at hi
  · rw [e1]
    exact hn i nd hi
  · cases hi
theorem natD_drop {w : World} {D : Nat} {g off n c : Nat} {ns : List Nd} (h : Dm.NAtD w (D + 1) (.slice (some ⟨g, off, none⟩) n c) ns) {k : Nat} (hk : k ≤ ns.length) (m : Nat) : Dm.NAtD w (D + 1) (.slice (some ⟨g, off + k * 4, none⟩) (ns.length - k) m) (ns.drop k) := by
  obtain ⟨p, c', e, hl, hn⟩ := h
  injection e with e1 e2 e3
  refine ⟨some ⟨g, off + k * 4, none⟩, m, by rw [List.length_drop], by rw [List.length_drop]; omega, fun i nd hi => ?_⟩
  rw [List.getElem?_drop] at hi
  obtain ⟨g', off', ap, am, ac, kp, km, kc, hp, x0, x1, x2, x3, h1, h2, h3⟩ := hn (k + i) nd hi
  rw [hp] at e1
  injection e1 with e1
  injection e1 with a1 a2
  subst a1 a2
  have e : off + (k + i) * 4 = off + k * 4 + i * 4 := by omega
  rw [e] at x0 x1 x2 x3
  exact ⟨g, off + k * 4, ap, am, ac, kp, km, kc, rfl, x0, x1, x2, x3, h1, h2, h3⟩
theorem ws_take (l : List Nd) (k : Nat) : wsL (l.take k) ≤ wsL l ∧ wsL (l.drop k) ≤ wsL l := by
  have := wsL_app (l.take k) (l.drop k)
  rw [List.take_append_drop] at this
  omega
theorem tmod_nat (i : Int) (h : 0 ≤ i) (N : Nat) : Int.tmod i (N : Int) = ((i.toNat % N : Nat) : Int) := by
  obtain ⟨n, rfl⟩ : ∃ n : Nat, i = (n : Int) := ⟨i.toNat, by omega⟩
  rw [Int.toNat_natCast, Int.ofNat_tmod]

set_option maxRecDepth 100000 in
set_option maxHeartbeats 32000000 in
theorem lawSaWithin_walk (hS : SafeC) (v1 v2 v3 v4 v5 : Value) (p : Pol) (l1 l2 l3 l4 l5 : List ByteArray) (pv : Option Addr) (nv cv : Nat) (ns : List Nd) (nn : Int) (w : World) (hv : PolV w v1 v2 v3 v4 v5 p l1 l2 l3 l4 l5) (hk : Dm.NAt w (.slice pv nv cv) ns) (hcap : nv ≤ cv) :
    Calls Tryd.prog 4 #[pval p v1 v2 v3 v4 v5, .slice pv nv cv, .int .i64 nn] w fun e w' => e = .returned (.bool true) ∧ Below w.heap.size w w' := by
  have HV := hide hv
  have HK := hide hk
  obtain ⟨D, hD⟩ := hk
  obtain ⟨D, rfl⟩ : ∃ D', D = D' + 1 := by
    cases D with
    | zero => exact hD.elim
    | succ D => exact ⟨D, rfl⟩
  have HD := hide hD
  have hnl : nv = ns.length := by
    obtain ⟨_, _, e, -⟩ := hD
    injection e
  have hnm : nv ≤ 9223372036854775807 := by
    obtain ⟨_, _, _, h, -⟩ := hD
    omega
  have HNL := hide hnl
  clear hnl hD
  obtain ⟨o1, k1, rfl, -, -⟩ := hv.s1
  obtain ⟨o2, k2, rfl, -, -⟩ := hv.s2
  obtain ⟨o3, k3, rfl, -, -⟩ := hv.s3
  obtain ⟨o4, k4, rfl, -, -⟩ := hv.s4
  obtain ⟨o5, k5, rfl, -, -⟩ := hv.s5
  clear hv
  obtain ⟨w1, hw1⟩ : ∃ w1, w1 = w.alloc (.cells #[.int .i64 p.ep, .slice o1 (List.length l1) k1, .slice o2 (List.length l2) k2, .slice o3 (List.length l3) k3, .slice o4 (List.length l4) k4, .slice o5 (List.length l5) k5, .int .i64 p.dp, .int .i64 p.nd, .int .i64 p.bt] 24) := ⟨_, rfl⟩
  have H1 : Hid (BoxP w #[.int .i64 p.ep, .slice o1 (List.length l1) k1, .slice o2 (List.length l2) k2, .slice o3 (List.length l3) k3, .slice o4 (List.length l4) k4, .slice o5 (List.length l5) k5, .int .i64 p.dp, .int .i64 p.nd, .int .i64 p.bt] w1) := hide (by rw [hw1]; exact ⟨new_block _ _ _, bel_alloc (Below.refl _ _) _⟩)
  have SK : Hid (∀ wx, BoxP w #[.int .i64 p.ep, .slice o1 (List.length l1) k1, .slice o2 (List.length l2) k2, .slice o3 (List.length l3) k3, .slice o4 (List.length l4) k4, .slice o5 (List.length l5) k5, .int .i64 p.dp, .int .i64 p.nd, .int .i64 p.bt] wx → wx.cell? ⟨w.heap.size, 0, none⟩ = some (.int .i64 p.ep) ∧ wx.cell? ⟨w.heap.size, 1, none⟩ = some (.slice o1 (List.length l1) k1) ∧ wx.cell? ⟨w.heap.size, 2, none⟩ = some (.slice o2 (List.length l2) k2) ∧ wx.cell? ⟨w.heap.size, 3, none⟩ = some (.slice o3 (List.length l3) k3) ∧ wx.cell? ⟨w.heap.size, 4, none⟩ = some (.slice o4 (List.length l4) k4) ∧ wx.cell? ⟨w.heap.size, 5, none⟩ = some (.slice o5 (List.length l5) k5) ∧ wx.cell? ⟨w.heap.size, 6, none⟩ = some (.int .i64 p.dp) ∧ wx.cell? ⟨w.heap.size, 7, none⟩ = some (.int .i64 p.nd) ∧ wx.cell? ⟨w.heap.size, 8, none⟩ = some (.int .i64 p.bt) ∧ Hid (BoxP w #[.int .i64 p.ep, .slice o1 (List.length l1) k1, .slice o2 (List.length l2) k2, .slice o3 (List.length l3) k3, .slice o4 (List.length l4) k4, .slice o5 (List.length l5) k5, .int .i64 p.dp, .int .i64 p.nd, .int .i64 p.bt] wx)) := hide (fun wx h => ⟨h.cell 0 _ rfl, h.cell 1 _ rfl, h.cell 2 _ rfl, h.cell 3 _ rfl, h.cell 4 _ rfl, h.cell 5 _ rfl, h.cell 6 _ rfl, h.cell 7 _ rfl, h.cell 8 _ rfl, hide h⟩)
  have CW : Hid (∀ wx, BoxP w #[.int .i64 p.ep, .slice o1 (List.length l1) k1, .slice o2 (List.length l2) k2, .slice o3 (List.length l3) k3, .slice o4 (List.length l4) k4, .slice o5 (List.length l5) k5, .int .i64 p.dp, .int .i64 p.nd, .int .i64 p.bt] wx → Calls Tryd.prog 7 #[] wx fun e w' => e = .returned (.bool true) ∧ BoxP w #[.int .i64 p.ep, .slice o1 (List.length l1) k1, .slice o2 (List.length l2) k2, .slice o3 (List.length l3) k3, .slice o4 (List.length l4) k4, .slice o5 (List.length l5) k5, .int .i64 p.dp, .int .i64 p.nd, .int .i64 p.bt] w') := hide (fun wx h => (awake_any hS wx).mono fun _ w' ⟨h1, h2⟩ => ⟨h1, h.keep h2⟩)
  have CL : Hid (∀ wx, BoxP w #[.int .i64 p.ep, .slice o1 (List.length l1) k1, .slice o2 (List.length l2) k2, .slice o3 (List.length l3) k3, .slice o4 (List.length l4) k4, .slice o5 (List.length l5) k5, .int .i64 p.dp, .int .i64 p.nd, .int .i64 p.bt] wx → Calls Tryd.prog 8 #[.agg #[.int .i64 p.ep, .slice o1 (List.length l1) k1, .slice o2 (List.length l2) k2, .slice o3 (List.length l3) k3, .slice o4 (List.length l4) k4, .slice o5 (List.length l5) k5, .int .i64 p.dp, .int .i64 p.nd, .int .i64 p.bt]] wx fun e w' => (∃ b : Bool, e = .returned (.bool b) ∧ (b = true → light p)) ∧ BoxP w #[.int .i64 p.ep, .slice o1 (List.length l1) k1, .slice o2 (List.length l2) k2, .slice o3 (List.length l3) k3, .slice o4 (List.length l4) k4, .slice o5 (List.length l5) k5, .int .i64 p.dp, .int .i64 p.nd, .int .i64 p.bt] w') := hide (fun wx h => (rlight_any _ _ _ _ _ p _ _ _ _ _ wx (HV.out.below h.2)).mono fun _ w' ⟨h1, h2⟩ => ⟨h1, h.keep h2⟩)
  have CM : Hid (∀ wx, BoxP w #[.int .i64 p.ep, .slice o1 (List.length l1) k1, .slice o2 (List.length l2) k2, .slice o3 (List.length l3) k3, .slice o4 (List.length l4) k4, .slice o5 (List.length l5) k5, .int .i64 p.dp, .int .i64 p.nd, .int .i64 p.bt] wx → Calls Tryd.prog 13 #[.slice pv nv cv, .int .i64 0] wx fun e w' => (∃ b : Bool, e = .returned (.bool b) ∧ (b = true → wsL ns ≤ 20000)) ∧ BoxP w #[.int .i64 p.ep, .slice o1 (List.length l1) k1, .slice o2 (List.length l2) k2, .slice o3 (List.length l3) k3, .slice o4 (List.length l4) k4, .slice o5 (List.length l5) k5, .int .i64 p.dp, .int .i64 p.nd, .int .i64 p.bt] w') := hide (fun wx h => (Dm.light_nst wx (.slice pv nv cv) ns (HK.out.below h.2)).mono fun _ w' ⟨b, h1, h2, h3⟩ => ⟨⟨b, h1, fun e => Nat.le_of_lt (h2 e)⟩, h.keep h3⟩)
  have CS : Hid (fits p → ∀ (v : Value) (ms : List Nd) wx, BoxP w #[.int .i64 p.ep, .slice o1 (List.length l1) k1, .slice o2 (List.length l2) k2, .slice o3 (List.length l3) k3, .slice o4 (List.length l4) k4, .slice o5 (List.length l5) k5, .int .i64 p.dp, .int .i64 p.nd, .int .i64 p.bt] wx → Dm.NAt w v ms → wsL ms ≤ 20000 → Calls Tryd.prog 14 #[.agg #[.int .i64 p.ep, .slice o1 (List.length l1) k1, .slice o2 (List.length l2) k2, .slice o3 (List.length l3) k3, .slice o4 (List.length l4) k4, .slice o5 (List.length l5) k5, .int .i64 p.dp, .int .i64 p.nd, .int .i64 p.bt], v] wx fun e w' => e = .returned (.bool (Saf.safeB p ms)) ∧ BoxP w #[.int .i64 p.ep, .slice o1 (List.length l1) k1, .slice o2 (List.length l2) k2, .slice o3 (List.length l3) k3, .slice o4 (List.length l4) k4, .slice o5 (List.length l5) k5, .int .i64 p.dp, .int .i64 p.nd, .int .i64 p.bt] w') := hide (fun hf v ms wx h hn hw => (hS _ _ _ _ _ p _ _ _ _ _ v ms wx (HV.out.below h.2) hf (hn.below h.2) hw).mono fun _ w' ⟨h1, h2⟩ => ⟨h1, h.keep h2⟩)
  clear hS HV
  go_enter Tryd.func4, Tryd.ntmps4
  go_upto_region 1 with fail
  rw [← hw1]
  clear hw1
  go_wp2_with fail
  refine (CW.out _ H1.out).mono ?_
  rintro e w2 ⟨rfl, h2⟩
  have H2 := hide h2
  clear h2 CW H1
  obtain ⟨y0, y1, y2, y3, y4, y5, y6, y7, y8, -⟩ := SK.out w2 H2.out
  go_wp2_with fail
  refine (CL.out _ H2.out).mono ?_
  rintro e w3 ⟨⟨b1, rfl, hb1⟩, h3⟩
  have H3 := hide h3
  have HB1 := hide hb1
  clear h3 hb1 CL H2 y0 y1 y2 y3 y4 y5 y6 y7 y8
  go_wp2_with fail
  refine (CM.out _ H3.out).mono ?_
  rintro e w4 ⟨⟨b2, rfl, hb2⟩, h4⟩
  have H4 := hide h4
  have HB2 := hide hb2
  clear h4 hb2 CM H3
  cases b1 with
  | false =>
    go_wp2_with fail
    go_ret
    exact ⟨rfl, H4.out.2⟩
  | true =>
  cases b2 with
  | false =>
    go_wp2_with fail
    go_ret
    exact ⟨rfl, H4.out.2⟩
  | true =>
  by_cases hneg : nn < 0
  · go_wp2_with fail
    go_ret
    exact ⟨rfl, H4.out.2⟩
  by_cases hnz : nv = 0
  · have hz : ((nv : Int) == 0) = true := by rw [hnz]; rfl
    go_wp2_with fail
    go_ret
    exact ⟨rfl, H4.out.2⟩
  have hz : ((nv : Int) == 0) = false := beq_eq_false_iff_ne.2 (by omega)
  have F1 := hide (light_fits (HB1.out rfl))
  have F2 := hide (HB2.out rfl)
  have CS := hide (CS.out F1.out)
  have C0 := hide (CS.out (.slice pv nv cv) ns)
  clear HB1 HB2 F1
  obtain ⟨y0, y1, y2, y3, y4, y5, y6, y7, y8, -⟩ := SK.out w4 H4.out
  go_wp2_with fail
  refine (C0.out _ H4.out HK.out F2.out).mono ?_
  rintro e w5 ⟨rfl, h5⟩
  have H5 := hide h5
  clear h5 C0 H4 y0 y1 y2 y3 y4 y5 y6 y7 y8
  cases hsf : Saf.safeB p ns with
  | false =>
    go_wp2_with fail
    go_ret
    exact ⟨rfl, H5.out.2⟩
  | true =>
    obtain ⟨k, hkd⟩ : ∃ k, k = nn.toNat % nv := ⟨_, rfl⟩
    have hmod : Int.tmod nn (nv : Int) = (k : Int) := by rw [hkd]; exact tmod_nat nn (by omega) nv
    have hkN : k < nv := by rw [hkd]; exact Nat.mod_lt _ (by omega)
    obtain ⟨nd, hnd⟩ : ∃ nd, ns[k]? = some nd := ⟨_, List.getElem?_eq_getElem (by have := HNL.out; omega)⟩
    obtain ⟨g, off, ap, am, ac, kp, km, kc, rfl, c3, hkk⟩ : ∃ g off ap am ac kp km kc, pv = some ⟨g, off, none⟩ ∧ w.cell? ⟨g, off + k * 4 + 3, none⟩ = some (.slice kp km kc) ∧ Dm.NAtD w D (.slice kp km kc) nd.kids := by
      obtain ⟨p', c', e, -, hn⟩ := HD.out
      injection e with e1 e2 e3
      obtain ⟨g, off, ap, am, ac, kp, km, kc, hp, x0, x1, x2, x3, h1, h2, h3⟩ := hn k nd hnd
      exact ⟨g, off, ap, am, ac, kp, km, kc, e1.trans hp, x3, h3⟩
    obtain ⟨s1, s2, s3⟩ := Saf.safe_parts hsf hnd
    have hwk : wsL nd.kids ≤ 20000 := by
      have h1 := ws_nodeP hnd
      rw [wsN_kids] at h1
      have := F2.out
      omega
    have hwt := ws_take ns k
    have K1 : Hid (∀ wx, BoxP w #[.int .i64 p.ep, .slice o1 (List.length l1) k1, .slice o2 (List.length l2) k2, .slice o3 (List.length l3) k3, .slice o4 (List.length l4) k4, .slice o5 (List.length l5) k5, .int .i64 p.dp, .int .i64 p.nd, .int .i64 p.bt] wx → Calls Tryd.prog 14 #[.agg #[.int .i64 p.ep, .slice o1 (List.length l1) k1, .slice o2 (List.length l2) k2, .slice o3 (List.length l3) k3, .slice o4 (List.length l4) k4, .slice o5 (List.length l5) k5, .int .i64 p.dp, .int .i64 p.nd, .int .i64 p.bt], .slice kp km kc] wx fun e w' => e = .returned (.bool true) ∧ BoxP w #[.int .i64 p.ep, .slice o1 (List.length l1) k1, .slice o2 (List.length l2) k2, .slice o3 (List.length l3) k3, .slice o4 (List.length l4) k4, .slice o5 (List.length l5) k5, .int .i64 p.dp, .int .i64 p.nd, .int .i64 p.bt] w') := hide (fun wx h => by
      have := CS.out (.slice kp km kc) nd.kids wx h ⟨D, hkk⟩ hwk
      rw [s1] at this
      exact this)
    have K2 : Hid (∀ wx, BoxP w #[.int .i64 p.ep, .slice o1 (List.length l1) k1, .slice o2 (List.length l2) k2, .slice o3 (List.length l3) k3, .slice o4 (List.length l4) k4, .slice o5 (List.length l5) k5, .int .i64 p.dp, .int .i64 p.nd, .int .i64 p.bt] wx → Calls Tryd.prog 14 #[.agg #[.int .i64 p.ep, .slice o1 (List.length l1) k1, .slice o2 (List.length l2) k2, .slice o3 (List.length l3) k3, .slice o4 (List.length l4) k4, .slice o5 (List.length l5) k5, .int .i64 p.dp, .int .i64 p.nd, .int .i64 p.bt], .slice (some ⟨g, off, none⟩) k cv] wx fun e w' => e = .returned (.bool true) ∧ BoxP w #[.int .i64 p.ep, .slice o1 (List.length l1) k1, .slice o2 (List.length l2) k2, .slice o3 (List.length l3) k3, .slice o4 (List.length l4) k4, .slice o5 (List.length l5) k5, .int .i64 p.dp, .int .i64 p.nd, .int .i64 p.bt] w') := hide (fun wx h => by
      have := CS.out (.slice (some ⟨g, off, none⟩) k cv) (ns.take k) wx h ⟨D + 1, natD_take HD.out (by have := HNL.out; omega)⟩ (by have := F2.out; omega)
      rw [s2] at this
      exact this)
    have K3 : Hid (∀ wx, BoxP w #[.int .i64 p.ep, .slice o1 (List.length l1) k1, .slice o2 (List.length l2) k2, .slice o3 (List.length l3) k3, .slice o4 (List.length l4) k4, .slice o5 (List.length l5) k5, .int .i64 p.dp, .int .i64 p.nd, .int .i64 p.bt] wx → Calls Tryd.prog 14 #[.agg #[.int .i64 p.ep, .slice o1 (List.length l1) k1, .slice o2 (List.length l2) k2, .slice o3 (List.length l3) k3, .slice o4 (List.length l4) k4, .slice o5 (List.length l5) k5, .int .i64 p.dp, .int .i64 p.nd, .int .i64 p.bt], .slice (some ⟨g, off + k * 4, none⟩) (nv - k) (cv - k)] wx fun e w' => e = .returned (.bool true) ∧ BoxP w #[.int .i64 p.ep, .slice o1 (List.length l1) k1, .slice o2 (List.length l2) k2, .slice o3 (List.length l3) k3, .slice o4 (List.length l4) k4, .slice o5 (List.length l5) k5, .int .i64 p.dp, .int .i64 p.nd, .int .i64 p.bt] w') := hide (fun wx h => by
      have := CS.out (.slice (some ⟨g, off + k * 4, none⟩) (ns.length - k) (cv - k)) (ns.drop k) wx h ⟨D + 1, natD_drop HD.out (by have := HNL.out; omega) (cv - k)⟩ (by have := F2.out; omega)
      rw [s3, ← HNL.out] at this
      exact this)
    have HC3 := hide c3
    have SK2 : Hid (∀ wx, BoxP w #[.int .i64 p.ep, .slice o1 (List.length l1) k1, .slice o2 (List.length l2) k2, .slice o3 (List.length l3) k3, .slice o4 (List.length l4) k4, .slice o5 (List.length l5) k5, .int .i64 p.dp, .int .i64 p.nd, .int .i64 p.bt] wx → wx.cell? ⟨w.heap.size, 0, none⟩ = some (.int .i64 p.ep) ∧ wx.cell? ⟨w.heap.size, 1, none⟩ = some (.slice o1 (List.length l1) k1) ∧ wx.cell? ⟨w.heap.size, 2, none⟩ = some (.slice o2 (List.length l2) k2) ∧ wx.cell? ⟨w.heap.size, 3, none⟩ = some (.slice o3 (List.length l3) k3) ∧ wx.cell? ⟨w.heap.size, 4, none⟩ = some (.slice o4 (List.length l4) k4) ∧ wx.cell? ⟨w.heap.size, 5, none⟩ = some (.slice o5 (List.length l5) k5) ∧ wx.cell? ⟨w.heap.size, 6, none⟩ = some (.int .i64 p.dp) ∧ wx.cell? ⟨w.heap.size, 7, none⟩ = some (.int .i64 p.nd) ∧ wx.cell? ⟨w.heap.size, 8, none⟩ = some (.int .i64 p.bt) ∧ wx.cell? ⟨g, off + k * 4 + 3, none⟩ = some (.slice kp km kc) ∧ Hid (BoxP w #[.int .i64 p.ep, .slice o1 (List.length l1) k1, .slice o2 (List.length l2) k2, .slice o3 (List.length l3) k3, .slice o4 (List.length l4) k4, .slice o5 (List.length l5) k5, .int .i64 p.dp, .int .i64 p.nd, .int .i64 p.bt] wx)) := hide (fun wx h => ⟨h.cell 0 _ rfl, h.cell 1 _ rfl, h.cell 2 _ rfl, h.cell 3 _ rfl, h.cell 4 _ rfl, h.cell 5 _ rfl, h.cell 6 _ rfl, h.cell 7 _ rfl, h.cell 8 _ rfl, cell_keep HC3.out h.2, hide h⟩)
    have SB : Hid (∀ wx, (wx.cell? ⟨w.heap.size, 0, none⟩ = some (.int .i64 p.ep) ∧ wx.cell? ⟨w.heap.size, 1, none⟩ = some (.slice o1 (List.length l1) k1) ∧ wx.cell? ⟨w.heap.size, 2, none⟩ = some (.slice o2 (List.length l2) k2) ∧ wx.cell? ⟨w.heap.size, 3, none⟩ = some (.slice o3 (List.length l3) k3) ∧ wx.cell? ⟨w.heap.size, 4, none⟩ = some (.slice o4 (List.length l4) k4) ∧ wx.cell? ⟨w.heap.size, 5, none⟩ = some (.slice o5 (List.length l5) k5) ∧ wx.cell? ⟨w.heap.size, 6, none⟩ = some (.int .i64 p.dp) ∧ wx.cell? ⟨w.heap.size, 7, none⟩ = some (.int .i64 p.nd) ∧ wx.cell? ⟨w.heap.size, 8, none⟩ = some (.int .i64 p.bt) ∧ wx.cell? ⟨g, off + k * 4 + 3, none⟩ = some (.slice kp km kc) ∧ Hid (BoxP w #[.int .i64 p.ep, .slice o1 (List.length l1) k1, .slice o2 (List.length l2) k2, .slice o3 (List.length l3) k3, .slice o4 (List.length l4) k4, .slice o5 (List.length l5) k5, .int .i64 p.dp, .int .i64 p.nd, .int .i64 p.bt] wx)) → BoxP w #[.int .i64 p.ep, .slice o1 (List.length l1) k1, .slice o2 (List.length l2) k2, .slice o3 (List.length l3) k3, .slice o4 (List.length l4) k4, .slice o5 (List.length l5) k5, .int .i64 p.dp, .int .i64 p.nd, .int .i64 p.bt] wx) := hide (fun wx h => h.2.2.2.2.2.2.2.2.2.2.out)
    have b0 : (0 : Int) ≤ (k : Int) := by omega
    have b1 : (k : Int) ≤ (cv : Int) := by omega
    have b2 : (k : Int) ≤ (nv : Int) := by omega
    have b3 : (nv : Int) ≤ (cv : Int) := by omega
    have b4 : ¬ cv = k := by omega
    clear hkd hsf hnd c3 hkk s1 s2 s3 hwk hwt CS HK HD HNL F2 SK hnz hneg
    go_wp2_with fail
    refine wp_region_held_drew (S := (fun wx => wx.cell? ⟨w.heap.size, 0, none⟩ = some (.int .i64 p.ep) ∧ wx.cell? ⟨w.heap.size, 1, none⟩ = some (.slice o1 (List.length l1) k1) ∧ wx.cell? ⟨w.heap.size, 2, none⟩ = some (.slice o2 (List.length l2) k2) ∧ wx.cell? ⟨w.heap.size, 3, none⟩ = some (.slice o3 (List.length l3) k3) ∧ wx.cell? ⟨w.heap.size, 4, none⟩ = some (.slice o4 (List.length l4) k4) ∧ wx.cell? ⟨w.heap.size, 5, none⟩ = some (.slice o5 (List.length l5) k5) ∧ wx.cell? ⟨w.heap.size, 6, none⟩ = some (.int .i64 p.dp) ∧ wx.cell? ⟨w.heap.size, 7, none⟩ = some (.int .i64 p.nd) ∧ wx.cell? ⟨w.heap.size, 8, none⟩ = some (.int .i64 p.bt) ∧ wx.cell? ⟨g, off + k * 4 + 3, none⟩ = some (.slice kp km kc) ∧ Hid (BoxP w #[.int .i64 p.ep, .slice o1 (List.length l1) k1, .slice o2 (List.length l2) k2, .slice o3 (List.length l3) k3, .slice o4 (List.length l4) k4, .slice o5 (List.length l5) k5, .int .i64 p.dp, .int .i64 p.nd, .int .i64 p.bt] wx))) (by kernel_rfl) (SK2.out _ (H5.out.keep ((Below.refl _ _).drew))) (fun hHeld => ?_)
    refine wpAnyH_at (i := 0) (v := ?vf0) (a1 := ?xf0) rfl (by kernel_rfl) (by kernel_rfl) (by kernel_rfl) (fun _ _ _ h => h) (Or.inl ⟨by rfl, ?yf0⟩) (by assumption) ?hf0 ?zf0
    case yf0 => (intro w hSw; (try dsimp only at hSw); go_simp; try (with_reducible rfl))
    case hf0 => (go_simp; exact rfl)
    case zf0 =>
    refine wpAnyH_at (i := 1) (v := ?vf1) (a1 := ?xf1) rfl (by kernel_rfl) (by kernel_rfl) (by kernel_rfl) (fun _ _ _ h => h) (Or.inl ⟨by rfl, ?yf1⟩) (by assumption) ?hf1 ?zf1
    case yf1 => (intro w hSw; (try dsimp only at hSw); go_simp; try (with_reducible rfl))
    case hf1 => (go_simp; exact rfl)
    case zf1 =>
    refine wpAnyH_at (i := 2) (v := ?vf2) (a1 := ?xf2) rfl (by kernel_rfl) (by kernel_rfl) (by kernel_rfl) (fun _ _ _ h => h) (Or.inl ⟨by rfl, ?yf2⟩) (by assumption) ?hf2 ?zf2
    case yf2 => (intro w hSw; (try dsimp only at hSw); go_simp; try (with_reducible rfl))
    case hf2 => (go_simp; exact rfl)
    case zf2 =>
    refine wpAnyH_at (i := 3) (v := ?vf3) (a1 := ?xf3) rfl (by kernel_rfl) (by kernel_rfl) (by kernel_rfl) (fun _ _ _ h => h) (Or.inl ⟨by rfl, ?yf3⟩) (by assumption) ?hf3 ?zf3
    case yf3 => (intro w hSw; (try dsimp only at hSw); go_simp; try (with_reducible rfl))
    case hf3 => (go_simp; exact rfl)
    case zf3 =>
    refine wpAnyH_at (i := 4) (v := ?vf4) (a1 := ?xf4) rfl (by kernel_rfl) (by kernel_rfl) (by kernel_rfl) (fun _ _ _ h => h) (Or.inl ⟨by rfl, ?yf4⟩) (by assumption) ?hf4 ?zf4
    case yf4 => (intro w hSw; (try dsimp only at hSw); go_simp; try (with_reducible rfl))
    case hf4 => (go_simp; exact rfl)
    case zf4 =>
    refine wpAnyH_at (i := 5) (v := ?vf5) (a1 := ?xf5) rfl (by kernel_rfl) (by kernel_rfl) (by kernel_rfl) (fun _ _ _ h => h) (Or.inl ⟨by rfl, ?yf5⟩) (by assumption) ?hf5 ?zf5
    case yf5 => (intro w hSw; (try dsimp only at hSw); go_simp; try (with_reducible rfl))
    case hf5 => (go_simp; exact rfl)
    case zf5 =>
    refine wpAnyH_at (i := 6) (v := ?vf6) (a1 := ?xf6) rfl (by kernel_rfl) (by kernel_rfl) (by kernel_rfl) (fun _ _ _ h => h) (Or.inl ⟨by rfl, ?yf6⟩) (by assumption) ?hf6 ?zf6
    case yf6 => (intro w hSw; (try dsimp only at hSw); go_simp; try (with_reducible rfl))
    case hf6 => (go_simp; exact rfl)
    case zf6 =>
    refine wpAnyH_at (i := 7) (v := ?vf7) (a1 := ?xf7) rfl (by kernel_rfl) (by kernel_rfl) (by kernel_rfl) (fun _ _ _ h => h) (Or.inl ⟨by rfl, ?yf7⟩) (by assumption) ?hf7 ?zf7
    case yf7 => (intro w hSw; (try dsimp only at hSw); go_simp; try (with_reducible rfl))
    case hf7 => (go_simp; exact rfl)
    case zf7 =>
    refine wpAnyH_ready (rs := [8]) (by kernel_rfl) (by simp) ?_
    refine AllReadyH.cons rfl (fun K hK => ?_) AllReadyH.nil
    go_simp
    refine (K1.out _ (SB.out _ (by assumption))).mono ?_
    rintro r w8 ⟨rfl, h8⟩
    try go_wp2_with fail
    refine hK.out _ _ (SK2.out _ (by assumption)) (fun hHeld2 => ?_)
    clear hK K hHeld
    have hHeld := hHeld2
    clear hHeld2
    refine wpAnyH_at (i := 9) (v := ?vf9) (a1 := ?xf9) rfl (by kernel_rfl) (by kernel_rfl) (by kernel_rfl) (fun _ _ _ h => h) (Or.inl ⟨by rfl, ?yf9⟩) (by assumption) ?hf9 ?zf9
    case yf9 => (intro w hSw; (try dsimp only at hSw); go_simp; try (with_reducible rfl))
    case hf9 => (go_simp; exact rfl)
    case zf9 =>
    refine wpAnyH_at (i := 10) (v := ?vf10) (a1 := ?xf10) rfl (by kernel_rfl) (by kernel_rfl) (by kernel_rfl) (fun _ _ _ h => h) (Or.inl ⟨by rfl, ?yf10⟩) (by assumption) ?hf10 ?zf10
    case yf10 => (intro w hSw; (try dsimp only at hSw); go_simp; try (with_reducible rfl))
    case hf10 => (go_simp; exact rfl)
    case zf10 =>
    refine wpAnyH_at (i := 11) (v := ?vf11) (a1 := ?xf11) rfl (by kernel_rfl) (by kernel_rfl) (by kernel_rfl) (fun _ _ _ h => h) (Or.inl ⟨by rfl, ?yf11⟩) (by assumption) ?hf11 ?zf11
    case yf11 => (intro w hSw; (try dsimp only at hSw); go_simp; try (with_reducible rfl))
    case hf11 => (go_simp; exact rfl)
    case zf11 =>
    refine wpAnyH_at (i := 12) (v := ?vf12) (a1 := ?xf12) rfl (by kernel_rfl) (by kernel_rfl) (by kernel_rfl) (fun _ _ _ h => h) (Or.inl ⟨by rfl, ?yf12⟩) (by assumption) ?hf12 ?zf12
    case yf12 => (intro w hSw; (try dsimp only at hSw); go_simp; try (with_reducible rfl))
    case hf12 => (go_simp; exact rfl)
    case zf12 =>
    refine wpAnyH_at (i := 13) (v := ?vf13) (a1 := ?xf13) rfl (by kernel_rfl) (by kernel_rfl) (by kernel_rfl) (fun _ _ _ h => h) (Or.inl ⟨by rfl, ?yf13⟩) (by assumption) ?hf13 ?zf13
    case yf13 => (intro w hSw; (try dsimp only at hSw); go_simp; try (with_reducible rfl))
    case hf13 => (go_simp; exact rfl)
    case zf13 =>
    refine wpAnyH_at (i := 14) (v := ?vf14) (a1 := ?xf14) rfl (by kernel_rfl) (by kernel_rfl) (by kernel_rfl) (fun _ _ _ h => h) (Or.inl ⟨by rfl, ?yf14⟩) (by assumption) ?hf14 ?zf14
    case yf14 => (intro w hSw; (try dsimp only at hSw); go_simp; try (with_reducible rfl))
    case hf14 => (go_simp; exact rfl)
    case zf14 =>
    refine wpAnyH_ready (rs := [15]) (by kernel_rfl) (by simp) ?_
    refine AllReadyH.cons rfl (fun K hK => ?_) AllReadyH.nil
    go_simp
    refine (K2.out _ (SB.out _ (by assumption))).mono ?_
    rintro r w9 ⟨rfl, h9⟩
    try go_wp2_with fail
    refine hK.out _ _ (SK2.out _ (by assumption)) (fun hHeld2 => ?_)
    clear hK K hHeld
    have hHeld := hHeld2
    clear hHeld2
    refine wpAnyH_at (i := 16) (v := ?vf16) (a1 := ?xf16) rfl (by kernel_rfl) (by kernel_rfl) (by kernel_rfl) (fun _ _ _ h => h) (Or.inl ⟨by rfl, ?yf16⟩) (by assumption) ?hf16 ?zf16
    case yf16 => (intro w hSw; (try dsimp only at hSw); go_simp; try (with_reducible rfl))
    case hf16 => (go_simp; exact rfl)
    case zf16 =>
    refine wpAnyH_at (i := 17) (v := ?vf17) (a1 := ?xf17) rfl (by kernel_rfl) (by kernel_rfl) (by kernel_rfl) (fun _ _ _ h => h) (Or.inl ⟨by rfl, ?yf17⟩) (by assumption) ?hf17 ?zf17
    case yf17 => (intro w hSw; (try dsimp only at hSw); go_simp; try (with_reducible rfl))
    case hf17 => (go_simp; exact rfl)
    case zf17 =>
    refine wpAnyH_at (i := 18) (v := ?vf18) (a1 := ?xf18) rfl (by kernel_rfl) (by kernel_rfl) (by kernel_rfl) (fun _ _ _ h => h) (Or.inl ⟨by rfl, ?yf18⟩) (by assumption) ?hf18 ?zf18
    case yf18 => (intro w hSw; (try dsimp only at hSw); go_simp; try (with_reducible rfl))
    case hf18 => (go_simp; exact rfl)
    case zf18 =>
    refine wpAnyH_at (i := 19) (v := ?vf19) (a1 := ?xf19) rfl (by kernel_rfl) (by kernel_rfl) (by kernel_rfl) (fun _ _ _ h => h) (Or.inl ⟨by rfl, ?yf19⟩) (by assumption) ?hf19 ?zf19
    case yf19 => (intro w hSw; (try dsimp only at hSw); go_simp; try (with_reducible rfl))
    case hf19 => (go_simp; exact rfl)
    case zf19 =>
    refine wpAnyH_at (i := 20) (v := ?vf20) (a1 := ?xf20) rfl (by kernel_rfl) (by kernel_rfl) (by kernel_rfl) (fun _ _ _ h => h) (Or.inl ⟨by rfl, ?yf20⟩) (by assumption) ?hf20 ?zf20
    case yf20 => (intro w hSw; (try dsimp only at hSw); go_simp; try (with_reducible rfl))
    case hf20 => (go_simp; exact rfl)
    case zf20 =>
    refine wpAnyH_at (i := 21) (v := ?vf21) (a1 := ?xf21) rfl (by kernel_rfl) (by kernel_rfl) (by kernel_rfl) (fun _ _ _ h => h) (Or.inl ⟨by rfl, ?yf21⟩) (by assumption) ?hf21 ?zf21
    case yf21 => (intro w hSw; (try dsimp only at hSw); go_simp; try (with_reducible rfl))
    case hf21 => (go_simp; exact rfl)
    case zf21 =>
    refine wpAnyH_ready (rs := [22]) (by kernel_rfl) (by simp) ?_
    refine AllReadyH.cons rfl (fun K hK => ?_) AllReadyH.nil
    go_simp
    refine (K3.out _ (SB.out _ (by assumption))).mono ?_
    rintro r w10 ⟨rfl, h10⟩
    try go_wp2_with fail
    refine hK.out _ _ (SK2.out _ (by assumption)) (fun hHeld2 => ?_)
    clear hK K hHeld
    have hHeld := hHeld2
    clear hHeld2
    refine wpAnyH_at (i := 23) (v := ?vf23) (a1 := ?xf23) rfl (by kernel_rfl) (by kernel_rfl) (by kernel_rfl) (fun _ _ _ h => h) (Or.inl ⟨by rfl, ?yf23⟩) (by assumption) ?hf23 ?zf23
    case yf23 => (intro w hSw; (try dsimp only at hSw); go_simp; try (with_reducible rfl))
    case hf23 => (go_simp; exact rfl)
    case zf23 =>
    refine wpAnyH_at (i := 24) (v := ?vf24) (a1 := ?xf24) rfl (by kernel_rfl) (by kernel_rfl) (by kernel_rfl) (fun _ _ _ h => h) (Or.inl ⟨by rfl, ?yf24⟩) (by assumption) ?hf24 ?zf24
    case yf24 => (intro w hSw; (try dsimp only at hSw); go_simp; try (with_reducible rfl))
    case hf24 => (go_simp; exact rfl)
    case zf24 =>
    refine wpAnyH_done (by kernel_rfl) ?_ _
    have H7 := hide (SB.out _ (by assumption))
    clear K1 K2 K3 SK2 SB H5
    go_wp2_with fail
    go_ret
    exact ⟨rfl, H7.out.2⟩
end Go.Proofs.YtbcadeikdmlpoaaDoor
