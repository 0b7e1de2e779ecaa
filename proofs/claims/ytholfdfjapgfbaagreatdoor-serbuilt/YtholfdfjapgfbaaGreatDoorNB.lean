/-
  ser.allStable and ser.Stable.
-/
import Derived.Test.YtholfdfjapgfbaaGreatDoorNA
import Derived.BigQuiet

namespace Utf1
/-- Whether a tree is stable. -/
def stable (ns : List Nd) : Bool := decide (ncL ns ≤ 2000) && decide (dpL ns ≤ 64) && stL false false false ns
end Utf1
namespace Go.Proofs.YtholfdfjapgfbaaGreatDoor.Dm
open Go.RowKit
open Utf1

theorem methS_text (w : World) (a b c d : Value) : (method 262 99 (.agg #[a, b, c, d]) "verso/ser.stable").run Tryz.prog w = .ok (121, .agg #[a, b, c, d]) w := by kernel_rfl
theorem methS_elem (w : World) (a b c d : Value) : (method 262 100 (.agg #[a, b, c, d]) "verso/ser.stable").run Tryz.prog w = .ok (125, .agg #[a, b, c, d]) w := by kernel_rfl

theorem stText {nd : Nd} {am km : Nat} {XT : ByteArray} (p i b : Bool) (hn : nd.name = []) (hXT : bl XT = nd.text) (ha : am = nd.attrs.length) (hk : km = nd.kids.length) : (!decide (bl XT = []) && !b && decide (am = 0) && decide (km = 0)) = stN p i b nd := by
  rw [stN_kids, if_pos hn, hXT, ha, hk]
  have e1 : decide (nd.text = []) = nd.text.isEmpty := by cases nd.text <;> simp
  have e2 : decide (nd.attrs.length = 0) = nd.attrs.isEmpty := by cases nd.attrs <;> simp
  have e3 : decide (nd.kids.length = 0) = nd.kids.isEmpty := by cases nd.kids <;> simp
  rw [e1, e2, e3]

set_option maxRecDepth 100000 in
set_option maxHeartbeats 16000000 in
theorem allStable_nst : ∀ (D : Nat) (w : World) (v : Value) (ns : List Nd) (p i b : Bool), NAtD w D v ns →
    Calls Tryz.prog 16 #[v, .agg #[.bool p, .bool i, .bool b]] w fun e w' => e = .returned (.bool (stL p i b ns)) ∧ Below w.heap.size w w' := by
  intro D
  induction D with
  | zero => intro w v ns p i b h; exact h.elim
  | succ D0 ih =>
  intro w v ns p i b hk
  obtain ⟨q, c, rfl, hNm, hnode⟩ := hk
  have HNODE := hide hnode
  have HIH := hide ih
  obtain ⟨N, hN⟩ : ∃ N, N = ns.length := ⟨_, rfl⟩
  rw [← hN] at hNm ⊢
  have HN := hide hN
  clear hnode ih hN
  go_enter Tryz.func16, Tryz.ntmps16
  go_wp2_with fail
  go_loopg [9] N (fun k v9 wr => ∃ (j : Nat) (d rest : List Nd) (bb : Bool), rest.length = k ∧ d.length = j ∧ j + k = N ∧ v9 = .int .i64 (j : Int) ∧ Hid (ns = d ++ rest) ∧ Hid (stL p i b ns = stL p i bb rest) ∧ Hid (Below w.heap.size w wr ∧ wr.heap[w.heap.size]? = some (.cells #[.bool p, .bool i, .bool bb] 46 (0, 0))))
  case atStart => exact ⟨0, [], ns, b, HN.out.symm, rfl, by omega, rfl, hide rfl, hide rfl, hide ⟨(Below.refl _ _).alloc (Nat.le_refl _) _, new_block _ _ _⟩⟩
  case round =>
    obtain ⟨j, d, rest, bb, rfl, hdj, hjk, rfl, HD, HE, HS⟩ := hrel
    match rest, hjk, HD, HE with
    | [], hjk, HD, HE =>
      simp only [List.length_nil, Nat.add_zero] at hjk
      subst hjk
      clear HD hdj
      go_wp2_with fail
      go_ret
      exact ⟨ret_bool (by rw [HE.out]; rfl), HS.out.1⟩
    | nd :: rest, hjk, HD, HE =>
      have hjN : j < N := by simp only [List.length_cons] at hjk; omega
      have hge : ns[j]? = some nd := by
        rw [HD.out, List.getElem?_append_right (by omega), hdj, Nat.sub_self]
        rfl
      obtain ⟨g, off, ap, am, ac, kp, km, kc, hp, x0, x1, x2, x3, hsz, har, hkk⟩ := HNODE.out j nd hge
      subst hp
      have x0 := cell_keep x0 HS.out.1
      have x1 := cell_keep x1 HS.out.1
      have x2 := cell_keep x2 HS.out.1
      have x3 := cell_keep x3 HS.out.1
      have hkl : km = nd.kids.length ∧ km ≤ 9223372036854775807 := by
        cases D0 with
        | zero => exact hkk.elim
        | succ n =>
          obtain ⟨_, _, h1, h2, _⟩ := id hkk
          injection h1 with _ h1
          rw [h1]
          exact ⟨rfl, h2⟩
      obtain ⟨XN, hXN⟩ : ∃ X : ByteArray, X = ⟨nd.name.toArray⟩ := ⟨_, rfl⟩
      obtain ⟨XT, hXT⟩ : ∃ X : ByteArray, X = ⟨nd.text.toArray⟩ := ⟨_, rfl⟩
      rw [← hXN] at x0
      rw [← hXT] at x2
      have q0 : XN.toList.isEmpty = decide (nd.name = []) := by rw [hXN]; exact nm_empty _
      obtain ⟨w2, hw2⟩ : ∃ w2, w2 = wr.alloc (.cells #[.string XN, .slice ap am ac, .string XT, .slice kp km kc] 42) := ⟨_, rfl⟩
      have hb2 : Below wr.heap.size wr w2 := by rw [hw2]; exact (Below.refl _ _).alloc (Nat.le_refl _) _
      have hnew : w2.heap[wr.heap.size]? = some (.cells #[.string XN, .slice ap am ac, .string XT, .slice kp km kc] 42 (0, 0)) := by rw [hw2]; exact new_block _ _ _
      have hblt : w.heap.size < wr.heap.size := (Array.getElem?_eq_some_iff.1 HS.out.2).1
      have hbox : w2.heap[w.heap.size]? = some (.cells #[.bool p, .bool i, .bool bb] 46 (0, 0)) := (hb2.block _ hblt).trans HS.out.2
      have y0 := tag_cell hnew 0 _ rfl
      have y1 := tag_cell hnew 1 _ rfl
      have y2 := tag_cell hnew 2 _ rfl
      have y3 := tag_cell hnew 3 _ rfl
      have z0 := tag_cell hbox 0 _ rfl
      have z1 := tag_cell hbox 1 _ rfl
      have z2 := tag_cell hbox 2 _ rfl
      have HD2 : Hid (ns = (d ++ [nd]) ++ rest) := hide (by rw [HD.out]; simp)
      have hjk2 : j + (rest.length + 1) = N := hjk
      have hdj2 : (d ++ [nd]).length = j + 1 := by simp [hdj]
      have hE2 : stL p i b ns = (stN p i bb nd && stL p i (decide (nd.name = [])) rest) := by rw [HE.out]; rfl
      obtain ⟨R1, hR1⟩ : ∃ R, R = stN p i bb nd := ⟨_, rfl⟩
      have HWC : Hid (∀ wx, Below w2.heap.size w2 wx → Calls Tryz.prog (if nd.name = [] then 121 else 125) #[.agg #[.string XN, .slice ap am ac, .string XT, .slice kp km kc], .agg #[.bool p, .bool i, .bool bb]] wx fun e w' => e = .returned (.bool R1) ∧ Below wx.heap.size wx w') := hide (by
        intro wx hx
        have hwx : Below w.heap.size w wx := bel2 (bel2 HS.out.1 hb2) hx
        rw [hR1]
        by_cases hn : nd.name = []
        · rw [if_pos hn, ← stText (XT := XT) p i bb hn (by rw [hXT]) har.1.1 hkl.1]
          exact text_stable wx ap am ac XN XT kp km kc p i bb har.1.2 hkl.2
        · rw [if_neg hn]
          refine elem_stable wx nd ap am ac XN XT kp km kc p i bb hXN hXT hn hsz.1 hkl.1 hkl.2 (har.below hwx) ?_
          intro wy p' i' hy
          exact HIH.out wy _ _ p' i' false (hkk.below (bel2 hwx hy)))
      rw [← hR1] at hE2
      have HE2 := hide hE2
      have HBX := hide hbox
      have HNEW := hide hnew
      have HBB := hide (bel2 HS.out.1 hb2)
      clear hge hkk har HD hXT hXN hjk hdj HIH HNODE hsz hE2 hR1 hkl hbox hnew hb2 HE HS
      go_upto_region 4 with fail
      rw [← hw2]
      clear hw2 x0 x1 x2 x3
      by_cases hnm : nd.name = []
      · rw [decide_eq_true hnm] at q0 HE2
        rw [if_pos hnm] at HWC
        have hm := fun w => methS_text w (.string XN) (.slice ap am ac) (.string XT) (.slice kp km kc)
        have HPO := hide (partOf_text (World.drew w2) ap am ac XN XT kp km kc q0)
        clear hnm
        go_region_with (first | (go_at_call 33; refine HPO.out.mono ?_; rintro e wE ⟨rfl, hbE⟩; have z0 : (World.drew w2).cell? ⟨w.heap.size, 0, none⟩ = some (.bool p) := z0; have z0 := cell_keep z0 hbE; have z1 : (World.drew w2).cell? ⟨w.heap.size, 1, none⟩ = some (.bool i) := z1; have z1 := cell_keep z1 hbE; have z2 : (World.drew w2).cell? ⟨w.heap.size, 2, none⟩ = some (.bool bb) := z2; have z2 := cell_keep z2 hbE; have HBE := hide (bel2 (bel_one w2) hbE); clear hbE) | (go_at_call 121; refine (HWC.out _ HBE.out).mono ?_; rintro e wF ⟨rfl, hbF⟩; have HF := hide (bel2 HBE.out hbF); clear hbF))
        all_goals
          have hboxF := (HF.out.block _ (Array.getElem?_eq_some_iff.1 HBX.out).1).trans HBX.out
          have hnewF := (HF.out.block _ (Array.getElem?_eq_some_iff.1 HNEW.out).1).trans HNEW.out
          have y0F := tag_cell hnewF 0 _ rfl
          have f2F := tag_free hboxF 2
          have z2F := tag_cell hboxF 2 _ rfl
          have HS3 : Hid (Below w.heap.size w (wF.setCell ⟨w.heap.size, 2, none⟩ (.bool true)) ∧ (wF.setCell ⟨w.heap.size, 2, none⟩ (.bool true)).heap[w.heap.size]? = some (.cells #[.bool p, .bool i, .bool true] 46 (0, 0))) := hide ⟨(bel2 HBB.out HF.out).setCell (Nat.le_refl _) _, tok_set hboxF 2 _⟩
          have HF2 := hide (bel2 HBB.out HF.out)
          clear hboxF hnewF HBX HNEW HBB HWC HPO hm
          cases R1 with
          | false =>
            go_wp2_with fail
            try rw [Exit.noGoto_ret]
            go_ret
            exact ⟨ret_bool (by rw [HE2.out]; rfl), HF2.out⟩
          | true =>
            go_wp2_with fail
            go_roundg rest.length
            (case measure => simp only [List.length_cons]; omega)
            (case rel => exact ⟨j + 1, d ++ [nd], rest, true, rfl, hdj2, by omega, by first | rfl | simp, HD2, hide (by rw [HE2.out]; rfl), HS3⟩)
      · rw [decide_eq_false hnm] at q0 HE2
        rw [if_neg hnm] at HWC
        have hm := fun w => methS_elem w (.string XN) (.slice ap am ac) (.string XT) (.slice kp km kc)
        have HPO := hide (partOf_elem (World.drew w2) ap am ac XN XT kp km kc q0)
        clear hnm
        go_region_with (first | (go_at_call 33; refine HPO.out.mono ?_; rintro e wE ⟨rfl, hbE⟩; have z0 : (World.drew w2).cell? ⟨w.heap.size, 0, none⟩ = some (.bool p) := z0; have z0 := cell_keep z0 hbE; have z1 : (World.drew w2).cell? ⟨w.heap.size, 1, none⟩ = some (.bool i) := z1; have z1 := cell_keep z1 hbE; have z2 : (World.drew w2).cell? ⟨w.heap.size, 2, none⟩ = some (.bool bb) := z2; have z2 := cell_keep z2 hbE; have HBE := hide (bel2 (bel_one w2) hbE); clear hbE) | (go_at_call 125; refine (HWC.out _ HBE.out).mono ?_; rintro e wF ⟨rfl, hbF⟩; have HF := hide (bel2 HBE.out hbF); clear hbF))
        all_goals
          have hboxF := (HF.out.block _ (Array.getElem?_eq_some_iff.1 HBX.out).1).trans HBX.out
          have hnewF := (HF.out.block _ (Array.getElem?_eq_some_iff.1 HNEW.out).1).trans HNEW.out
          have y0F := tag_cell hnewF 0 _ rfl
          have f2F := tag_free hboxF 2
          have z2F := tag_cell hboxF 2 _ rfl
          have HS3 : Hid (Below w.heap.size w (wF.setCell ⟨w.heap.size, 2, none⟩ (.bool false)) ∧ (wF.setCell ⟨w.heap.size, 2, none⟩ (.bool false)).heap[w.heap.size]? = some (.cells #[.bool p, .bool i, .bool false] 46 (0, 0))) := hide ⟨(bel2 HBB.out HF.out).setCell (Nat.le_refl _) _, tok_set hboxF 2 _⟩
          have HF2 := hide (bel2 HBB.out HF.out)
          clear hboxF hnewF HBX HNEW HBB HWC HPO hm
          cases R1 with
          | false =>
            go_wp2_with fail
            try rw [Exit.noGoto_ret]
            go_ret
            exact ⟨ret_bool (by rw [HE2.out]; rfl), HF2.out⟩
          | true =>
            go_wp2_with fail
            go_roundg rest.length
            (case measure => simp only [List.length_cons]; omega)
            (case rel => exact ⟨j + 1, d ++ [nd], rest, false, rfl, hdj2, by omega, by first | rfl | simp, HD2, hide (by rw [HE2.out]; rfl), HS3⟩)

set_option maxRecDepth 100000 in
set_option maxHeartbeats 8000000 in
theorem stable_nst (w : World) (v : Value) (ns : List Nd) (hk : NAt w v ns) (hc : ncL ns ≤ 1000000000) :
    Calls Tryz.prog 7 #[v] w fun e w' => e = .returned (.bool (stable ns)) ∧ Below w.heap.size w w' := by
  obtain ⟨D, hk⟩ := hk
  have HSZ := hide (size_nst D w v ns hk hc)
  have HAS := hide (fun wx (hx : Below w.heap.size w wx) => allStable_nst D wx v ns false false false (hk.below hx))
  have hd := dpL_nc ns
  have HST : Hid (stable ns = (decide (ncL ns ≤ 2000) && decide (dpL ns ≤ 64) && stL false false false ns)) := hide rfl
  obtain ⟨R, hR⟩ : ∃ R, R = stable ns := ⟨_, rfl⟩
  rw [← hR] at HST ⊢
  obtain ⟨A, hA⟩ : ∃ A, A = stL false false false ns := ⟨_, rfl⟩
  obtain ⟨n, hn⟩ : ∃ n, n = ncL ns := ⟨_, rfl⟩
  obtain ⟨d, hdd⟩ : ∃ d, d = dpL ns := ⟨_, rfl⟩
  rw [← hA] at HAS HST
  rw [← hn, ← hdd] at HSZ HST hd
  rw [← hn] at hc
  clear hk hR hA hn hdd
  by_cases h1 : n ≤ 2000
  · by_cases h2 : d ≤ 64
    · have HR : Hid (R = A) := hide (by rw [HST.out, decide_eq_true h1, decide_eq_true h2]; rfl)
      clear HST
      go_enter Tryz.func7, Tryz.ntmps7
      go_wp2_with fail
      refine HSZ.out.mono ?_
      rintro e w1 ⟨rfl, hb1⟩
      have HA1 := hide (HAS.out w1 hb1)
      have HB1 := hide hb1
      clear hb1 HAS HSZ
      go_wp2_with fail
      refine HA1.out.mono ?_
      rintro e w2 ⟨rfl, hb2⟩
      have HB2 := hide (bel2 HB1.out hb2)
      clear hb2 HA1 HB1
      go_wp2_with fail
      go_ret
      exact ⟨ret_bool HR.out.symm, HB2.out⟩
    · have HR : Hid (R = false) := hide (by rw [HST.out, decide_eq_false h2, Bool.and_false]; rfl)
      clear HST HAS
      go_enter Tryz.func7, Tryz.ntmps7
      go_wp2_with fail
      refine HSZ.out.mono ?_
      rintro e w1 ⟨rfl, hb1⟩
      have HB1 := hide hb1
      clear hb1 HSZ
      go_wp2_with fail
      go_ret
      exact ⟨ret_bool HR.out.symm, HB1.out⟩
  · have HR : Hid (R = false) := hide (by rw [HST.out, decide_eq_false h1]; rfl)
    clear HST HAS
    go_enter Tryz.func7, Tryz.ntmps7
    go_wp2_with fail
    refine HSZ.out.mono ?_
    rintro e w1 ⟨rfl, hb1⟩
    have HB1 := hide hb1
    clear hb1 HSZ
    go_wp2_with fail
    go_ret
    exact ⟨ret_bool HR.out.symm, HB1.out⟩
end Go.Proofs.YtholfdfjapgfbaaGreatDoor.Dm

/-
  versolaw05.awake: a page.
-/
namespace Utf1
/-- The page of awake. -/
def awN : List Nd := [.mk [112] [([105, 100], [34])] [] [.mk [] [] [97, 60] [], .mk [98, 114] [] [] []]]
theorem awN_ht : htL awN = [60, 112, 32, 105, 100, 61, 34, 38, 113, 117, 111, 116, 59, 34, 62, 97, 38, 108, 116, 59, 60, 98, 114, 62, 60, 47, 112, 62] := by decide +kernel
theorem awN_st : stable awN = true := by decide +kernel
theorem awN_nc : ncL awN = 3 := by decide +kernel
end Utf1
namespace Go.Proofs.YtholfdfjapgfbaaGreatDoor.Dm
open Go.RowKit
open Utf1

/-- Where one cell of a row is told, and where a row has one node, or two. -/
theorem arow_one {w : World} {g : Nat} {a b : List UInt8} (ha : a.length ≤ 281474976710656) (hb : b.length ≤ 281474976710656) (h0 : w.cell? ⟨g, 0, none⟩ = some (.string ⟨a.toArray⟩)) (h1 : w.cell? ⟨g, 1, none⟩ = some (.string ⟨b.toArray⟩)) : ARow w (some ⟨g, 0, none⟩) 1 [(a, b)] := by
  refine ⟨⟨rfl, by decide⟩, ?_⟩
  intro i kv hi
  match i, hi with
  | 0, hi =>
    have : (a, b) = kv := by simpa using hi
    subst this
    exact ⟨g, 0, rfl, h0, h1, ha, hb⟩
  | i + 1, hi => simp at hi
/-- A node at a place. -/
def NodeAt (w : World) (d g off : Nat) (nd : Nd) : Prop := ∃ ap am ac kp km kc, w.cell? ⟨g, off, none⟩ = some (.string ⟨nd.name.toArray⟩) ∧ w.cell? ⟨g, off + 1, none⟩ = some (.slice ap am ac) ∧ w.cell? ⟨g, off + 2, none⟩ = some (.string ⟨nd.text.toArray⟩) ∧ w.cell? ⟨g, off + 3, none⟩ = some (.slice kp km kc) ∧ (nd.name.length ≤ 281474976710656 ∧ nd.text.length ≤ 281474976710656) ∧ ARow w ap am nd.attrs ∧ NAtD w d (.slice kp km kc) nd.kids
theorem natD_row {w : World} {d g c : Nat} {ns : List Nd} (hl : ns.length ≤ 9223372036854775807) (h : ∀ i nd, ns[i]? = some nd → NodeAt w d g (i * 4) nd) : NAtD w (d + 1) (.slice (some ⟨g, 0, none⟩) ns.length c) ns := by
  refine ⟨_, _, rfl, hl, ?_⟩
  intro i nd hi
  obtain ⟨ap, am, ac, kp, km, kc, x0, x1, x2, x3, h⟩ := h i nd hi
  refine ⟨g, 0, ap, am, ac, kp, km, kc, rfl, ?_, ?_, ?_, ?_, h⟩
  · rw [Nat.zero_add]; exact x0
  · rw [Nat.zero_add]; exact x1
  · rw [Nat.zero_add]; exact x2
  · rw [Nat.zero_add]; exact x3
theorem natD_nil (w : World) (d : Nat) : NAtD w (d + 1) (.slice none 0 0) [] := ⟨none, 0, rfl, by decide, fun i nd h => by simp at h⟩
theorem node_leaf {w : World} {g off : Nat} {n t : List UInt8} (hn : n.length ≤ 281474976710656) (ht : t.length ≤ 281474976710656) (h0 : w.cell? ⟨g, off, none⟩ = some (.string ⟨n.toArray⟩)) (h1 : w.cell? ⟨g, off + 1, none⟩ = some (.slice none 0 0)) (h2 : w.cell? ⟨g, off + 2, none⟩ = some (.string ⟨t.toArray⟩)) (h3 : w.cell? ⟨g, off + 3, none⟩ = some (.slice none 0 0)) : NodeAt w 1 g off (.mk n [] t []) :=
  ⟨none, 0, 0, none, 0, 0, h0, h1, h2, h3, ⟨hn, ht⟩, arow_nil w, natD_nil w 0⟩

set_option maxRecDepth 100000 in
set_option maxHeartbeats 8000000 in
theorem awake_nst (w : World) : Calls Tryz.prog 5 #[] w fun e w' => e = .returned (.bool true) ∧ Below w.heap.size w w' := by
  obtain ⟨wa, hwa⟩ : ∃ wa, wa = w.alloc (.cells #[.string ⟨#[105, 100]⟩, .string ⟨#[34]⟩] 38) := ⟨_, rfl⟩
  obtain ⟨wb, hwb⟩ : ∃ wb, wb = wa.alloc (.cells #[.string ⟨#[]⟩, .slice none 0 0, .string ⟨#[97, 60]⟩, .slice none 0 0, .string ⟨#[98, 114]⟩, .slice none 0 0, .string ⟨#[]⟩, .slice none 0 0] 42) := ⟨_, rfl⟩
  obtain ⟨wc, hwc⟩ : ∃ wc, wc = wb.alloc (.cells #[.string ⟨#[112]⟩, .slice (some ⟨w.heap.size, 0, none⟩) 1 1, .string ⟨#[]⟩, .slice (some ⟨w.heap.size + 1, 0, none⟩) 2 2] 42) := ⟨_, rfl⟩
  have sa : wa.heap.size = w.heap.size + 1 := by rw [hwa]; simp
  have sb : wb.heap.size = w.heap.size + 1 + 1 := by rw [hwb]; simp [sa]
  have ba : Below w.heap.size w wa := by rw [hwa]; exact (Below.refl _ _).alloc (Nat.le_refl _) _
  have bb : Below wa.heap.size wa wb := by rw [hwb]; exact (Below.refl _ _).alloc (Nat.le_refl _) _
  have bc : Below wb.heap.size wb wc := by rw [hwc]; exact (Below.refl _ _).alloc (Nat.le_refl _) _
  have ca : ∀ j v, (#[.string ⟨#[105, 100]⟩, .string ⟨#[34]⟩] : Array Value)[j]? = some v → wc.cell? ⟨w.heap.size, j, none⟩ = some v := fun j v h => cell_keep (cell_keep (by rw [hwa, new_cell]; exact h) bb) bc
  have cb : ∀ j v, (#[.string ⟨#[]⟩, .slice none 0 0, .string ⟨#[97, 60]⟩, .slice none 0 0, .string ⟨#[98, 114]⟩, .slice none 0 0, .string ⟨#[]⟩, .slice none 0 0] : Array Value)[j]? = some v → wc.cell? ⟨w.heap.size + 1, j, none⟩ = some v := fun j v h => cell_keep (by rw [hwb, ← sa, new_cell]; exact h) bc
  have cc : ∀ j v, (#[.string ⟨#[112]⟩, .slice (some ⟨w.heap.size, 0, none⟩) 1 1, .string ⟨#[]⟩, .slice (some ⟨w.heap.size + 1, 0, none⟩) 2 2] : Array Value)[j]? = some v → wc.cell? ⟨w.heap.size + 1 + 1, j, none⟩ = some v := fun j v h => by rw [hwc, ← sb, new_cell]; exact h
  have hkids : NAtD wc 2 (.slice (some ⟨w.heap.size + 1, 0, none⟩) 2 2) [.mk [] [] [97, 60] [], .mk [98, 114] [] [] []] := by
    refine natD_row (ns := [.mk [] [] [97, 60] [], .mk [98, 114] [] [] []]) (by decide) ?_
    intro i nd hi
    match i, hi with
    | 0, hi =>
      have : Nd.mk [] [] [97, 60] [] = nd := by simpa using hi
      subst this
      exact node_leaf (by decide) (by decide) (cb 0 _ rfl) (cb 1 _ rfl) (cb 2 _ rfl) (cb 3 _ rfl)
    | 1, hi =>
      have : Nd.mk [98, 114] [] [] [] = nd := by simpa using hi
      subst this
      exact node_leaf (by decide) (by decide) (cb 4 _ rfl) (cb 5 _ rfl) (cb 6 _ rfl) (cb 7 _ rfl)
    | i + 2, hi => simp at hi
  have htop : NAt wc (.slice (some ⟨w.heap.size + 1 + 1, 0, none⟩) 1 1) awN := by
    refine ⟨3, natD_row (ns := awN) (by decide) ?_⟩
    intro i nd hi
    match i, hi with
    | 0, hi =>
      have : Nd.mk [112] [([105, 100], [34])] [] [.mk [] [] [97, 60] [], .mk [98, 114] [] [] []] = nd := by simpa [awN] using hi
      subst this
      exact ⟨_, _, _, _, _, _, cc 0 _ rfl, cc 1 _ rfl, cc 2 _ rfl, cc 3 _ rfl, ⟨by decide, by decide⟩, arow_one (by decide) (by decide) (ca 0 _ rfl) (ca 1 _ rfl), hkids⟩
    | i + 1, hi => simp [awN] at hi
  have HH := hide (html_nst wc _ awN htop (by rw [awN_ht]; decide))
  have HS := hide (fun wx (hx : Below wc.heap.size wc wx) => stable_nst wx _ awN (htop.below hx) (by rw [awN_nc]; decide))
  rw [awN_ht] at HH
  rw [awN_st] at HS
  have HB := hide (bel2 (bel2 ba bb) bc)
  have hwc2 : wc = ((w.alloc (.cells #[.string ⟨#[105, 100]⟩, .string ⟨#[34]⟩] 38)).alloc (.cells #[.string ⟨#[]⟩, .slice none 0 0, .string ⟨#[97, 60]⟩, .slice none 0 0, .string ⟨#[98, 114]⟩, .slice none 0 0, .string ⟨#[]⟩, .slice none 0 0] 42)).alloc (.cells #[.string ⟨#[112]⟩, .slice (some ⟨w.heap.size, 0, none⟩) 1 1, .string ⟨#[]⟩, .slice (some ⟨w.heap.size + 1, 0, none⟩) 2 2] 42) := by rw [hwc, hwb, hwa]
  clear htop hkids ca cb cc ba bb bc sa sb hwa hwb hwc
  go_enter Tryz.func5, Tryz.ntmps5
  go_wp2_with fail
  rw [← hwc2]
  clear hwc2
  refine HH.out.mono ?_
  rintro e w2 ⟨⟨O, rfl, hO⟩, hb2⟩
  have hO2 : O = ⟨#[60, 112, 32, 105, 100, 61, 34, 38, 113, 117, 111, 116, 59, 34, 62, 97, 38, 108, 116, 59, 60, 98, 114, 62, 60, 47, 112, 62]⟩ := by rw [← bl_eta O, hO]
  subst hO2
  have HS2 := hide (HS.out w2 hb2)
  have HB2 := hide (bel2 HB.out hb2)
  clear hb2 HS HH HB hO
  go_wp2_with fail
  refine HS2.out.mono ?_
  rintro e w3 ⟨rfl, hb3⟩
  have HB3 := hide (bel2 HB2.out hb3)
  clear hb3 HS2 HB2
  go_wp2_with fail
  go_ret
  exact ⟨rfl, HB3.out⟩
end Go.Proofs.YtholfdfjapgfbaaGreatDoor.Dm

/-
  versoref04.Light at a tree that is read alone: what it tells of a tree that is light.
-/
namespace Go.Proofs.YtholfdfjapgfbaaGreatDoor.Dm
open Go.RowKit
open Utf1

set_option maxRecDepth 100000 in
set_option maxHeartbeats 16000000 in
theorem weight_nst : ∀ (D : Nat) (w : World) (v : Value) (ns : List Nd) (dp : Nat), NAtD w D v ns → dp ≤ 81 →
    Calls Tryz.prog 15 #[v, .int .i64 (dp : Int)] w fun e w' => ∃ n : Nat, e = .returned (.int .i64 (n : Int)) ∧ n ≤ 110000 * (82 - dp) ∧ (n < 20000 → wsL ns ≤ n) ∧ Below w.heap.size w w' := by
  intro D
  induction D with
  | zero => intro w v ns dp h; exact h.elim
  | succ D0 ih =>
  intro w v ns dp hk hdp
  obtain ⟨p, c, rfl, hNm, hnode⟩ := hk
  have HNODE := hide hnode
  have HIH := hide ih
  obtain ⟨N, hN⟩ : ∃ N, N = ns.length := ⟨_, rfl⟩
  rw [← hN] at hNm ⊢
  have HN := hide hN
  clear hnode ih hN
  go_enter Tryz.func15, Tryz.ntmps15
  go_wp2_with fail
  go_loopg [5, 6] N (fun k v5 v6 wr => ∃ (j n : Nat) (d rest : List Nd), rest.length = k ∧ d.length = j ∧ j + k = N ∧ v5 = .int .i64 (n : Int) ∧ v6 = .int .i64 (j : Int) ∧ n ≤ 110000 * (82 - dp) ∧ Hid (n < 20000 → wsL d ≤ n) ∧ Hid (ns = d ++ rest) ∧ Hid (Below w.heap.size w wr))
  case atStart => exact ⟨0, 0, [], ns, HN.out.symm, rfl, by omega, rfl, rfl, by omega, hide (fun _ => Nat.le_refl _), hide rfl, hide (Below.refl _ _)⟩
  case round =>
    obtain ⟨j, n, d, rest, rfl, hdj, hjk, rfl, rfl, hnb, HW, HD, HB⟩ := hrel
    by_cases hn2 : n < 20000
    case neg =>
      have hend : n < 20000 → wsL ns ≤ n := fun h => absurd h hn2
      have HEND := hide hend
      clear hend
      by_cases hjl : j < N
      · have hd1 : decide ((j : Int) < (N : Int)) = true := decide_eq_true (by omega)
        have hd2 : decide ((n : Int) < 20000) = false := decide_eq_false (by omega)
        go_wp2_with fail
        go_ret
        exact ⟨n, rfl, hnb, HEND.out, HB.out⟩
      · have hd1 : decide ((j : Int) < (N : Int)) = false := decide_eq_false (by omega)
        go_wp2_with fail
        go_ret
        exact ⟨n, rfl, hnb, HEND.out, HB.out⟩
    case pos =>
    match rest, hjk, HD with
    | [], hjk, HD =>
      have e1 : d = ns := by
        have := HD.out
        rw [List.append_nil] at this
        exact this.symm
      simp only [List.length_nil, Nat.add_zero] at hjk
      subst hjk
      subst e1
      clear HD hdj
      go_wp2_with fail
      go_ret
      exact ⟨n, rfl, hnb, HW.out, HB.out⟩
    | nd :: rest, hjk, HD =>
      have hjN : j < N := by simp only [List.length_cons] at hjk; omega
      by_cases hd81 : 80 < dp
      · have HR : Hid ((20000 : Nat) < 20000 → wsL ns ≤ 20000) := hide (fun h => absurd h (by decide))
        clear HD HW
        go_wp2_with fail
        try rw [Exit.noGoto_ret]
        go_ret
        exact ⟨20000, rfl, by omega, HR.out, HB.out⟩
      have hge : ns[j]? = some nd := by
        rw [HD.out, List.getElem?_append_right (by omega), hdj, Nat.sub_self]
        rfl
      obtain ⟨g, off, ap, am, ac, kp, km, kc, hp, x0, x1, x2, x3, hsz, har, hkk⟩ := HNODE.out j nd hge
      subst hp
      have x0 := cell_keep x0 HB.out
      have x1 := cell_keep x1 HB.out
      have x2 := cell_keep x2 HB.out
      have x3 := cell_keep x3 HB.out
      obtain ⟨XN, hXN⟩ : ∃ X : ByteArray, X = ⟨nd.name.toArray⟩ := ⟨_, rfl⟩
      obtain ⟨XT, hXT⟩ : ∃ X : ByteArray, X = ⟨nd.text.toArray⟩ := ⟨_, rfl⟩
      rw [← hXN] at x0
      rw [← hXT] at x2
      have hNs : XN.size = nd.name.length := by rw [hXN]; rfl
      have hTs : XT.size = nd.text.length := by rw [hXT]; rfl
      have hws : wsL (d ++ [nd]) = wsL d + (1 + nd.name.length + nd.text.length + waL nd.attrs + wsL nd.kids) := by
        rw [wsL_app]
        show _ + (wsN nd + 0) = _
        rw [wsN_kids, Nat.add_zero]
      have HD2 : Hid (ns = (d ++ [nd]) ++ rest) := hide (by rw [HD.out]; simp)
      have hjk2 : j + (rest.length + 1) = N := hjk
      have hdj2 : (d ++ [nd]).length = j + 1 := by simp [hdj]
      have hns : XN.size ≤ 281474976710656 := by rw [hNs]; exact hsz.1
      have hts : XT.size ≤ 281474976710656 := by rw [hTs]; exact hsz.2
      have HKK := hide (fun wx (hx : Below w.heap.size w wx) => HIH.out wx (.slice kp km kc) nd.kids (dp + 1) (hkk.below hx) (by omega))
      have HAR := hide har
      have ham := har.1.1
      have hamb := har.1.2
      obtain ⟨m, hm⟩ : ∃ m : Nat, m = n + 1 + min XN.size 20000 + min XT.size 20000 := ⟨_, rfl⟩
      have HM1 : Hid (m < 20000 → wsL d + (1 + nd.name.length + nd.text.length) ≤ m) := hide (by
        intro h
        have := HW.out hn2
        omega)
      have hmb : m ≤ 60001 := by omega
      obtain ⟨ats, hats⟩ : ∃ ats, ats = nd.attrs := ⟨_, rfl⟩
      rw [← hats] at HAR ham hws
      have HWS := hide hws
      have HAM := hide ham
      clear hge hkk har HD hXT hXN hjk hdj hsz hws hats HIH HNODE HW ham hNs hTs
      have HMM : Hid ((n : Int) + 1 + min (XN.size : Int) 20000 + min (XT.size : Int) 20000 = (m : Int)) := hide (by omega)
      clear hm
      go_upto_region 7 with fail
      go_region
      rw [HMM.out]
      clear HMM x0 x2
      have HB2 := hide (HB.out.trans ((bel_one _).mono HB.out.size))
      have x1 : (World.drew wr).cell? _ = some (.slice ap am ac) := x1
      have x3 : (World.drew wr).cell? _ = some (.slice kp km kc) := x3
      clear HB
      generalize World.drew wr = wr at *
      go_wp2_with fail
      go_loopg [5, 7] am (fun k2 v5 v7 wq => ∃ (q n2 : Nat) (a r2 : List (List UInt8 × List UInt8)), r2.length = k2 ∧ a.length = q ∧ q + k2 = am ∧ v5 = .int .i64 (n2 : Int) ∧ v7 = .int .i64 (q : Int) ∧ n2 ≤ 60001 ∧ Hid (n2 < 20000 → wsL d + (1 + nd.name.length + nd.text.length + waL a) ≤ n2) ∧ Hid (ats = a ++ r2) ∧ Hid (Below wr.heap.size wr wq))
      case atStart => exact ⟨0, m, [], ats, HAM.out.symm, rfl, by omega, rfl, rfl, hmb, hide (fun h => by have := HM1.out h; show _ + (_ + 0) ≤ _; omega), hide rfl, hide (Below.refl _ _)⟩
      case round =>
        obtain ⟨q, n2, a, r2, rfl, haq, hqk, rfl, rfl, hn2b, HW2, HDA, HBQ⟩ := hrel
        have x1 := cell_keep x1 HBQ.out
        have x3 := cell_keep x3 HBQ.out
        have HBW := hide (bel2 HB2.out HBQ.out)
        have HKW := hide (HKK.out wr HBW.out)
        by_cases hgo : n2 < 20000 ∧ r2 ≠ []
        case neg =>
          have HW3 : Hid (n2 < 20000 → wsL d + (1 + nd.name.length + nd.text.length + waL ats) ≤ n2) := hide (by
            intro h
            have h2 : r2 = [] := Classical.byContradiction (fun h3 => hgo ⟨h, h3⟩)
            have := HW2.out h
            rw [HDA.out, h2, List.append_nil]
            exact this)
          have hcond : ¬ (q < am ∧ n2 < 20000) := by
            rintro ⟨h1, h2⟩
            apply hgo
            refine ⟨h2, ?_⟩
            intro h3
            rw [h3] at hqk
            simp at hqk
            omega
          have hfin : ∀ nk : Nat, nk ≤ 110000 * (82 - (dp + 1)) → (nk < 20000 → wsL nd.kids ≤ nk) → n2 + nk ≤ 110000 * (82 - dp) ∧ (n2 + nk < 20000 → wsL (d ++ [nd]) ≤ n2 + nk) := by
            intro nk h1 h2
            refine ⟨by omega, fun h => ?_⟩
            have e1 := HW3.out (by omega)
            have e2 := h2 (by omega)
            rw [HWS.out]
            omega
          have HFIN := hide hfin
          clear hfin HW3 HW2 HDA hgo haq HAR HM1 HWS HKK
          by_cases hq1 : q < am
          · have hq2 : ¬ n2 < 20000 := fun h => hcond ⟨hq1, h⟩
            have hd1 : decide ((q : Int) < (am : Int)) = true := decide_eq_true (by omega)
            have hd2 : decide ((n2 : Int) < 20000) = false := decide_eq_false (by omega)
            clear hcond
            go_wp2_with fail
            refine HKW.out.mono ?_
            rintro e w5 ⟨nk, rfl, hk1, hk2, hb5⟩
            have hkb : nk ≤ 9020000 := by omega
            obtain ⟨t1, t2⟩ := HFIN.out nk hk1 hk2
            have HB5 := hide (bel2 HBW.out hb5)
            have HT2 := hide t2
            clear hb5 HKW HFIN hk2 t2
            go_wp2_with fail
            go_roundg rest.length
            case measure => simp only [List.length_cons]; omega
            case rel => exact ⟨j + 1, n2 + nk, d ++ [nd], rest, rfl, hdj2, by omega, by first | rfl | simp, by first | rfl | simp, t1, HT2, HD2, HB5⟩
          · have hd1 : decide ((q : Int) < (am : Int)) = false := decide_eq_false (by omega)
            clear hcond
            go_wp2_with fail
            refine HKW.out.mono ?_
            rintro e w5 ⟨nk, rfl, hk1, hk2, hb5⟩
            have hkb : nk ≤ 9020000 := by omega
            obtain ⟨t1, t2⟩ := HFIN.out nk hk1 hk2
            have HB5 := hide (bel2 HBW.out hb5)
            have HT2 := hide t2
            clear hb5 HKW HFIN hk2 t2
            go_wp2_with fail
            go_roundg rest.length
            case measure => simp only [List.length_cons]; omega
            case rel => exact ⟨j + 1, n2 + nk, d ++ [nd], rest, rfl, hdj2, by omega, by first | rfl | simp, by first | rfl | simp, t1, HT2, HD2, HB5⟩
        case pos =>
          obtain ⟨hlt2, hr2⟩ := hgo
          match r2, hr2, hqk, HDA with
          | kv :: r2, _, hqk, HDA =>
            have hqlt : q < am := by simp only [List.length_cons] at hqk; omega
            have hd1 : decide ((q : Int) < (am : Int)) = true := decide_eq_true (by omega)
            have hd2 : decide ((n2 : Int) < 20000) = true := decide_eq_true (by omega)
            have hga : ats[q]? = some kv := by
              rw [HDA.out, List.getElem?_append_right (by omega), haq, Nat.sub_self]
              rfl
            obtain ⟨b, off2, hap, z0, z1, hz1, hz2⟩ := HAR.out.2 q kv hga
            subst hap
            have z0 := cell_keep z0 HBW.out
            have z1 := cell_keep z1 HBW.out
            obtain ⟨XA, hXA⟩ : ∃ X : ByteArray, X = ⟨kv.1.toArray⟩ := ⟨_, rfl⟩
            obtain ⟨XV, hXV⟩ : ∃ X : ByteArray, X = ⟨kv.2.toArray⟩ := ⟨_, rfl⟩
            rw [← hXA] at z0
            rw [← hXV] at z1
            have hAl : XA.size = kv.1.length := by rw [hXA]; rfl
            have hVl : XV.size = kv.2.length := by rw [hXV]; rfl
            obtain ⟨m2, hm2⟩ : ∃ m2 : Nat, m2 = n2 + 1 + min XA.size 20000 + min XV.size 20000 := ⟨_, rfl⟩
            have HMM : Hid ((n2 : Int) + 1 + min (XA.size : Int) 20000 + min (XV.size : Int) 20000 = (m2 : Int)) := hide (by omega)
            have HW3 : Hid (m2 < 20000 → wsL d + (1 + nd.name.length + nd.text.length + waL (a ++ [kv])) ≤ m2) := hide (by
              intro h
              have h1 := HW2.out hlt2
              rw [waL_app, show waL [kv] = 1 + kv.1.length + kv.2.length + 0 from rfl]
              omega)
            have hm2b : m2 ≤ 60001 := by omega
            have hxa : XA.size ≤ 281474976710656 := by rw [hAl]; exact hz1
            have hxv : XV.size ≤ 281474976710656 := by rw [hVl]; exact hz2
            have HDA2 : Hid (ats = (a ++ [kv]) ++ r2) := hide (by rw [HDA.out]; simp)
            have hqk2 : q + (r2.length + 1) = am := hqk
            have haq2 : (a ++ [kv]).length = q + 1 := by simp [haq]
            clear hga hz1 hz2 hXA hXV hAl hVl hm2 HDA HW2 hqk haq HKW HKK x3 HWS HM1 HAR
            go_upto_region 11 with fail
            go_region
            rw [HMM.out]
            clear HMM
            go_wp2_with fail
            go_roundg r2.length
            case measure => simp only [List.length_cons]; omega
            case rel => exact ⟨q + 1, m2, a ++ [kv], r2, rfl, haq2, by omega, by first | rfl | simp, by first | rfl | simp, hm2b, HW3, HDA2, hide (HBQ.out.trans ((bel_one _).mono HBQ.out.size))⟩

set_option maxRecDepth 100000 in
theorem light_nst (w : World) (v : Value) (ns : List Nd) (hk : NAt w v ns) :
    Calls Tryz.prog 6 #[v, .int .i64 0] w fun e w' => ∃ b : Bool, e = .returned (.bool b) ∧ (b = true → wsL ns < 20000) ∧ Below w.heap.size w w' := by
  obtain ⟨D, hk⟩ := hk
  have HW := hide (weight_nst D w v ns 0 hk (by decide))
  clear hk
  go_enter Tryz.func6, Tryz.ntmps6
  go_wp2_with fail
  refine HW.out.mono ?_
  rintro e w1 ⟨n, rfl, hn, h2, hb⟩
  have H2 := hide h2
  have HB := hide hb
  clear h2 hb HW
  have hn : n ≤ 9020000 := by omega
  go_wp2_with fail
  go_ret
  refine ⟨_, rfl, ?_, HB.out⟩
  intro h
  have h : (n : Int) < 20000 := of_decide_eq_true h
  have := H2.out (by omega)
  omega
end Go.Proofs.YtholfdfjapgfbaaGreatDoor.Dm

/-
  The document's Same, at two trees that are read alone.
-/
namespace Utf1
mutual
/-- Whether two nodes are the same. -/
def sameN : Nd → Nd → Bool
  | .mk n a t k, .mk n' a' t' k' => decide (n = n') && decide (t = t') && decide (a = a') && sameL k k'
def sameL : List Nd → List Nd → Bool
  | [], [] => true
  | n :: r, m :: s => sameN n m && sameL r s
  | [], _ :: _ => false
  | _ :: _, [] => false
end
mutual
theorem sameN_iff : ∀ n m : Nd, sameN n m = true ↔ n = m
  | .mk n a t k, .mk n' a' t' k' => by
    rw [sameN, Bool.and_eq_true, Bool.and_eq_true, Bool.and_eq_true, decide_eq_true_iff, decide_eq_true_iff, decide_eq_true_iff, sameL_iff k k', Nd.mk.injEq]
    constructor
    · rintro ⟨⟨⟨h1, h2⟩, h3⟩, h4⟩
      exact ⟨h1, h3, h2, h4⟩
    · rintro ⟨h1, h3, h2, h4⟩
      exact ⟨⟨⟨h1, h2⟩, h3⟩, h4⟩
theorem sameL_iff : ∀ l m : List Nd, sameL l m = true ↔ l = m
  | [], [] => by simp [sameL]
  | n :: r, m :: s => by rw [sameL, Bool.and_eq_true, sameN_iff n m, sameL_iff r s, List.cons.injEq]
  | [], _ :: _ => by simp [sameL]
  | _ :: _, [] => by simp [sameL]
end
theorem sameN_kids (n m : Nd) : sameN n m = (decide (n.name = m.name) && decide (n.text = m.text) && decide (n.attrs = m.attrs) && sameL n.kids m.kids) := by
  cases n
  cases m
  rw [sameN]
  rfl
theorem sameL_len : ∀ l m : List Nd, l.length ≠ m.length → sameL l m = false := by
  intro l m h
  cases hs : sameL l m with
  | false => rfl
  | true => exact absurd (congrArg List.length ((sameL_iff l m).1 hs)) h
end Utf1
namespace Go.Proofs.YtholfdfjapgfbaaGreatDoor.Dm
open Go.RowKit
open Utf1

theorem same_bytes (X Y : ByteArray) : (X.toList == Y.toList) = decide (bl X = bl Y) := by
  by_cases h : bl X = bl Y
  · rw [decide_eq_true h]
    exact beq_same h
  · rw [decide_eq_false h]
    exact beq_ne h

set_option maxRecDepth 100000 in
set_option maxHeartbeats 8000000 in
theorem sameAttrs_nst (a b : List (List UInt8 × List UInt8)) (w : World) (pa pb : Option Addr) (ma ca mb cb : Nat) (ha : ARow w pa ma a) (hb : ARow w pb mb b) :
    Calls Tryz.prog 30 #[.slice pa ma ca, .slice pb mb cb] w fun e w' => e = .returned (.bool (decide (a = b))) ∧ ∃ n, w' = w.drewN n := by
  obtain ⟨R, hR⟩ : ∃ R, R = decide (a = b) := ⟨_, rfl⟩
  rw [← hR]
  have HR := hide hR
  have h1 := ha.1.1
  have h2 := hb.1.1
  have h3 := ha.1.2
  have h4 := hb.1.2
  have HA := hide ha
  have HB := hide hb
  clear ha hb hR
  by_cases hl : ma = mb
  case neg =>
    have HRF : Hid (R = false) := hide (by rw [HR.out]; exact decide_eq_false (fun e => hl (by rw [h1, h2, e])))
    have hn : ((ma : Int) == (mb : Int)) = false := beq_eq_false_iff_ne.2 (by omega)
    clear hl h1 h2
    go_enter Tryz.func30, Tryz.ntmps30
    go_wp2_with fail
    go_ret
    exact ⟨ret_bool HRF.out.symm, 0, rfl⟩
  case pos =>
  subst hl
  have H12 := hide (And.intro h1 h2)
  clear h1 h2
  go_enter Tryz.func30, Tryz.ntmps30
  go_wp2_with fail
  go_loopg [5] ma (fun g v wr => ∃ i k : Nat, i + g = ma ∧ v = .int .i64 (i : Int) ∧ wr = w.drewN k ∧ Hid (a.take i = b.take i))
  case atStart => exact ⟨0, 0, by omega, rfl, rfl, hide rfl⟩
  case round =>
    obtain ⟨i, k, hig, rfl, rfl, HT⟩ := hrel
    by_cases hlt : i < ma
    · have hia : i < a.length := by rw [← H12.out.1]; exact hlt
      have hib : i < b.length := by rw [← H12.out.2]; exact hlt
      have ga : a[i]? = some a[i] := List.getElem?_eq_getElem hia
      have gb : b[i]? = some b[i] := List.getElem?_eq_getElem hib
      generalize a[i] = ka at ga
      generalize b[i] = kb at gb
      obtain ⟨g1, o1, e1, x0, x1, -, -⟩ := HA.out.2 i ka ga
      obtain ⟨g2, o2, e2, y0, y1, -, -⟩ := HB.out.2 i kb gb
      subst e1
      subst e2
      have x0 : (w.drewN k).cell? ⟨g1, o1 + i * 2, none⟩ = some (.string ⟨ka.1.toArray⟩) := x0
      have x1 : (w.drewN k).cell? ⟨g1, o1 + i * 2 + 1, none⟩ = some (.string ⟨ka.2.toArray⟩) := x1
      have y0 : (w.drewN k).cell? ⟨g2, o2 + i * 2, none⟩ = some (.string ⟨kb.1.toArray⟩) := y0
      have y1 : (w.drewN k).cell? ⟨g2, o2 + i * 2 + 1, none⟩ = some (.string ⟨kb.2.toArray⟩) := y1
      obtain ⟨X0, hX0⟩ : ∃ X : ByteArray, X = ⟨ka.1.toArray⟩ := ⟨_, rfl⟩
      obtain ⟨X1, hX1⟩ : ∃ X : ByteArray, X = ⟨ka.2.toArray⟩ := ⟨_, rfl⟩
      obtain ⟨Y0, hY0⟩ : ∃ X : ByteArray, X = ⟨kb.1.toArray⟩ := ⟨_, rfl⟩
      obtain ⟨Y1, hY1⟩ : ∃ X : ByteArray, X = ⟨kb.2.toArray⟩ := ⟨_, rfl⟩
      rw [← hX0] at x0
      rw [← hX1] at x1
      rw [← hY0] at y0
      rw [← hY1] at y1
      have q0 : (X0.toList == Y0.toList) = decide (ka.1 = kb.1) := by rw [same_bytes, hX0, hY0]
      have q1 : (X1.toList == Y1.toList) = decide (ka.2 = kb.2) := by rw [same_bytes, hX1, hY1]
      have HNE : Hid (ka ≠ kb → R = false) := hide (by
        intro h
        rw [HR.out]
        refine decide_eq_false (fun e => h ?_)
        rw [e, gb] at ga
        injection ga with ga
        exact ga.symm)
      have HEQ : Hid (ka = kb → a.take (i + 1) = b.take (i + 1)) := hide (by
        intro h
        rw [List.take_add_one, List.take_add_one, HT.out, ga, gb, h])
      clear hX0 hX1 hY0 hY1 ga gb hia hib HT HA HB
      by_cases he0 : ka.1 = kb.1
      · rw [decide_eq_true he0] at q0
        by_cases he1 : ka.2 = kb.2
        · rw [decide_eq_true he1] at q1
          have HE := hide (HEQ.out (Prod.ext he0 he1))
          clear HNE HEQ
          go_wp2_with fail
          go_region
          all_goals (go_wp2_with fail; go_roundg (gk - 1))
          all_goals first | omega | exact ⟨i + 1, k + 1, by omega, by first | rfl | (rw [wrap64_in _ ⟨by omega, by omega⟩]; rfl) | simp, rfl, HE⟩
        · rw [decide_eq_false he1] at q1
          have HN := hide (HNE.out (fun e => he1 (by rw [e])))
          clear HNE HEQ
          go_wp2_with fail
          go_region
          all_goals
            go_wp2_with fail
            try rw [Exit.noGoto_ret]
            go_ret
            exact ⟨ret_bool HN.out.symm, k + 1, rfl⟩
      · rw [decide_eq_false he0] at q0
        have HN := hide (HNE.out (fun e => he0 (by rw [e])))
        clear HNE HEQ
        go_wp2_with fail
        go_region
        all_goals
          go_wp2_with fail
          try rw [Exit.noGoto_ret]
          go_ret
          exact ⟨ret_bool HN.out.symm, k + 1, rfl⟩
    · have HRT : Hid (R = true) := hide (by
        rw [HR.out]
        have h := HT.out
        rw [List.take_of_length_le (by rw [← H12.out.1]; omega), List.take_of_length_le (by rw [← H12.out.2]; omega)] at h
        exact decide_eq_true h)
      clear HT
      go_wp2_with fail
      go_ret
      exact ⟨ret_bool HRT.out.symm, k, rfl⟩

set_option maxRecDepth 100000 in
set_option maxHeartbeats 16000000 in
theorem same_nst : ∀ (D : Nat) (w : World) (va vb : Value) (a b : List Nd), NAtD w D va a → NAtD w D vb b →
    Calls Tryz.prog 11 #[va, vb] w fun e w' => e = .returned (.bool (sameL a b)) ∧ ∃ m, w' = w.drewN m := by
  intro D
  induction D with
  | zero => intro w va vb a b h; exact h.elim
  | succ D0 ih =>
  intro w va vb a b hka hkb
  obtain ⟨pa, ca, rfl, hma, hna⟩ := hka
  obtain ⟨pb, cb, rfl, hmb, hnb⟩ := hkb
  obtain ⟨R, hR⟩ : ∃ R, R = sameL a b := ⟨_, rfl⟩
  rw [← hR]
  have HR := hide hR
  have HNA := hide hna
  have HNB := hide hnb
  have HIH := hide ih
  clear hR hna hnb ih
  by_cases hl : a.length = b.length
  case neg =>
    have HRF : Hid (R = false) := hide (by rw [HR.out]; exact sameL_len a b hl)
    have hn : ((a.length : Int) == (b.length : Int)) = false := beq_eq_false_iff_ne.2 (by omega)
    clear hl
    go_enter Tryz.func11, Tryz.ntmps11
    go_wp2_with fail
    go_ret
    exact ⟨ret_bool HRF.out.symm, 0, rfl⟩
  case pos =>
  obtain ⟨N, hN⟩ : ∃ N, N = a.length := ⟨_, rfl⟩
  rw [← hl, ← hN]
  rw [← hN] at hma
  have HL : Hid (a.length = N ∧ b.length = N) := hide ⟨hN.symm, by rw [hN, hl]⟩
  clear hl hN hmb
  go_enter Tryz.func11, Tryz.ntmps11
  go_wp2_with fail
  go_loopg [5] N (fun g v wr => ∃ i : Nat, i + g = N ∧ v = .int .i64 (i : Int) ∧ Hid (∃ k, wr = w.drewN k) ∧ Hid (a.take i = b.take i))
  case atStart => exact ⟨0, by omega, rfl, hide ⟨0, rfl⟩, hide rfl⟩
  case round =>
    obtain ⟨i, hig, rfl, HK, HT⟩ := hrel
    by_cases hlt : i < N
    · have hia : i < a.length := by rw [HL.out.1]; exact hlt
      have hib : i < b.length := by rw [HL.out.2]; exact hlt
      have ga : a[i]? = some a[i] := List.getElem?_eq_getElem hia
      have gb : b[i]? = some b[i] := List.getElem?_eq_getElem hib
      generalize a[i] = ka at ga
      generalize b[i] = kb at gb
      obtain ⟨g1, o1, p1, m1, d1, q1, k1, c1, e1, x0, x1, x2, x3, -, hra, hka⟩ := HNA.out i ka ga
      obtain ⟨g2, o2, p2, m2, d2, q2, k2, c2, e2, y0, y1, y2, y3, -, hrb, hkb⟩ := HNB.out i kb gb
      subst e1
      subst e2
      have hbel : Below w.heap.size w wr := by
        obtain ⟨k, hk⟩ := HK.out
        rw [hk]
        exact bel_drewN w k
      have x0 := cell_keep x0 hbel
      have x1 := cell_keep x1 hbel
      have x2 := cell_keep x2 hbel
      have x3 := cell_keep x3 hbel
      have y0 := cell_keep y0 hbel
      have y1 := cell_keep y1 hbel
      have y2 := cell_keep y2 hbel
      have y3 := cell_keep y3 hbel
      have HSA := hide (fun n => sameAttrs_nst ka.attrs kb.attrs (wr.drewN n) p1 p2 m1 d1 m2 d2 (hra.below (bel2 hbel (bel_drewN wr n))) (hrb.below (bel2 hbel (bel_drewN wr n))))
      have HSM := hide (fun n => HIH.out (wr.drewN n) _ _ _ _ (hka.below (bel2 hbel (bel_drewN wr n))) (hkb.below (bel2 hbel (bel_drewN wr n))))
      obtain ⟨X0, hX0⟩ : ∃ X : ByteArray, X = ⟨ka.name.toArray⟩ := ⟨_, rfl⟩
      obtain ⟨X2, hX2⟩ : ∃ X : ByteArray, X = ⟨ka.text.toArray⟩ := ⟨_, rfl⟩
      obtain ⟨Y0, hY0⟩ : ∃ X : ByteArray, X = ⟨kb.name.toArray⟩ := ⟨_, rfl⟩
      obtain ⟨Y2, hY2⟩ : ∃ X : ByteArray, X = ⟨kb.text.toArray⟩ := ⟨_, rfl⟩
      rw [← hX0] at x0
      rw [← hX2] at x2
      rw [← hY0] at y0
      rw [← hY2] at y2
      have n0 : (X0.toList == Y0.toList) = decide (ka.name = kb.name) := by rw [same_bytes, hX0, hY0]
      have n2 : (X2.toList == Y2.toList) = decide (ka.text = kb.text) := by rw [same_bytes, hX2, hY2]
      have HNE : Hid (sameN ka kb = false → R = false) := hide (by
        intro h
        rw [HR.out]
        cases hs : sameL a b with
        | false => rfl
        | true =>
          have e := (sameL_iff a b).1 hs
          rw [e, gb] at ga
          injection ga with ga
          rw [(sameN_iff ka kb).2 ga.symm] at h
          cases h)
      have HEQ : Hid (sameN ka kb = true → a.take (i + 1) = b.take (i + 1)) := hide (by
        intro h
        rw [List.take_add_one, List.take_add_one, HT.out, ga, gb, (sameN_iff ka kb).1 h])
      have HSN := hide (sameN_kids ka kb)
      obtain ⟨bn, hbn⟩ : ∃ x, x = decide (ka.name = kb.name) := ⟨_, rfl⟩
      obtain ⟨bt, hbt⟩ : ∃ x, x = decide (ka.text = kb.text) := ⟨_, rfl⟩
      obtain ⟨ba, hba⟩ : ∃ x, x = decide (ka.attrs = kb.attrs) := ⟨_, rfl⟩
      obtain ⟨bk, hbk⟩ : ∃ x, x = sameL ka.kids kb.kids := ⟨_, rfl⟩
      rw [← hbn, ← hbt, ← hba, ← hbk] at HSN
      rw [← hbn] at n0
      rw [← hbt] at n2
      rw [← hba] at HSA
      rw [← hbk] at HSM
      clear hX0 hX2 hY0 hY2 ga gb hia hib HT HNA HNB hra hrb hka hkb hbel hbn hbt hba hbk HIH
      have HNE2 : Hid ((bn && bt && ba && bk) = false → R = false) := hide (fun h => HNE.out (by rw [HSN.out]; exact h))
      have HEQ2 : Hid ((bn && bt && ba && bk) = true → a.take (i + 1) = b.take (i + 1)) := hide (fun h => HEQ.out (by rw [HSN.out]; exact h))
      clear HNE HEQ HSN
      cases bn with
      | false =>
        have HN := hide (HNE2.out rfl)
        clear HNE2 HEQ2
        go_wp2_with fail
        go_quiet (first | (go_at_call 30; exact Calls.quiet_of (HSA.out _)) | (go_at_call 11; exact Calls.quiet_of (HSM.out _)))
        go_wp2_with fail
        try rw [Exit.noGoto_ret]
        go_ret
        refine ⟨ret_bool HN.out.symm, ?_⟩
        obtain ⟨k, hk⟩ := HK.out
        rw [hk]
        exact ⟨_, World.drewN_drewN ..⟩
      | true =>
      cases bt with
      | false =>
        have HN := hide (HNE2.out rfl)
        clear HNE2 HEQ2
        go_wp2_with fail
        go_quiet (first | (go_at_call 30; exact Calls.quiet_of (HSA.out _)) | (go_at_call 11; exact Calls.quiet_of (HSM.out _)))
        go_wp2_with fail
        try rw [Exit.noGoto_ret]
        go_ret
        refine ⟨ret_bool HN.out.symm, ?_⟩
        obtain ⟨k, hk⟩ := HK.out
        rw [hk]
        exact ⟨_, World.drewN_drewN ..⟩
      | true =>
      cases ba with
      | false =>
        have HN := hide (HNE2.out rfl)
        clear HNE2 HEQ2
        go_wp2_with fail
        go_quiet (first | (go_at_call 30; exact Calls.quiet_of (HSA.out _)) | (go_at_call 11; exact Calls.quiet_of (HSM.out _)))
        go_wp2_with fail
        try rw [Exit.noGoto_ret]
        go_ret
        refine ⟨ret_bool HN.out.symm, ?_⟩
        obtain ⟨k, hk⟩ := HK.out
        rw [hk]
        exact ⟨_, World.drewN_drewN ..⟩
      | true =>
      cases bk with
      | false =>
        have HN := hide (HNE2.out rfl)
        clear HNE2 HEQ2
        go_wp2_with fail
        go_quiet (first | (go_at_call 30; exact Calls.quiet_of (HSA.out _)) | (go_at_call 11; exact Calls.quiet_of (HSM.out _)))
        go_wp2_with fail
        try rw [Exit.noGoto_ret]
        go_ret
        refine ⟨ret_bool HN.out.symm, ?_⟩
        obtain ⟨k, hk⟩ := HK.out
        rw [hk]
        exact ⟨_, World.drewN_drewN ..⟩
      | true =>
        have HE := hide (HEQ2.out rfl)
        clear HNE2 HEQ2
        go_wp2_with fail
        go_quiet (first | (go_at_call 30; exact Calls.quiet_of (HSA.out _)) | (go_at_call 11; exact Calls.quiet_of (HSM.out _)))
        go_wp2_with fail
        go_roundg (gk - 1)
        case measure => omega
        case rel =>
          refine ⟨i + 1, by omega, by first | rfl | (rw [wrap64_in _ ⟨by omega, by omega⟩]; rfl) | simp, hide ?_, HE⟩
          obtain ⟨k, hk⟩ := HK.out
          rw [hk]
          exact ⟨_, World.drewN_drewN ..⟩
    · have HRT : Hid (R = true) := hide (by
        rw [HR.out]
        have h := HT.out
        rw [List.take_of_length_le (by rw [HL.out.1]; omega), List.take_of_length_le (by rw [HL.out.2]; omega)] at h
        exact (sameL_iff a b).2 h)
      clear HT
      go_wp2_with fail
      go_ret
      exact ⟨ret_bool HRT.out.symm, HK.out⟩
end Go.Proofs.YtholfdfjapgfbaaGreatDoor.Dm

/-
  A stable tree's page, read: its tokens are the tree's own; two stable trees of one page are the same.
-/
namespace Utf1
open Go

theorem pl_facts {c : UInt8} (h : nmB [45, 95, 58] c = true) : isNm c = false ∧ isAt c = false ∧ isGap c = false ∧ low8 c = c ∧ c ≠ 60 ∧ c ≠ 62 ∧ c ≠ 33 ∧ c ≠ 63 ∧ c ≠ 47 := by
  unfold nmB at h
  rw [Bool.or_eq_true, Bool.or_eq_true] at h
  have key : SmallB c → isNm c = false ∧ isAt c = false ∧ isGap c = false ∧ low8 c = c ∧ c ≠ 60 ∧ c ≠ 62 ∧ c ≠ 33 ∧ c ≠ 63 ∧ c ≠ 47 := by
    intro hs
    obtain ⟨a1, a2, a3, a4, a5, a6⟩ := small_facts hs
    exact ⟨a1, a2, a3, a4, a5, a6, beq_eq_false_iff_ne.1 (small_ne hs 33 (by decide)), beq_eq_false_iff_ne.1 (small_ne hs 63 (by decide)), beq_eq_false_iff_ne.1 (small_ne hs 47 (by decide))⟩
  rcases h with (h | h) | h
  · exact key (.inl (of_decide_eq_true h))
  · exact key (.inr (of_decide_eq_true h))
  · have h := of_decide_eq_true h
    simp only [List.mem_cons, List.not_mem_nil, or_false] at h
    rcases h with rfl | rfl | rfl <;> decide
/-- A name that may be. -/
def Plain (n : List UInt8) : Prop := (∃ c t, n = c :: t ∧ 97 ≤ c.toNat ∧ c.toNat ≤ 122) ∧ ∀ c ∈ n, nmB [45, 95, 58] c = true
theorem plain_attr {n : List UInt8} (h : isNmL [45, 95, 58] n = true) : Plain n := by
  cases n with
  | nil => cases h
  | cons c t =>
    rw [isNmL, Bool.and_eq_true] at h
    exact ⟨⟨c, t, rfl, of_decide_eq_true h.1⟩, List.all_eq_true.1 h.2⟩
theorem plain_elem {n : List UInt8} (h : isNmL [45] n = true) : Plain n := by
  cases n with
  | nil => cases h
  | cons c t =>
    rw [isNmL, Bool.and_eq_true] at h
    refine ⟨⟨c, t, rfl, of_decide_eq_true h.1⟩, fun x hx => ?_⟩
    have := List.all_eq_true.1 h.2 x hx
    unfold nmB at this ⊢
    rw [Bool.or_eq_true] at this ⊢
    rcases this with h | h
    · exact .inl h
    · refine .inr (decide_eq_true ?_)
      have h := of_decide_eq_true h
      simp only [List.mem_cons, List.not_mem_nil, or_false] at h
      rw [h]
      decide
theorem mayE_plain {n : List UInt8} (h : mayE n = true) : Plain n ∧ rawOf n = none := by
  unfold mayE at h
  rw [Bool.and_eq_true] at h
  refine ⟨plain_elem h.2, ?_⟩
  cases hr : rawOf n with
  | none => rfl
  | some b => rw [hr] at h; exact absurd h.1 (by simp)
theorem beg_startP (n r : List UInt8) (h : Plain n) : beg (60 :: (n ++ r)) = 3 := by
  obtain ⟨⟨c, t, rfl, h1, h2⟩, hs⟩ := h
  have hc := pl_facts (hs c (List.mem_cons_self ..))
  have k33 := hc.2.2.2.2.2.2.1
  have k63 := hc.2.2.2.2.2.2.2.1
  rw [beg_lt]
  show beg1 (c :: (t ++ r)) = 3
  unfold beg1
  simp only
  rw [if_neg (by simp [List.isPrefixOf, Ne.symm k33]), if_neg (by simp [k33, k63]), if_pos (isLet_small h1 h2)]
theorem beg_endP (n r : List UInt8) (h : Plain n) : beg (60 :: 47 :: (n ++ r)) = 3 := by
  obtain ⟨⟨c, t, rfl, h1, h2⟩, hs⟩ := h
  rw [beg_lt]
  show beg1 (47 :: c :: (t ++ r)) = 3
  unfold beg1
  simp only
  rw [if_neg (by simp [List.isPrefixOf]), if_neg (by decide), if_neg (by decide), if_neg (by decide)]
  show beg2 (c :: (t ++ r)) = 3
  unfold beg2
  simp only
  rw [if_pos (isLet_small h1 h2)]
theorem getD_startP (n r : List UInt8) (h : Plain n) : (60 :: (n ++ r)).getD 1 0 ≠ 47 := by
  obtain ⟨⟨c, t, rfl, h1, h2⟩, hs⟩ := h
  exact (pl_facts (hs c (List.mem_cons_self ..))).2.2.2.2.2.2.2.2
theorem nm_allP {n : List UInt8} (h : Plain n) : ∀ c ∈ n, (!isNm c) = true := fun c hc => by rw [(pl_facts (h.2 c hc)).1]; rfl
theorem lowerP (n : List UInt8) (h : ∀ c ∈ n, nmB [45, 95, 58] c = true) : lower n = n := by
  unfold lower
  induction n with
  | nil => rfl
  | cons c t ih =>
    rw [List.map_cons, (pl_facts (h c (List.mem_cons_self ..))).2.2.2.1, ih (fun x hx => h x (List.mem_cons_of_mem _ hx))]
theorem toks_stopP (n r : List UInt8) (h : Plain n) : toks (60 :: 47 :: (n ++ 62 :: r)) = ⟨3, n, [], false, []⟩ :: toks r := by
  have hb : tagBody (60 :: 47 :: (n ++ 62 :: r)) = n ++ 62 :: r := by
    unfold tagBody
    rw [if_pos (by rfl)]
    rfl
  have ht := take_until (p := fun x => !isNm x) (d := 62) (by decide) r n (nm_allP h)
  have hk : tagOf (60 :: 47 :: (n ++ 62 :: r)) = some (⟨3, n, [], false, []⟩, r) := by
    unfold tagOf
    rw [hb, ht.2, attrsOf_end [] (62 :: r) r (by rfl)]
    simp only
    rw [if_pos (by rfl), ht.1, lowerP n h.2]
  rw [toks_tag _ r _ (beg_endP n _ h) hk]
  have : withRaw ⟨3, n, [], false, []⟩ r = ([], r) := by
    unfold withRaw
    rw [if_neg (by simp)]
  rw [this]
  rfl
theorem one_attr (a v r : List UInt8) (acc : List (List UInt8 × List UInt8)) (ha : Plain a) (hn : a ∉ acc.map Prod.fst) : attrsOf acc (32 :: (a ++ 61 :: 34 :: (esc true v ++ 34 :: r))) = attrsOf (acc ++ [(a, v)]) r := by
  obtain ⟨⟨c, t, rfl, h1, h2⟩, hs⟩ := ha
  have hc := pl_facts (hs c (List.mem_cons_self ..))
  have hta : ∀ x ∈ t, (!isAt x) = true := fun x hx => by rw [(pl_facts (hs x (List.mem_cons_of_mem _ hx))).2.1]; rfl
  have h3 := take_until (p := fun x => !isAt x) (d := 61) (by decide) (34 :: (esc true v ++ 34 :: r)) t hta
  have h4 := take_until (p := fun x => x != (34 : UInt8)) (d := 34) (by decide) r (esc true v) (fun x hx => by simpa using (esc_bytes true v x hx).2.2 rfl)
  have h5 : oneAt c (t ++ 61 :: 34 :: (esc true v ++ 34 :: r)) = some (c :: t, esc true v, r) := by
    unfold oneAt
    rw [h3.2, h3.1]
    simp only [show (61 :: 34 :: (esc true v ++ 34 :: r)).dropWhile isBl = 61 :: 34 :: (esc true v ++ 34 :: r) from rfl, show (34 :: (esc true v ++ 34 :: r)).dropWhile isBl = 34 :: (esc true v ++ 34 :: r) from rfl, true_or, if_true]
    rw [h4.1, h4.2]
  rw [attrsOf_one acc _ (t ++ 61 :: 34 :: (esc true v ++ 34 :: r)) c _ _ _ (by
    show List.dropWhile isGap (32 :: c :: _) = _
    rw [List.dropWhile_cons, if_pos (by decide), List.dropWhile_cons, if_neg (by rw [hc.2.2.1]; decide)]
    rfl) hc.2.2.2.2.2.1 h5]
  have : addAt acc (lower (c :: t)) (res (esc true v)) = acc ++ [(c :: t, v)] := by
    rw [lowerP _ hs, res_esc]
    unfold addAt
    rw [if_neg hn]
  rw [this]
theorem all_attrs (r : List UInt8) : ∀ (a acc : List (List UInt8 × List UInt8)), (∀ kv ∈ a, Plain kv.1) → ((acc ++ a).map Prod.fst).Nodup → attrsOf acc (atsH a ++ 62 :: r) = some (acc ++ a, false, r)
  | [], acc, _, _ => by
    rw [show atsH [] ++ 62 :: r = 62 :: r from rfl, attrsOf_end acc (62 :: r) r (by rfl), List.append_nil]
    rfl
  | (k, v) :: a, acc, h1, h2 => by
    have e : atsH ((k, v) :: a) ++ 62 :: r = 32 :: (k ++ 61 :: 34 :: (esc true v ++ 34 :: (atsH a ++ 62 :: r))) := by
      rw [atsH, atH]
      simp only [List.append_assoc, List.cons_append, List.nil_append]
    have hn : k ∉ acc.map Prod.fst := by
      intro hm
      rw [List.map_append, List.nodup_append] at h2
      exact h2.2.2 k hm k (by simp) rfl
    rw [e, one_attr k v _ acc (h1 (k, v) (List.mem_cons_self ..)) hn, all_attrs r a (acc ++ [(k, v)]) (fun kv hkv => h1 kv (List.mem_cons_of_mem _ hkv)) (by rw [List.append_assoc]; exact h2), List.append_assoc]
    rfl
theorem mayA_facts {a : List (List UInt8 × List UInt8)} (h : mayA a = true) : (∀ kv ∈ a, Plain kv.1) ∧ (a.map Prod.fst).Nodup := by
  unfold mayA at h
  rw [Bool.and_eq_true] at h
  exact ⟨fun kv hkv => plain_attr (List.all_eq_true.1 h.1 kv hkv), of_decide_eq_true h.2⟩
theorem toks_elem (n r : List UInt8) (a : List (List UInt8 × List UInt8)) (hn : mayE n = true) (ha : mayA a = true) : toks (60 :: (n ++ (atsH a ++ 62 :: r))) = ⟨2, n, a, false, []⟩ :: toks r := by
  obtain ⟨hp, hraw⟩ := mayE_plain hn
  obtain ⟨ha1, ha2⟩ := mayA_facts ha
  have hb : tagBody (60 :: (n ++ (atsH a ++ 62 :: r))) = n ++ (atsH a ++ 62 :: r) := by
    unfold tagBody
    rw [if_neg (getD_startP n _ hp)]
    rfl
  obtain ⟨d, x, hd, hdx⟩ : ∃ d x, (fun y => !isNm y) d = false ∧ atsH a ++ 62 :: r = d :: x := by
    cases a with
    | nil => exact ⟨62, r, by decide, rfl⟩
    | cons kv a => exact ⟨32, _, by decide, rfl⟩
  have ht := take_until (p := fun x => !isNm x) hd x n (nm_allP hp)
  rw [← hdx] at ht
  have hk : tagOf (60 :: (n ++ (atsH a ++ 62 :: r))) = some (⟨2, n, a, false, []⟩, r) := by
    unfold tagOf
    rw [hb, ht.2, all_attrs r a [] ha1 (by simpa using ha2)]
    simp only
    rw [if_neg (getD_startP n _ hp), ht.1, lowerP n hp.2]
    rfl
  rw [toks_tag _ r _ (beg_startP n _ hp) hk, withRaw_none _ _ _ _ _ hraw]
  rfl

mutual
/-- The tokens of a node. -/
def tkN : Nd → List Tk
  | .mk n a t k => if n = [] then [⟨1, [], [], false, t⟩] else ⟨2, n, a, false, []⟩ :: (if n ∈ voids then [] else tkL k ++ [⟨3, n, [], false, []⟩])
def tkL : List Nd → List Tk
  | [] => []
  | n :: r => tkN n ++ tkL r
end
theorem stN_text {p i b : Bool} {n : List UInt8} {a : List (List UInt8 × List UInt8)} {t : List UInt8} {k : List Nd} (hn : n = []) (h : stN p i b (.mk n a t k) = true) : t ≠ [] ∧ b = false ∧ a = [] ∧ k = [] := by
  rw [stN, if_pos hn] at h
  simp only [Bool.and_eq_true, Bool.not_eq_true', List.isEmpty_iff] at h
  refine ⟨?_, h.1.1.2, h.1.2, h.2⟩
  intro e
  rw [e] at h
  exact absurd h.1.1.1 (by decide)
theorem stN_elem {p i b : Bool} {n : List UInt8} {a : List (List UInt8 × List UInt8)} {t : List UInt8} {k : List Nd} (hn : n ≠ []) (h : stN p i b (.mk n a t k) = true) : t = [] ∧ mayE n = true ∧ mayA a = true ∧ ((p && decide (n ∈ blocks)) || (i && decide (n = [108, 105]))) = false ∧ (n ∈ voids → k = []) ∧ (n ∉ voids → stL (p || decide (n = [112])) (itm i n) false k = true) := by
  rw [stN, if_neg hn] at h
  rw [Bool.and_eq_true, Bool.and_eq_true, Bool.and_eq_true, Bool.and_eq_true] at h
  obtain ⟨⟨⟨⟨h1, h2⟩, h3⟩, h4⟩, h5⟩ := h
  refine ⟨List.isEmpty_iff.1 h1, h2, h3, by rw [Bool.not_eq_true'] at h4; exact h4, fun hv => ?_, fun hv => ?_⟩
  · rw [if_pos hv] at h5
    exact List.isEmpty_iff.1 h5
  · rw [if_neg hv] at h5
    exact h5
theorem stL_cons {p i b : Bool} {n : Nd} {r : List Nd} (h : stL p i b (n :: r) = true) : stN p i b n = true ∧ stL p i (decide (n.name = [])) r = true := by
  rw [stL, Bool.and_eq_true] at h
  exact h
theorem ht_beg {p i : Bool} {m : Nd} {q : List Nd} (r : List UInt8) (h : stL p i true (m :: q) = true) : beg (htL (m :: q) ++ r) ≠ 0 := by
  obtain ⟨n, a, t, k⟩ := m
  have h1 := (stL_cons h).1
  by_cases hn : n = []
  · exact absurd (stN_text hn h1).2.1 (by decide)
  · have hp := (mayE_plain (stN_elem hn h1).2.1).1
    rw [htL, htN, if_neg hn]
    simp only [List.append_assoc, List.cons_append, List.nil_append]
    rw [beg_startP n _ hp]
    decide

mutual
theorem toks_htN : ∀ (nd : Nd) (p i b : Bool) (r : List UInt8), stN p i b nd = true → (nd.name = [] → r = [] ∨ beg r ≠ 0) → toks (htN nd ++ r) = tkN nd ++ toks r
  | .mk n a t k, p, i, b, r, h, hr => by
    by_cases hn : n = []
    · obtain ⟨h1, _, _, _⟩ := stN_text hn h
      rw [htN, tkN, if_pos hn, if_pos hn]
      rcases hr hn with rfl | hr
      · rw [List.append_nil, toks_esc t h1, toks_nil]
        rfl
      · rw [toks_ahead _ r hr (esc_ne _ _ h1) (fun c hc => (esc_bytes false t c hc).1), res_esc]
        rfl
    · obtain ⟨_, h2, h3, _, h4, h5⟩ := stN_elem hn h
      rw [htN, tkN, if_neg hn, if_neg hn]
      by_cases hv : n ∈ voids
      · rw [if_pos hv, if_pos hv]
        simp only [List.append_assoc, List.cons_append, List.nil_append]
        rw [toks_elem n r a h2 h3]
      · rw [if_neg hv, if_neg hv]
        have e : [60] ++ n ++ atsH a ++ [62] ++ (htL k ++ ([60, 47] ++ n ++ [62])) ++ r = 60 :: (n ++ (atsH a ++ 62 :: (htL k ++ (60 :: 47 :: (n ++ 62 :: r))))) := by simp only [List.append_assoc, List.cons_append, List.nil_append]
        have hp := (mayE_plain h2).1
        rw [e, toks_elem n _ a h2 h3, toks_htL k _ _ _ (60 :: 47 :: (n ++ 62 :: r)) (h5 hv) (.inr (by rw [beg_endP n _ hp]; decide)), toks_stopP n r hp]
        simp only [List.append_assoc, List.cons_append, List.nil_append]
theorem toks_htL : ∀ (ns : List Nd) (p i b : Bool) (r : List UInt8), stL p i b ns = true → (r = [] ∨ beg r ≠ 0) → toks (htL ns ++ r) = tkL ns ++ toks r
  | [], _, _, _, r, _, _ => by
    rw [htL, tkL]
    rfl
  | n :: q, p, i, b, r, h, hr => by
    obtain ⟨h1, h2⟩ := stL_cons h
    rw [htL, tkL, List.append_assoc, List.append_assoc, toks_htN n p i b (htL q ++ r) h1 ?_, toks_htL q _ _ _ r h2 hr]
    intro hn
    rw [decide_eq_true hn] at h2
    cases q with
    | nil => rw [htL]; exact hr
    | cons m q => exact .inr (ht_beg r h2)
end
/-- A stable tree's page has its tokens. -/
theorem toks_stable {ns : List Nd} (h : stable ns = true) : toks (htL ns) = tkL ns := by
  unfold stable at h
  rw [Bool.and_eq_true] at h
  have := toks_htL ns _ _ _ [] h.2 (.inl rfl)
  rw [List.append_nil, toks_nil, List.append_nil] at this
  exact this
end Utf1

/-
  Two stable trees of the same tokens are the same.
-/
namespace Utf1

/-- What may stand behind the tokens of a list of nodes: nothing, or an end. -/
def EndAt : List Tk → Prop
  | [] => True
  | k :: _ => k.kind = 3
mutual
theorem tkN_inj : ∀ (n m : Nd) (p i b p' i' b' : Bool) (x y : List Tk), stN p i b n = true → stN p' i' b' m = true → tkN n ++ x = tkN m ++ y → n = m ∧ x = y
  | .mk n a t k, .mk n' a' t' k', p, i, b, p', i', b', x, y, h, h', e => by
    rw [tkN, tkN] at e
    by_cases hn : n = []
    · obtain ⟨_, _, ha, hk⟩ := stN_text hn h
      rw [if_pos hn] at e
      by_cases hn' : n' = []
      · obtain ⟨_, _, ha', hk'⟩ := stN_text hn' h'
        rw [if_pos hn'] at e
        simp only [List.cons_append, List.nil_append, List.cons.injEq, Tk.mk.injEq] at e
        subst hn
        subst hn'
        subst ha
        subst ha'
        subst hk
        subst hk'
        rw [e.1.2.2.2.2]
        exact ⟨rfl, e.2⟩
      · rw [if_neg hn'] at e
        simp at e
    · obtain ⟨ht, _, _, _, h4, h5⟩ := stN_elem hn h
      rw [if_neg hn] at e
      by_cases hn' : n' = []
      · rw [if_pos hn'] at e
        simp at e
      · obtain ⟨ht', _, _, _, h4', h5'⟩ := stN_elem hn' h'
        rw [if_neg hn'] at e
        simp only [List.cons_append, List.cons.injEq, Tk.mk.injEq] at e
        obtain ⟨⟨_, e1, e2, _, _⟩, e3⟩ := e
        subst e1
        subst e2
        subst ht
        subst ht'
        by_cases hv : n ∈ voids
        · rw [if_pos hv, if_pos hv, List.nil_append, List.nil_append] at e3
          rw [h4 hv, h4' hv]
          exact ⟨rfl, e3⟩
        · rw [if_neg hv, if_neg hv, List.append_assoc, List.append_assoc] at e3
          obtain ⟨e4, e5⟩ := tkL_inj k k' _ _ _ _ _ _ (⟨3, n, [], false, []⟩ :: x) (⟨3, n, [], false, []⟩ :: y) (h5 hv) (h5' hv) rfl rfl e3
          subst e4
          simp only [List.cons.injEq] at e5
          exact ⟨rfl, e5.2⟩
theorem tkL_inj : ∀ (l m : List Nd) (p i b p' i' b' : Bool) (x y : List Tk), stL p i b l = true → stL p' i' b' m = true → EndAt x → EndAt y → tkL l ++ x = tkL m ++ y → l = m ∧ x = y
  | [], [], _, _, _, _, _, _, x, y, _, _, _, _, e => ⟨rfl, by simpa [tkL] using e⟩
  | [], m :: q, _, _, _, _, _, _, x, y, _, h', hx, _, e => by
    obtain ⟨n, a, t, k⟩ := m
    rw [tkL, tkL, tkN] at e
    exfalso
    split at e
    · simp only [List.nil_append, List.cons_append] at e
      rw [e] at hx
      exact absurd hx (by decide : (1 : Nat) ≠ 3)
    · simp only [List.nil_append, List.cons_append] at e
      rw [e] at hx
      exact absurd hx (by decide : (2 : Nat) ≠ 3)
  | n :: q, [], _, _, _, _, _, _, x, y, h, _, _, hy, e => by
    obtain ⟨n, a, t, k⟩ := n
    rw [tkL, tkL, tkN] at e
    exfalso
    split at e
    · simp only [List.nil_append, List.cons_append] at e
      rw [← e] at hy
      exact absurd hy (by decide : (1 : Nat) ≠ 3)
    · simp only [List.nil_append, List.cons_append] at e
      rw [← e] at hy
      exact absurd hy (by decide : (2 : Nat) ≠ 3)
  | n :: q, m :: s, _, _, _, _, _, _, x, y, h, h', hx, hy, e => by
    rw [tkL, tkL, List.append_assoc, List.append_assoc] at e
    obtain ⟨e1, e2⟩ := tkN_inj n m _ _ _ _ _ _ _ _ (stL_cons h).1 (stL_cons h').1 e
    obtain ⟨e3, e4⟩ := tkL_inj q s _ _ _ _ _ _ x y (stL_cons h).2 (stL_cons h').2 hx hy e2
    rw [e1, e3]
    exact ⟨rfl, e4⟩
end
theorem stable_st {ns : List Nd} (h : stable ns = true) : stL false false false ns = true := by
  unfold stable at h
  rw [Bool.and_eq_true] at h
  exact h.2
/-- Two stable trees of one page are the same. -/
theorem page_inj {a b : List Nd} (ha : stable a = true) (hb : stable b = true) (h : htL a = htL b) : a = b := by
  have e : tkL a = tkL b := by rw [← toks_stable ha, ← toks_stable hb, h]
  exact (tkL_inj a b _ _ _ _ _ _ [] [] (stable_st ha) (stable_st hb) trivial trivial (by rw [e])).1
end Utf1
