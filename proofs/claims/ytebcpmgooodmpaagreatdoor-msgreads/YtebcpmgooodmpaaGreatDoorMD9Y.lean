/-
  The document's Encode of an acknowledgement, walked.
-/
import Derived.Test.YtebcpmgooodmpaaGreatDoorMD7
import Derived.Test.YtebcpmgooodmpaaGreatDoorME7
import Derived.Test.YtebcpmgooodmpaaGreatDoorQZ
namespace Go.Proofs.YtebcpmgooodmpaaGreatDoor
open Go.RowKit
open Utf1
open Pol8 hiding text right Right
open Msg15

set_option maxRecDepth 100000 in
set_option maxHeartbeats 32000000 in
theorem mencode_ack (m : Ms) (vi vp v1 v2 v3 v4 v5 : Value) (ids : List ByteArray) (ts : List (ByteArray × ByteArray)) (l1 l2 l3 l4 l5 : List ByteArray) (w : World) (ha : MV w m vi vp v1 v2 v3 v4 v5 ids ts l1 l2 l3 l4 l5) (hR : MRight m) (hkn : m.kind = 4) :
    Calls Tryz.prog 12 #[mval m.kind m.fr m.to m.ep vi vp m.pol v1 v2 v3 v4 v5] w fun e w' => e = .returned (.tuple #[.string ⟨(textM m).toArray⟩, .int .i64 0]) ∧ Below w.heap.size w w' := by
  have hlen := text_len hR
  have htp := textM_parts m
  have k1 := hR.kind
  have k2 := hR.fr
  have k3 := hR.to
  have k4 := hR.ep
  obtain ⟨k, hk⟩ : ∃ k : Nat, m.kind = (k : Int) := ⟨m.kind.toNat, (Int.toNat_of_nonneg (by omega)).symm⟩
  obtain ⟨f, hf⟩ : ∃ k : Nat, m.fr = (k : Int) := ⟨m.fr.toNat, (Int.toNat_of_nonneg (by omega)).symm⟩
  obtain ⟨t, ht⟩ : ∃ k : Nat, m.to = (k : Int) := ⟨m.to.toNat, (Int.toNat_of_nonneg (by omega)).symm⟩
  obtain ⟨ep, hep⟩ : ∃ k : Nat, m.ep = (k : Int) := ⟨m.ep.toNat, (Int.toNat_of_nonneg (by omega)).symm⟩
  rw [hk, hf, ht, hep, Int.toNat_natCast, Int.toNat_natCast, Int.toNat_natCast, Int.toNat_natCast] at htp
  have HKN : Hid (k = 4) := hide (by omega)
  have CR : Hid (∀ wx, Below w.heap.size w wx → Calls Tryz.prog 14 #[mval (k : Int) (f : Int) (t : Int) (ep : Int) vi vp m.pol v1 v2 v3 v4 v5] wx fun e w' => (∃ b : Bool, e = .returned (.bool b) ∧ (b = true ↔ MRight m)) ∧ Below wx.heap.size wx w') := hide (fun wx hx => by
    rw [← hk, ← hf, ← ht, ← hep]
    exact mright_any m.kind m.fr m.to m.ep _ _ ids ts _ _ _ _ _ m.pol l1 l2 l3 l4 l5 wx (ha.hi.below hx) (ha.hp.below hx) (ha.hv.below hx) ha.hf ha.li ha.lp m (by rw [← ha.ei, ← ha.ep]))
  have HR := hide hR
  have HKK := hide hkn
  obtain ⟨pi, ni, ci, rfl⟩ : ∃ q n c, vi = .slice q n c := by obtain ⟨q, c, e, -, -⟩ := ha.hi; exact ⟨_, _, _, e⟩
  obtain ⟨pp, np, cp, rfl⟩ : ∃ q n c, vp = .slice q n c := by obtain ⟨q, c, e, -, -, -⟩ := ha.hp; exact ⟨_, _, _, e⟩
  obtain ⟨q1, n1, c1, rfl⟩ : ∃ q n c, v1 = .slice q n c := by obtain ⟨q, c, e, -, -⟩ := ha.hv.s1; exact ⟨_, _, _, e⟩
  obtain ⟨q2, n2, c2, rfl⟩ : ∃ q n c, v2 = .slice q n c := by obtain ⟨q, c, e, -, -⟩ := ha.hv.s2; exact ⟨_, _, _, e⟩
  obtain ⟨q3, n3, c3, rfl⟩ : ∃ q n c, v3 = .slice q n c := by obtain ⟨q, c, e, -, -⟩ := ha.hv.s3; exact ⟨_, _, _, e⟩
  obtain ⟨q4, n4, c4, rfl⟩ : ∃ q n c, v4 = .slice q n c := by obtain ⟨q, c, e, -, -⟩ := ha.hv.s4; exact ⟨_, _, _, e⟩
  obtain ⟨q5, n5, c5, rfl⟩ : ∃ q n c, v5 = .slice q n c := by obtain ⟨q, c, e, -, -⟩ := ha.hv.s5; exact ⟨_, _, _, e⟩
  obtain ⟨A, hA⟩ : ∃ A : Array Value, A = #[.int .i64 (k : Int), .int .i64 (f : Int), .int .i64 (t : Int), .int .i64 (ep : Int), .slice pi ni ci, .slice pp np cp, .int .i64 m.pol.ep, .slice q1 n1 c1, .slice q2 n2 c2, .slice q3 n3 c3, .slice q4 n4 c4, .slice q5 n5 c5, .int .i64 m.pol.dp, .int .i64 m.pol.nd, .int .i64 m.pol.bt] := ⟨_, rfl⟩
  rw [hk, hf, ht, hep]
  rw [hk] at k1
  rw [hf] at k2
  rw [ht] at k3
  rw [hep] at k4
  obtain ⟨Dk, hDk⟩ : ∃ D : ByteArray, D = ⟨(dec k).toArray⟩ := ⟨_, rfl⟩
  obtain ⟨Fk, hFk⟩ : ∃ F : ByteArray, F = ⟨(fld (dec k)).toArray⟩ := ⟨_, rfl⟩
  have zk : Fk.size ≤ 100 := by
    rw [← bl_len, hFk]
    show (fld (dec k)).length ≤ 100
    have h1 := dec_len k 6 (by omega)
    have h2 := dec_len (dec k).length 6 (by omega)
    unfold fld
    simp
    omega
  have CDk : Hid (∀ wx, MBox w A wx → Calls Tryz.prog 23 #[.int .i64 (k : Int)] wx fun e w' => e = .returned (.string Dk) ∧ MBox w A w') := hide (fun wx hx => by
    rw [hDk]
    exact (mdecimal_any k (by omega) wx).mono fun e w' ⟨h1, h2⟩ => ⟨h1, hx.keep h2⟩)
  have CFk : Hid (∀ wx, MBox w A wx → Calls Tryz.prog 22 #[.string Dk] wx fun e w' => e = .returned (.string Fk) ∧ MBox w A w') := hide (fun wx hx => by
    have hz : Dk.size ≤ 1000000 := by rw [← bl_len, hDk]; have := dec_len k 6 (by omega); show (dec k).length ≤ _; omega
    have h := mfield_any Dk hz wx
    have e : bl Dk = dec k := by rw [hDk]
    rw [e, ← hFk] at h
    exact h.mono fun e w' ⟨h1, h2⟩ => ⟨h1, hx.keep h2⟩)
  obtain ⟨Df, hDf⟩ : ∃ D : ByteArray, D = ⟨(dec f).toArray⟩ := ⟨_, rfl⟩
  obtain ⟨Ff, hFf⟩ : ∃ F : ByteArray, F = ⟨(fld (dec f)).toArray⟩ := ⟨_, rfl⟩
  have zf : Ff.size ≤ 100 := by
    rw [← bl_len, hFf]
    show (fld (dec f)).length ≤ 100
    have h1 := dec_len f 6 (by omega)
    have h2 := dec_len (dec f).length 6 (by omega)
    unfold fld
    simp
    omega
  have CDf : Hid (∀ wx, MBox w A wx → Calls Tryz.prog 23 #[.int .i64 (f : Int)] wx fun e w' => e = .returned (.string Df) ∧ MBox w A w') := hide (fun wx hx => by
    rw [hDf]
    exact (mdecimal_any f (by omega) wx).mono fun e w' ⟨h1, h2⟩ => ⟨h1, hx.keep h2⟩)
  have CFf : Hid (∀ wx, MBox w A wx → Calls Tryz.prog 22 #[.string Df] wx fun e w' => e = .returned (.string Ff) ∧ MBox w A w') := hide (fun wx hx => by
    have hz : Df.size ≤ 1000000 := by rw [← bl_len, hDf]; have := dec_len f 6 (by omega); show (dec f).length ≤ _; omega
    have h := mfield_any Df hz wx
    have e : bl Df = dec f := by rw [hDf]
    rw [e, ← hFf] at h
    exact h.mono fun e w' ⟨h1, h2⟩ => ⟨h1, hx.keep h2⟩)
  obtain ⟨Dt, hDt⟩ : ∃ D : ByteArray, D = ⟨(dec t).toArray⟩ := ⟨_, rfl⟩
  obtain ⟨Ft, hFt⟩ : ∃ F : ByteArray, F = ⟨(fld (dec t)).toArray⟩ := ⟨_, rfl⟩
  have zt : Ft.size ≤ 100 := by
    rw [← bl_len, hFt]
    show (fld (dec t)).length ≤ 100
    have h1 := dec_len t 6 (by omega)
    have h2 := dec_len (dec t).length 6 (by omega)
    unfold fld
    simp
    omega
  have CDt : Hid (∀ wx, MBox w A wx → Calls Tryz.prog 23 #[.int .i64 (t : Int)] wx fun e w' => e = .returned (.string Dt) ∧ MBox w A w') := hide (fun wx hx => by
    rw [hDt]
    exact (mdecimal_any t (by omega) wx).mono fun e w' ⟨h1, h2⟩ => ⟨h1, hx.keep h2⟩)
  have CFt : Hid (∀ wx, MBox w A wx → Calls Tryz.prog 22 #[.string Dt] wx fun e w' => e = .returned (.string Ft) ∧ MBox w A w') := hide (fun wx hx => by
    have hz : Dt.size ≤ 1000000 := by rw [← bl_len, hDt]; have := dec_len t 6 (by omega); show (dec t).length ≤ _; omega
    have h := mfield_any Dt hz wx
    have e : bl Dt = dec t := by rw [hDt]
    rw [e, ← hFt] at h
    exact h.mono fun e w' ⟨h1, h2⟩ => ⟨h1, hx.keep h2⟩)
  obtain ⟨Dep, hDep⟩ : ∃ D : ByteArray, D = ⟨(dec ep).toArray⟩ := ⟨_, rfl⟩
  obtain ⟨Fep, hFep⟩ : ∃ F : ByteArray, F = ⟨(fld (dec ep)).toArray⟩ := ⟨_, rfl⟩
  have zep : Fep.size ≤ 100 := by
    rw [← bl_len, hFep]
    show (fld (dec ep)).length ≤ 100
    have h1 := dec_len ep 6 (by omega)
    have h2 := dec_len (dec ep).length 6 (by omega)
    unfold fld
    simp
    omega
  have CDep : Hid (∀ wx, MBox w A wx → Calls Tryz.prog 23 #[.int .i64 (ep : Int)] wx fun e w' => e = .returned (.string Dep) ∧ MBox w A w') := hide (fun wx hx => by
    rw [hDep]
    exact (mdecimal_any ep (by omega) wx).mono fun e w' ⟨h1, h2⟩ => ⟨h1, hx.keep h2⟩)
  have CFep : Hid (∀ wx, MBox w A wx → Calls Tryz.prog 22 #[.string Dep] wx fun e w' => e = .returned (.string Fep) ∧ MBox w A w') := hide (fun wx hx => by
    have hz : Dep.size ≤ 1000000 := by rw [← bl_len, hDep]; have := dec_len ep 6 (by omega); show (dec ep).length ≤ _; omega
    have h := mfield_any Dep hz wx
    have e : bl Dep = dec ep := by rw [hDep]
    rw [e, ← hFep] at h
    exact h.mono fun e w' ⟨h1, h2⟩ => ⟨h1, hx.keep h2⟩)
  obtain ⟨G2, hG2⟩ : ∃ G : ByteArray, G = Fk ++ Ff := ⟨_, rfl⟩
  obtain ⟨G3, hG3⟩ : ∃ G : ByteArray, G = G2 ++ Ft := ⟨_, rfl⟩
  obtain ⟨G4, hG4⟩ : ∃ G : ByteArray, G = G3 ++ Fep := ⟨_, rfl⟩
  have zG2 : G2.size ≤ 200 := by rw [hG2, app_size]; omega
  have zG3 : G3.size ≤ 300 := by rw [hG3, app_size]; omega
  have zG4 : G4.size ≤ 400 := by rw [hG4, app_size]; omega
  have aG2 : ∀ w, (Op.stringOp .add Fk Ff).run Tryz.prog w = .ok (.string G2) w := fun w => by rw [hG2]; exact padd_str _ _ (by omega) w
  have aG3 : ∀ w, (Op.stringOp .add G2 Ft).run Tryz.prog w = .ok (.string G3) w := fun w => by rw [hG3]; exact padd_str _ _ (by omega) w
  have aG4 : ∀ w, (Op.stringOp .add G3 Fep).run Tryz.prog w = .ok (.string G4) w := fun w => by rw [hG4]; exact padd_str _ _ (by omega) w
  have HG4 : Hid (bl G4 = flds [dec k, dec f, dec t, dec ep]) := hide (by
    rw [hG4, hG3, hG2, app_bl, app_bl, app_bl, hFk, hFf, hFt, hFep]
    show fld (dec k) ++ fld (dec f) ++ fld (dec t) ++ fld (dec ep) = fld (dec k) ++ (fld (dec f) ++ (fld (dec t) ++ (fld (dec ep) ++ [])))
    simp)
  have HTP : Hid (textM m = bl G4 ++ flds (body m)) := hide (by rw [HG4.out]; exact htp)
  have HLE : Hid ((bl G4).length + (flds (body m)).length ≤ 6000000) := hide (by rw [HTP.out, List.length_append] at hlen; exact hlen)
  clear hlen htp hR ha HG4 zG2 zG3 hkn
  clear hDk hFk hDf hFf hDt hFt hDep hFep hG2 hG3 hG4 zk zf zt zep
  obtain ⟨w1, hw1⟩ : ∃ w1, w1 = w.alloc (.cells A 27) := ⟨_, rfl⟩
  have HN1 : Hid (MBox w A w1) := hide (by rw [hw1]; exact ⟨new_block _ _ _, bel_alloc (Below.refl _ _) _⟩)
  have SK : Hid (∀ wx, MBox w A wx → wx.cell? ⟨w.heap.size, 0, none⟩ = some (.int .i64 (k : Int)) ∧ wx.cell? ⟨w.heap.size, 1, none⟩ = some (.int .i64 (f : Int)) ∧ wx.cell? ⟨w.heap.size, 2, none⟩ = some (.int .i64 (t : Int)) ∧ wx.cell? ⟨w.heap.size, 3, none⟩ = some (.int .i64 (ep : Int)) ∧ wx.cell? ⟨w.heap.size, 4, none⟩ = some (.slice pi ni ci) ∧ wx.cell? ⟨w.heap.size, 5, none⟩ = some (.slice pp np cp) ∧ wx.cell? ⟨w.heap.size, 6, none⟩ = some (.int .i64 m.pol.ep) ∧ wx.cell? ⟨w.heap.size, 7, none⟩ = some (.slice q1 n1 c1) ∧ wx.cell? ⟨w.heap.size, 8, none⟩ = some (.slice q2 n2 c2) ∧ wx.cell? ⟨w.heap.size, 9, none⟩ = some (.slice q3 n3 c3) ∧ wx.cell? ⟨w.heap.size, 10, none⟩ = some (.slice q4 n4 c4) ∧ wx.cell? ⟨w.heap.size, 11, none⟩ = some (.slice q5 n5 c5) ∧ wx.cell? ⟨w.heap.size, 12, none⟩ = some (.int .i64 m.pol.dp) ∧ wx.cell? ⟨w.heap.size, 13, none⟩ = some (.int .i64 m.pol.nd) ∧ wx.cell? ⟨w.heap.size, 14, none⟩ = some (.int .i64 m.pol.bt)) := hide (fun wx h => by
    subst hA
    exact ⟨h.cell 0 _ rfl, h.cell 1 _ rfl, h.cell 2 _ rfl, h.cell 3 _ rfl, h.cell 4 _ rfl, h.cell 5 _ rfl, h.cell 6 _ rfl, h.cell 7 _ rfl, h.cell 8 _ rfl, h.cell 9 _ rfl, h.cell 10 _ rfl, h.cell 11 _ rfl, h.cell 12 _ rfl, h.cell 13 _ rfl, h.cell 14 _ rfl⟩)
  have SN : Hid (∀ wx, MBox w A wx → wx.cell? ⟨w.heap.size, 0, none⟩ = some (.int .i64 (k : Int)) ∧ wx.cell? ⟨w.heap.size, 1, none⟩ = some (.int .i64 (f : Int)) ∧ wx.cell? ⟨w.heap.size, 2, none⟩ = some (.int .i64 (t : Int)) ∧ wx.cell? ⟨w.heap.size, 3, none⟩ = some (.int .i64 (ep : Int)) ∧ Hid (MBox w A wx)) := hide (fun wx h => ⟨(SK.out wx h).1, (SK.out wx h).2.1, (SK.out wx h).2.2.1, (SK.out wx h).2.2.2.1, h⟩)
  have SB : Hid (∀ wx, (wx.cell? ⟨w.heap.size, 0, none⟩ = some (.int .i64 (k : Int)) ∧ wx.cell? ⟨w.heap.size, 1, none⟩ = some (.int .i64 (f : Int)) ∧ wx.cell? ⟨w.heap.size, 2, none⟩ = some (.int .i64 (t : Int)) ∧ wx.cell? ⟨w.heap.size, 3, none⟩ = some (.int .i64 (ep : Int)) ∧ Hid (MBox w A wx)) → MBox w A wx) := hide (fun wx h => h.2.2.2.2)
  rw [hA] at hw1
  clear hA hk hf ht hep
  go_enter Tryz.func12, Tryz.ntmps12
  go_upto_region 1 with fail
  rw [← hw1]
  clear hw1
  obtain ⟨y0, y1, y2, y3, y4, y5, y6, y7, y8, y9, y10, y11, y12, y13, y14⟩ := SK.out _ HN1.out
  go_wp2_with fail
  refine (CR.out _ HN1.out.2).mono ?_
  rintro e w2 ⟨⟨b, rfl, hb⟩, hb2⟩
  have hbt : b = true := hb.2 HR.out
  subst hbt
  have HN2 := hide (HN1.out.keep hb2)
  clear hb hb2 CR HN1 y0 y1 y2 y3 y4 y5 y6 y7 y8 y9 y10 y11 y12 y13 y14
  go_wp2_with fail
  go_region_held3 (fun wx => wx.cell? ⟨w.heap.size, 0, none⟩ = some (.int .i64 (k : Int)) ∧ wx.cell? ⟨w.heap.size, 1, none⟩ = some (.int .i64 (f : Int)) ∧ wx.cell? ⟨w.heap.size, 2, none⟩ = some (.int .i64 (t : Int)) ∧ wx.cell? ⟨w.heap.size, 3, none⟩ = some (.int .i64 (ep : Int)) ∧ Hid (MBox w A wx))
    (first | exact SN.out _ (HN2.out.keep ((Below.refl _ _).drew)) | exact SN.out _ (by assumption))
    (first
      | (go_at_call_of 23 k; refine (CDk.out _ (SB.out _ (by assumption))).mono ?_; rintro e w3 ⟨rfl, hB3⟩)
      | (go_at_call_of 22 Dk; refine (CFk.out _ (SB.out _ (by assumption))).mono ?_; rintro e w3 ⟨rfl, hB3⟩)
      | (go_at_call_of 23 f; refine (CDf.out _ (SB.out _ (by assumption))).mono ?_; rintro e w3 ⟨rfl, hB3⟩)
      | (go_at_call_of 22 Df; refine (CFf.out _ (SB.out _ (by assumption))).mono ?_; rintro e w3 ⟨rfl, hB3⟩)
      | (go_at_call_of 23 t; refine (CDt.out _ (SB.out _ (by assumption))).mono ?_; rintro e w3 ⟨rfl, hB3⟩)
      | (go_at_call_of 22 Dt; refine (CFt.out _ (SB.out _ (by assumption))).mono ?_; rintro e w3 ⟨rfl, hB3⟩)
      | (go_at_call_of 23 ep; refine (CDep.out _ (SB.out _ (by assumption))).mono ?_; rintro e w3 ⟨rfl, hB3⟩)
      | (go_at_call_of 22 Dep; refine (CFep.out _ (SB.out _ (by assumption))).mono ?_; rintro e w3 ⟨rfl, hB3⟩))
  have HN3 := hide (SB.out _ (by assumption))
  clear CDk CFk CDf CFf CDt CFt CDep CFep aG2 aG3 aG4 SN SB HN2
  have hkn := HKN.out
  subst hkn
  obtain ⟨y0, y1, y2, y3, y4, y5, y6, y7, y8, y9, y10, y11, y12, y13, y14⟩ := SK.out _ HN3.out
  have HB : Hid (⟨(textM m).toArray⟩ = G4) := hide (by
    apply ba_ext
    have e : body m = [] := by unfold body; rw [if_neg (by have := HR.out; have := HKK.out; omega), if_neg (by have := HKK.out; omega), if_neg (by have := HKK.out; omega)]
    show textM m = bl G4
    rw [HTP.out, e]
    exact List.append_nil _)
  go_wp2_with fail
  go_ret2
  rw [HB.out]
  exact ⟨rfl, HN3.out.2⟩
end Go.Proofs.YtebcpmgooodmpaaGreatDoor

namespace Go.Proofs.YtebcpmgooodmpaaGreatDoor
open Go.RowKit
open Utf1
open Pol8 hiding text right Right
open Msg15

set_option maxRecDepth 100000 in
set_option maxHeartbeats 32000000 in
theorem mencode_ids (m : Ms) (vi vp v1 v2 v3 v4 v5 : Value) (ids : List ByteArray) (ts : List (ByteArray × ByteArray)) (l1 l2 l3 l4 l5 : List ByteArray) (w : World) (ha : MV w m vi vp v1 v2 v3 v4 v5 ids ts l1 l2 l3 l4 l5) (hR : MRight m) (hkn : m.kind = 1) :
    Calls Tryz.prog 12 #[mval m.kind m.fr m.to m.ep vi vp m.pol v1 v2 v3 v4 v5] w fun e w' => e = .returned (.tuple #[.string ⟨(textM m).toArray⟩, .int .i64 0]) ∧ Below w.heap.size w w' := by
  have hlen := text_len hR
  have htp := textM_parts m
  have k1 := hR.kind
  have k2 := hR.fr
  have k3 := hR.to
  have k4 := hR.ep
  obtain ⟨k, hk⟩ : ∃ k : Nat, m.kind = (k : Int) := ⟨m.kind.toNat, (Int.toNat_of_nonneg (by omega)).symm⟩
  obtain ⟨f, hf⟩ : ∃ k : Nat, m.fr = (k : Int) := ⟨m.fr.toNat, (Int.toNat_of_nonneg (by omega)).symm⟩
  obtain ⟨t, ht⟩ : ∃ k : Nat, m.to = (k : Int) := ⟨m.to.toNat, (Int.toNat_of_nonneg (by omega)).symm⟩
  obtain ⟨ep, hep⟩ : ∃ k : Nat, m.ep = (k : Int) := ⟨m.ep.toNat, (Int.toNat_of_nonneg (by omega)).symm⟩
  rw [hk, hf, ht, hep, Int.toNat_natCast, Int.toNat_natCast, Int.toNat_natCast, Int.toNat_natCast] at htp
  have HKN : Hid (k = 1) := hide (by omega)
  have CR : Hid (∀ wx, Below w.heap.size w wx → Calls Tryz.prog 14 #[mval (k : Int) (f : Int) (t : Int) (ep : Int) vi vp m.pol v1 v2 v3 v4 v5] wx fun e w' => (∃ b : Bool, e = .returned (.bool b) ∧ (b = true ↔ MRight m)) ∧ Below wx.heap.size wx w') := hide (fun wx hx => by
    rw [← hk, ← hf, ← ht, ← hep]
    exact mright_any m.kind m.fr m.to m.ep _ _ ids ts _ _ _ _ _ m.pol l1 l2 l3 l4 l5 wx (ha.hi.below hx) (ha.hp.below hx) (ha.hv.below hx) ha.hf ha.li ha.lp m (by rw [← ha.ei, ← ha.ep]))
  have HR := hide hR
  have HV := hide ha.hi
  have hri := riseI_len hR.rids
  rw [ha.ei, List.length_map] at hri
  have HRI := hide hri
  have HBODY : Hid (body m = dec ids.length :: ids.map bl) := hide (by unfold body; rw [if_pos hkn, ha.ei, List.length_map])
  have hi64 : ids.length ≤ 64 := hri.1
  clear hri
  obtain ⟨pi, ni, ci, rfl⟩ : ∃ q n c, vi = .slice q n c := by obtain ⟨q, c, e, -, -⟩ := ha.hi; exact ⟨_, _, _, e⟩
  obtain ⟨pp, np, cp, rfl⟩ : ∃ q n c, vp = .slice q n c := by obtain ⟨q, c, e, -, -, -⟩ := ha.hp; exact ⟨_, _, _, e⟩
  obtain ⟨q1, n1, c1, rfl⟩ : ∃ q n c, v1 = .slice q n c := by obtain ⟨q, c, e, -, -⟩ := ha.hv.s1; exact ⟨_, _, _, e⟩
  obtain ⟨q2, n2, c2, rfl⟩ : ∃ q n c, v2 = .slice q n c := by obtain ⟨q, c, e, -, -⟩ := ha.hv.s2; exact ⟨_, _, _, e⟩
  obtain ⟨q3, n3, c3, rfl⟩ : ∃ q n c, v3 = .slice q n c := by obtain ⟨q, c, e, -, -⟩ := ha.hv.s3; exact ⟨_, _, _, e⟩
  obtain ⟨q4, n4, c4, rfl⟩ : ∃ q n c, v4 = .slice q n c := by obtain ⟨q, c, e, -, -⟩ := ha.hv.s4; exact ⟨_, _, _, e⟩
  obtain ⟨q5, n5, c5, rfl⟩ : ∃ q n c, v5 = .slice q n c := by obtain ⟨q, c, e, -, -⟩ := ha.hv.s5; exact ⟨_, _, _, e⟩
  obtain ⟨A, hA⟩ : ∃ A : Array Value, A = #[.int .i64 (k : Int), .int .i64 (f : Int), .int .i64 (t : Int), .int .i64 (ep : Int), .slice pi ni ci, .slice pp np cp, .int .i64 m.pol.ep, .slice q1 n1 c1, .slice q2 n2 c2, .slice q3 n3 c3, .slice q4 n4 c4, .slice q5 n5 c5, .int .i64 m.pol.dp, .int .i64 m.pol.nd, .int .i64 m.pol.bt] := ⟨_, rfl⟩
  rw [hk, hf, ht, hep]
  rw [hk] at k1
  rw [hf] at k2
  rw [ht] at k3
  rw [hep] at k4
  obtain ⟨Dk, hDk⟩ : ∃ D : ByteArray, D = ⟨(dec k).toArray⟩ := ⟨_, rfl⟩
  obtain ⟨Fk, hFk⟩ : ∃ F : ByteArray, F = ⟨(fld (dec k)).toArray⟩ := ⟨_, rfl⟩
  have zk : Fk.size ≤ 100 := by
    rw [← bl_len, hFk]
    show (fld (dec k)).length ≤ 100
    have h1 := dec_len k 6 (by omega)
    have h2 := dec_len (dec k).length 6 (by omega)
    unfold fld
    simp
    omega
  have CDk : Hid (∀ wx, MBox w A wx → Calls Tryz.prog 23 #[.int .i64 (k : Int)] wx fun e w' => e = .returned (.string Dk) ∧ MBox w A w') := hide (fun wx hx => by
    rw [hDk]
    exact (mdecimal_any k (by omega) wx).mono fun e w' ⟨h1, h2⟩ => ⟨h1, hx.keep h2⟩)
  have CFk : Hid (∀ wx, MBox w A wx → Calls Tryz.prog 22 #[.string Dk] wx fun e w' => e = .returned (.string Fk) ∧ MBox w A w') := hide (fun wx hx => by
    have hz : Dk.size ≤ 1000000 := by rw [← bl_len, hDk]; have := dec_len k 6 (by omega); show (dec k).length ≤ _; omega
    have h := mfield_any Dk hz wx
    have e : bl Dk = dec k := by rw [hDk]
    rw [e, ← hFk] at h
    exact h.mono fun e w' ⟨h1, h2⟩ => ⟨h1, hx.keep h2⟩)
  obtain ⟨Df, hDf⟩ : ∃ D : ByteArray, D = ⟨(dec f).toArray⟩ := ⟨_, rfl⟩
  obtain ⟨Ff, hFf⟩ : ∃ F : ByteArray, F = ⟨(fld (dec f)).toArray⟩ := ⟨_, rfl⟩
  have zf : Ff.size ≤ 100 := by
    rw [← bl_len, hFf]
    show (fld (dec f)).length ≤ 100
    have h1 := dec_len f 6 (by omega)
    have h2 := dec_len (dec f).length 6 (by omega)
    unfold fld
    simp
    omega
  have CDf : Hid (∀ wx, MBox w A wx → Calls Tryz.prog 23 #[.int .i64 (f : Int)] wx fun e w' => e = .returned (.string Df) ∧ MBox w A w') := hide (fun wx hx => by
    rw [hDf]
    exact (mdecimal_any f (by omega) wx).mono fun e w' ⟨h1, h2⟩ => ⟨h1, hx.keep h2⟩)
  have CFf : Hid (∀ wx, MBox w A wx → Calls Tryz.prog 22 #[.string Df] wx fun e w' => e = .returned (.string Ff) ∧ MBox w A w') := hide (fun wx hx => by
    have hz : Df.size ≤ 1000000 := by rw [← bl_len, hDf]; have := dec_len f 6 (by omega); show (dec f).length ≤ _; omega
    have h := mfield_any Df hz wx
    have e : bl Df = dec f := by rw [hDf]
    rw [e, ← hFf] at h
    exact h.mono fun e w' ⟨h1, h2⟩ => ⟨h1, hx.keep h2⟩)
  obtain ⟨Dt, hDt⟩ : ∃ D : ByteArray, D = ⟨(dec t).toArray⟩ := ⟨_, rfl⟩
  obtain ⟨Ft, hFt⟩ : ∃ F : ByteArray, F = ⟨(fld (dec t)).toArray⟩ := ⟨_, rfl⟩
  have zt : Ft.size ≤ 100 := by
    rw [← bl_len, hFt]
    show (fld (dec t)).length ≤ 100
    have h1 := dec_len t 6 (by omega)
    have h2 := dec_len (dec t).length 6 (by omega)
    unfold fld
    simp
    omega
  have CDt : Hid (∀ wx, MBox w A wx → Calls Tryz.prog 23 #[.int .i64 (t : Int)] wx fun e w' => e = .returned (.string Dt) ∧ MBox w A w') := hide (fun wx hx => by
    rw [hDt]
    exact (mdecimal_any t (by omega) wx).mono fun e w' ⟨h1, h2⟩ => ⟨h1, hx.keep h2⟩)
  have CFt : Hid (∀ wx, MBox w A wx → Calls Tryz.prog 22 #[.string Dt] wx fun e w' => e = .returned (.string Ft) ∧ MBox w A w') := hide (fun wx hx => by
    have hz : Dt.size ≤ 1000000 := by rw [← bl_len, hDt]; have := dec_len t 6 (by omega); show (dec t).length ≤ _; omega
    have h := mfield_any Dt hz wx
    have e : bl Dt = dec t := by rw [hDt]
    rw [e, ← hFt] at h
    exact h.mono fun e w' ⟨h1, h2⟩ => ⟨h1, hx.keep h2⟩)
  obtain ⟨Dep, hDep⟩ : ∃ D : ByteArray, D = ⟨(dec ep).toArray⟩ := ⟨_, rfl⟩
  obtain ⟨Fep, hFep⟩ : ∃ F : ByteArray, F = ⟨(fld (dec ep)).toArray⟩ := ⟨_, rfl⟩
  have zep : Fep.size ≤ 100 := by
    rw [← bl_len, hFep]
    show (fld (dec ep)).length ≤ 100
    have h1 := dec_len ep 6 (by omega)
    have h2 := dec_len (dec ep).length 6 (by omega)
    unfold fld
    simp
    omega
  have CDep : Hid (∀ wx, MBox w A wx → Calls Tryz.prog 23 #[.int .i64 (ep : Int)] wx fun e w' => e = .returned (.string Dep) ∧ MBox w A w') := hide (fun wx hx => by
    rw [hDep]
    exact (mdecimal_any ep (by omega) wx).mono fun e w' ⟨h1, h2⟩ => ⟨h1, hx.keep h2⟩)
  have CFep : Hid (∀ wx, MBox w A wx → Calls Tryz.prog 22 #[.string Dep] wx fun e w' => e = .returned (.string Fep) ∧ MBox w A w') := hide (fun wx hx => by
    have hz : Dep.size ≤ 1000000 := by rw [← bl_len, hDep]; have := dec_len ep 6 (by omega); show (dec ep).length ≤ _; omega
    have h := mfield_any Dep hz wx
    have e : bl Dep = dec ep := by rw [hDep]
    rw [e, ← hFep] at h
    exact h.mono fun e w' ⟨h1, h2⟩ => ⟨h1, hx.keep h2⟩)
  obtain ⟨G2, hG2⟩ : ∃ G : ByteArray, G = Fk ++ Ff := ⟨_, rfl⟩
  obtain ⟨G3, hG3⟩ : ∃ G : ByteArray, G = G2 ++ Ft := ⟨_, rfl⟩
  obtain ⟨G4, hG4⟩ : ∃ G : ByteArray, G = G3 ++ Fep := ⟨_, rfl⟩
  have zG2 : G2.size ≤ 200 := by rw [hG2, app_size]; omega
  have zG3 : G3.size ≤ 300 := by rw [hG3, app_size]; omega
  have zG4 : G4.size ≤ 400 := by rw [hG4, app_size]; omega
  have aG2 : ∀ w, (Op.stringOp .add Fk Ff).run Tryz.prog w = .ok (.string G2) w := fun w => by rw [hG2]; exact padd_str _ _ (by omega) w
  have aG3 : ∀ w, (Op.stringOp .add G2 Ft).run Tryz.prog w = .ok (.string G3) w := fun w => by rw [hG3]; exact padd_str _ _ (by omega) w
  have aG4 : ∀ w, (Op.stringOp .add G3 Fep).run Tryz.prog w = .ok (.string G4) w := fun w => by rw [hG4]; exact padd_str _ _ (by omega) w
  have HG4 : Hid (bl G4 = flds [dec k, dec f, dec t, dec ep]) := hide (by
    rw [hG4, hG3, hG2, app_bl, app_bl, app_bl, hFk, hFf, hFt, hFep]
    show fld (dec k) ++ fld (dec f) ++ fld (dec t) ++ fld (dec ep) = fld (dec k) ++ (fld (dec f) ++ (fld (dec t) ++ (fld (dec ep) ++ [])))
    simp)
  have HTP : Hid (textM m = bl G4 ++ flds (body m)) := hide (by rw [HG4.out]; exact htp)
  have HLE : Hid ((bl G4).length + (flds (body m)).length ≤ 6000000) := hide (by rw [HTP.out, List.length_append] at hlen; exact hlen)
  clear hlen htp hR ha HG4 zG2 zG3 hkn
  clear hDk hFk hDf hFf hDt hFt hDep hFep hG2 hG3 hG4 zk zf zt zep
  obtain ⟨w1, hw1⟩ : ∃ w1, w1 = w.alloc (.cells A 27) := ⟨_, rfl⟩
  have HN1 : Hid (MBox w A w1) := hide (by rw [hw1]; exact ⟨new_block _ _ _, bel_alloc (Below.refl _ _) _⟩)
  have SK : Hid (∀ wx, MBox w A wx → wx.cell? ⟨w.heap.size, 0, none⟩ = some (.int .i64 (k : Int)) ∧ wx.cell? ⟨w.heap.size, 1, none⟩ = some (.int .i64 (f : Int)) ∧ wx.cell? ⟨w.heap.size, 2, none⟩ = some (.int .i64 (t : Int)) ∧ wx.cell? ⟨w.heap.size, 3, none⟩ = some (.int .i64 (ep : Int)) ∧ wx.cell? ⟨w.heap.size, 4, none⟩ = some (.slice pi ni ci) ∧ wx.cell? ⟨w.heap.size, 5, none⟩ = some (.slice pp np cp) ∧ wx.cell? ⟨w.heap.size, 6, none⟩ = some (.int .i64 m.pol.ep) ∧ wx.cell? ⟨w.heap.size, 7, none⟩ = some (.slice q1 n1 c1) ∧ wx.cell? ⟨w.heap.size, 8, none⟩ = some (.slice q2 n2 c2) ∧ wx.cell? ⟨w.heap.size, 9, none⟩ = some (.slice q3 n3 c3) ∧ wx.cell? ⟨w.heap.size, 10, none⟩ = some (.slice q4 n4 c4) ∧ wx.cell? ⟨w.heap.size, 11, none⟩ = some (.slice q5 n5 c5) ∧ wx.cell? ⟨w.heap.size, 12, none⟩ = some (.int .i64 m.pol.dp) ∧ wx.cell? ⟨w.heap.size, 13, none⟩ = some (.int .i64 m.pol.nd) ∧ wx.cell? ⟨w.heap.size, 14, none⟩ = some (.int .i64 m.pol.bt)) := hide (fun wx h => by
    subst hA
    exact ⟨h.cell 0 _ rfl, h.cell 1 _ rfl, h.cell 2 _ rfl, h.cell 3 _ rfl, h.cell 4 _ rfl, h.cell 5 _ rfl, h.cell 6 _ rfl, h.cell 7 _ rfl, h.cell 8 _ rfl, h.cell 9 _ rfl, h.cell 10 _ rfl, h.cell 11 _ rfl, h.cell 12 _ rfl, h.cell 13 _ rfl, h.cell 14 _ rfl⟩)
  have SN : Hid (∀ wx, MBox w A wx → wx.cell? ⟨w.heap.size, 0, none⟩ = some (.int .i64 (k : Int)) ∧ wx.cell? ⟨w.heap.size, 1, none⟩ = some (.int .i64 (f : Int)) ∧ wx.cell? ⟨w.heap.size, 2, none⟩ = some (.int .i64 (t : Int)) ∧ wx.cell? ⟨w.heap.size, 3, none⟩ = some (.int .i64 (ep : Int)) ∧ Hid (MBox w A wx)) := hide (fun wx h => ⟨(SK.out wx h).1, (SK.out wx h).2.1, (SK.out wx h).2.2.1, (SK.out wx h).2.2.2.1, h⟩)
  have SB : Hid (∀ wx, (wx.cell? ⟨w.heap.size, 0, none⟩ = some (.int .i64 (k : Int)) ∧ wx.cell? ⟨w.heap.size, 1, none⟩ = some (.int .i64 (f : Int)) ∧ wx.cell? ⟨w.heap.size, 2, none⟩ = some (.int .i64 (t : Int)) ∧ wx.cell? ⟨w.heap.size, 3, none⟩ = some (.int .i64 (ep : Int)) ∧ Hid (MBox w A wx)) → MBox w A wx) := hide (fun wx h => h.2.2.2.2)
  rw [hA] at hw1
  clear hA hk hf ht hep
  go_enter Tryz.func12, Tryz.ntmps12
  go_upto_region 1 with fail
  rw [← hw1]
  clear hw1
  obtain ⟨y0, y1, y2, y3, y4, y5, y6, y7, y8, y9, y10, y11, y12, y13, y14⟩ := SK.out _ HN1.out
  go_wp2_with fail
  refine (CR.out _ HN1.out.2).mono ?_
  rintro e w2 ⟨⟨b, rfl, hb⟩, hb2⟩
  have hbt : b = true := hb.2 HR.out
  subst hbt
  have HN2 := hide (HN1.out.keep hb2)
  clear hb hb2 CR HN1 y0 y1 y2 y3 y4 y5 y6 y7 y8 y9 y10 y11 y12 y13 y14
  go_wp2_with fail
  go_region_held3 (fun wx => wx.cell? ⟨w.heap.size, 0, none⟩ = some (.int .i64 (k : Int)) ∧ wx.cell? ⟨w.heap.size, 1, none⟩ = some (.int .i64 (f : Int)) ∧ wx.cell? ⟨w.heap.size, 2, none⟩ = some (.int .i64 (t : Int)) ∧ wx.cell? ⟨w.heap.size, 3, none⟩ = some (.int .i64 (ep : Int)) ∧ Hid (MBox w A wx))
    (first | exact SN.out _ (HN2.out.keep ((Below.refl _ _).drew)) | exact SN.out _ (by assumption))
    (first
      | (go_at_call_of 23 k; refine (CDk.out _ (SB.out _ (by assumption))).mono ?_; rintro e w3 ⟨rfl, hB3⟩)
      | (go_at_call_of 22 Dk; refine (CFk.out _ (SB.out _ (by assumption))).mono ?_; rintro e w3 ⟨rfl, hB3⟩)
      | (go_at_call_of 23 f; refine (CDf.out _ (SB.out _ (by assumption))).mono ?_; rintro e w3 ⟨rfl, hB3⟩)
      | (go_at_call_of 22 Df; refine (CFf.out _ (SB.out _ (by assumption))).mono ?_; rintro e w3 ⟨rfl, hB3⟩)
      | (go_at_call_of 23 t; refine (CDt.out _ (SB.out _ (by assumption))).mono ?_; rintro e w3 ⟨rfl, hB3⟩)
      | (go_at_call_of 22 Dt; refine (CFt.out _ (SB.out _ (by assumption))).mono ?_; rintro e w3 ⟨rfl, hB3⟩)
      | (go_at_call_of 23 ep; refine (CDep.out _ (SB.out _ (by assumption))).mono ?_; rintro e w3 ⟨rfl, hB3⟩)
      | (go_at_call_of 22 Dep; refine (CFep.out _ (SB.out _ (by assumption))).mono ?_; rintro e w3 ⟨rfl, hB3⟩))
  have HN3 := hide (SB.out _ (by assumption))
  clear CDk CFk CDf CFf CDt CFt CDep CFep aG2 aG3 aG4 SN SB HN2
  have hkn := HKN.out
  subst hkn
  have hni : ni = ids.length := by
    obtain ⟨p', cap', e, -, -⟩ := HV.out
    injection e
  subst hni
  obtain ⟨N, hN⟩ : ∃ N, N = ids.length := ⟨_, rfl⟩
  rw [← hN] at HV HBODY hi64 SK ⊢
  have HNN := hide hN
  clear hN
  obtain ⟨DN, hDN⟩ : ∃ D : ByteArray, D = ⟨(dec N).toArray⟩ := ⟨_, rfl⟩
  obtain ⟨FN, hFN⟩ : ∃ F : ByteArray, F = ⟨(fld (dec N)).toArray⟩ := ⟨_, rfl⟩
  have zFN : FN.size ≤ 100 := by
    rw [← bl_len, hFN]
    show (fld (dec N)).length ≤ 100
    have h1 := dec_len N 6 (by omega)
    have h2 := dec_len (dec N).length 6 (by omega)
    unfold fld
    simp
    omega
  have CDN := hide (mdecimal_any N (by omega))
  have CFN : Hid (∀ wx, Calls Tryz.prog 22 #[.string DN] wx fun e w' => e = .returned (.string FN) ∧ Below wx.heap.size wx w') := hide (fun wx => by
    have h := mfield_any DN (by rw [← bl_len, hDN]; have := dec_len N 6 (by omega); show (dec N).length ≤ _; omega) wx
    have e : bl DN = dec N := by rw [hDN]
    rw [e, ← hFN] at h
    exact h)
  rw [← hDN] at CDN
  have bFN : bl FN = fld (dec N) := by rw [hFN]
  have aFN : ∀ w, (Op.stringOp .add G4 FN).run Tryz.prog w = .ok (.string (G4 ++ FN)) w := fun w => padd_str _ _ (by omega) w
  have zGN : (G4 ++ FN).size ≤ 500 := by rw [app_size]; omega
  have HGN : Hid (bl (G4 ++ FN) = bl G4 ++ fld (dec N)) := hide (by rw [app_bl, bFN])
  clear hDN hFN bFN
  have HB6 : Hid (bl (G4 ++ FN) ++ flds (ids.map bl) = textM m) := hide (by
    rw [HTP.out, HBODY.out, HGN.out, List.append_assoc]
    rfl)
  have HL6 : Hid ((bl (G4 ++ FN)).length + (flds (ids.map bl)).length ≤ 6000000) := hide (by
    have h := HLE.out
    have e : flds (dec N :: ids.map bl) = fld (dec N) ++ flds (ids.map bl) := rfl
    rw [HBODY.out, e, List.length_append] at h
    rw [HGN.out, List.length_append]
    omega)
  clear HTP HLE HBODY
  obtain ⟨S0, hS0⟩ : ∃ S0, S0 = G4 ++ FN := ⟨_, rfl⟩
  rw [← hS0] at aFN zGN HB6 HL6
  clear hS0 HGN
  obtain ⟨y0, y1, y2, y3, y4, y5, y6, y7, y8, y9, y10, y11, y12, y13, y14⟩ := SK.out _ HN3.out
  go_wp2_with fail
  refine (CDN.out _).mono ?_
  rintro e w4 ⟨rfl, hb4⟩
  have HN4 := hide (HN3.out.keep hb4)
  clear hb4 CDN HN3 y0 y1 y2 y3 y4 y5 y6 y7 y8 y9 y10 y11 y12 y13 y14
  go_wp2_with fail
  refine (CFN.out _).mono ?_
  rintro e w5 ⟨rfl, hb5⟩
  have HN5 := hide (HN4.out.keep hb5)
  clear hb5 CFN HN4
  go_wp2_with fail
  clear aFN zFN zG4
  go_loopg [4, 5] N (fun g v4 v5 wr => ∃ (i : Nat) (S : ByteArray), i + g = N ∧ v5 = .int .i64 (i : Int) ∧ v4 = .string S ∧ S.size ≤ 6000000 ∧ Hid (MBox w A wr ∧ bl S = bl S0 ++ flds ((ids.map bl).take i)))
  case atStart => exact ⟨0, S0, by omega, rfl, rfl, by omega, hide ⟨HN5.out, by rw [List.take_zero]; exact (List.append_nil _).symm⟩⟩
  case round =>
    obtain ⟨i, S, hig, rfl, rfl, hSz, HI⟩ := hrel
    obtain ⟨-, -, -, -, y4, -⟩ := SK.out _ HI.out.1
    by_cases hlt : i < N
    · have dlt : decide ((i : Int) < (N : Int)) = true := decide_eq_true (by omega)
      have dlt2 : decide (i < N) = true := decide_eq_true hlt
      obtain ⟨x, hx⟩ : ∃ x, ids[i]? = some x := ⟨_, List.getElem?_eq_getElem (by rw [← HNN.out]; exact hlt)⟩
      obtain ⟨bb, off, rfl, cx⟩ : ∃ b off, pi = some ⟨b, off, none⟩ ∧ wr.cell? ⟨b, off + i, none⟩ = some (.string x) := by
        obtain ⟨p', cap', e, -, hc⟩ := HV.out.below HI.out.1.2
        injection e with e1 e2 e3
        obtain ⟨b, off, e4, h⟩ := hc i x hx
        exact ⟨b, off, e1.trans e4, h⟩
      have hxs : x.size ≤ 16 := by
        have h := HRI.out.2 (bl x) (List.mem_map_of_mem (List.mem_of_getElem? hx))
        rw [bl_len] at h
        exact h
      obtain ⟨FX, hFX⟩ : ∃ F : ByteArray, F = ⟨(fld (bl x)).toArray⟩ := ⟨_, rfl⟩
      have CX := hide (mfield_any x (by omega))
      rw [← hFX] at CX
      have bS2 : bl (S ++ FX) = bl S0 ++ flds ((ids.map bl).take (i + 1)) := by
        rw [app_bl, HI.out.2, hFX, List.append_assoc, flds_take_step (x := bl x) (by rw [List.getElem?_map, hx]; rfl)]
      have zS2 : (S ++ FX).size ≤ 6000000 := by
        rw [← bl_len, bS2, List.length_append]
        have h1 := flds_take_le (ids.map bl) (i + 1)
        have h2 := HL6.out
        omega
      have aS2 : ∀ w, (Op.stringOp .add S FX).run Tryz.prog w = .ok (.string (S ++ FX)) w := fun w => padd_str _ _ (by rw [app_size] at zS2; omega) w
      have HS2 := hide bS2
      have HB := hide HI.out.1
      clear bS2 hFX hx HI hSz
      obtain ⟨S2, hS2⟩ : ∃ S2, S2 = S ++ FX := ⟨_, rfl⟩
      rw [← hS2] at aS2 zS2 HS2
      clear hS2
      go_wp2_with fail
      refine (CX.out _).mono ?_
      rintro e w6 ⟨rfl, hb6⟩
      have HB6' := hide (HB.out.keep hb6)
      clear hb6 CX HB y4 cx
      go_wp2_with fail
      go_roundg (N - (i + 1))
      case measure => omega
      case rel => exact ⟨i + 1, S2, by omega, by first | rfl | simp, rfl, zS2, hide ⟨HB6'.out, HS2.out⟩⟩
    · have dlt : decide ((i : Int) < (N : Int)) = false := decide_eq_false (by omega)
      have dlt2 : decide (i < N) = false := decide_eq_false hlt
      have HE : Hid (⟨(textM m).toArray⟩ = S) := hide (by
        apply ba_ext
        show textM m = bl S
        rw [HI.out.2, List.take_of_length_le (by rw [List.length_map, ← HNN.out]; omega), HB6.out])
      have HB := hide HI.out.1
      clear HI hlt hig
      go_wp2_with fail
      go_ret2
      rw [HE.out]
      exact ⟨rfl, HB.out.2⟩
end Go.Proofs.YtebcpmgooodmpaaGreatDoor

namespace Go.Proofs.YtebcpmgooodmpaaGreatDoor
open Go.RowKit
open Utf1
open Pol8 hiding text right Right
open Msg15

set_option maxRecDepth 100000 in
set_option maxHeartbeats 32000000 in
theorem mencode_posts (m : Ms) (vi vp v1 v2 v3 v4 v5 : Value) (ids : List ByteArray) (ts : List (ByteArray × ByteArray)) (l1 l2 l3 l4 l5 : List ByteArray) (w : World) (ha : MV w m vi vp v1 v2 v3 v4 v5 ids ts l1 l2 l3 l4 l5) (hR : MRight m) (hkn : m.kind = 2) :
    Calls Tryz.prog 12 #[mval m.kind m.fr m.to m.ep vi vp m.pol v1 v2 v3 v4 v5] w fun e w' => e = .returned (.tuple #[.string ⟨(textM m).toArray⟩, .int .i64 0]) ∧ Below w.heap.size w w' := by
  have hlen := text_len hR
  have htp := textM_parts m
  have k1 := hR.kind
  have k2 := hR.fr
  have k3 := hR.to
  have k4 := hR.ep
  obtain ⟨k, hk⟩ : ∃ k : Nat, m.kind = (k : Int) := ⟨m.kind.toNat, (Int.toNat_of_nonneg (by omega)).symm⟩
  obtain ⟨f, hf⟩ : ∃ k : Nat, m.fr = (k : Int) := ⟨m.fr.toNat, (Int.toNat_of_nonneg (by omega)).symm⟩
  obtain ⟨t, ht⟩ : ∃ k : Nat, m.to = (k : Int) := ⟨m.to.toNat, (Int.toNat_of_nonneg (by omega)).symm⟩
  obtain ⟨ep, hep⟩ : ∃ k : Nat, m.ep = (k : Int) := ⟨m.ep.toNat, (Int.toNat_of_nonneg (by omega)).symm⟩
  rw [hk, hf, ht, hep, Int.toNat_natCast, Int.toNat_natCast, Int.toNat_natCast, Int.toNat_natCast] at htp
  have HKN : Hid (k = 2) := hide (by omega)
  have CR : Hid (∀ wx, Below w.heap.size w wx → Calls Tryz.prog 14 #[mval (k : Int) (f : Int) (t : Int) (ep : Int) vi vp m.pol v1 v2 v3 v4 v5] wx fun e w' => (∃ b : Bool, e = .returned (.bool b) ∧ (b = true ↔ MRight m)) ∧ Below wx.heap.size wx w') := hide (fun wx hx => by
    rw [← hk, ← hf, ← ht, ← hep]
    exact mright_any m.kind m.fr m.to m.ep _ _ ids ts _ _ _ _ _ m.pol l1 l2 l3 l4 l5 wx (ha.hi.below hx) (ha.hp.below hx) (ha.hv.below hx) ha.hf ha.li ha.lp m (by rw [← ha.ei, ← ha.ep]))
  have HR := hide hR
  have HV := hide ha.hp
  have hri := riseI_len hR.rposts
  have hrw := hR.raws
  rw [ha.ep, List.map_map, List.length_map] at hri
  rw [ha.ep] at hrw
  have HRI : Hid (∀ x y, (x, y) ∈ ts → x.size ≤ 16 ∧ y.size ≤ 2000) := hide (fun x y h => by
    have h1 := hri.2 (bl x) (List.mem_map.2 ⟨(x, y), h, rfl⟩)
    have h2 := hrw (bl x, bl y) (List.mem_map.2 ⟨(x, y), h, rfl⟩)
    have h3 : (bl y).length ≤ 2000 := h2
    rw [bl_len] at h1 h3
    exact ⟨h1, h3⟩)
  have HBODY : Hid (body m = dec ts.length :: two (ts.map (fun x => (bl x.1, bl x.2)))) := hide (by unfold body; rw [if_neg (by omega), if_pos hkn, ha.ep, List.length_map])
  have hi64 : ts.length ≤ 64 := hri.1
  clear hri hrw
  obtain ⟨pi, ni, ci, rfl⟩ : ∃ q n c, vi = .slice q n c := by obtain ⟨q, c, e, -, -⟩ := ha.hi; exact ⟨_, _, _, e⟩
  obtain ⟨pp, np, cp, rfl⟩ : ∃ q n c, vp = .slice q n c := by obtain ⟨q, c, e, -, -, -⟩ := ha.hp; exact ⟨_, _, _, e⟩
  obtain ⟨q1, n1, c1, rfl⟩ : ∃ q n c, v1 = .slice q n c := by obtain ⟨q, c, e, -, -⟩ := ha.hv.s1; exact ⟨_, _, _, e⟩
  obtain ⟨q2, n2, c2, rfl⟩ : ∃ q n c, v2 = .slice q n c := by obtain ⟨q, c, e, -, -⟩ := ha.hv.s2; exact ⟨_, _, _, e⟩
  obtain ⟨q3, n3, c3, rfl⟩ : ∃ q n c, v3 = .slice q n c := by obtain ⟨q, c, e, -, -⟩ := ha.hv.s3; exact ⟨_, _, _, e⟩
  obtain ⟨q4, n4, c4, rfl⟩ : ∃ q n c, v4 = .slice q n c := by obtain ⟨q, c, e, -, -⟩ := ha.hv.s4; exact ⟨_, _, _, e⟩
  obtain ⟨q5, n5, c5, rfl⟩ : ∃ q n c, v5 = .slice q n c := by obtain ⟨q, c, e, -, -⟩ := ha.hv.s5; exact ⟨_, _, _, e⟩
  obtain ⟨A, hA⟩ : ∃ A : Array Value, A = #[.int .i64 (k : Int), .int .i64 (f : Int), .int .i64 (t : Int), .int .i64 (ep : Int), .slice pi ni ci, .slice pp np cp, .int .i64 m.pol.ep, .slice q1 n1 c1, .slice q2 n2 c2, .slice q3 n3 c3, .slice q4 n4 c4, .slice q5 n5 c5, .int .i64 m.pol.dp, .int .i64 m.pol.nd, .int .i64 m.pol.bt] := ⟨_, rfl⟩
  rw [hk, hf, ht, hep]
  rw [hk] at k1
  rw [hf] at k2
  rw [ht] at k3
  rw [hep] at k4
  obtain ⟨Dk, hDk⟩ : ∃ D : ByteArray, D = ⟨(dec k).toArray⟩ := ⟨_, rfl⟩
  obtain ⟨Fk, hFk⟩ : ∃ F : ByteArray, F = ⟨(fld (dec k)).toArray⟩ := ⟨_, rfl⟩
  have zk : Fk.size ≤ 100 := by
    rw [← bl_len, hFk]
    show (fld (dec k)).length ≤ 100
    have h1 := dec_len k 6 (by omega)
    have h2 := dec_len (dec k).length 6 (by omega)
    unfold fld
    simp
    omega
  have CDk : Hid (∀ wx, MBox w A wx → Calls Tryz.prog 23 #[.int .i64 (k : Int)] wx fun e w' => e = .returned (.string Dk) ∧ MBox w A w') := hide (fun wx hx => by
    rw [hDk]
    exact (mdecimal_any k (by omega) wx).mono fun e w' ⟨h1, h2⟩ => ⟨h1, hx.keep h2⟩)
  have CFk : Hid (∀ wx, MBox w A wx → Calls Tryz.prog 22 #[.string Dk] wx fun e w' => e = .returned (.string Fk) ∧ MBox w A w') := hide (fun wx hx => by
    have hz : Dk.size ≤ 1000000 := by rw [← bl_len, hDk]; have := dec_len k 6 (by omega); show (dec k).length ≤ _; omega
    have h := mfield_any Dk hz wx
    have e : bl Dk = dec k := by rw [hDk]
    rw [e, ← hFk] at h
    exact h.mono fun e w' ⟨h1, h2⟩ => ⟨h1, hx.keep h2⟩)
  obtain ⟨Df, hDf⟩ : ∃ D : ByteArray, D = ⟨(dec f).toArray⟩ := ⟨_, rfl⟩
  obtain ⟨Ff, hFf⟩ : ∃ F : ByteArray, F = ⟨(fld (dec f)).toArray⟩ := ⟨_, rfl⟩
  have zf : Ff.size ≤ 100 := by
    rw [← bl_len, hFf]
    show (fld (dec f)).length ≤ 100
    have h1 := dec_len f 6 (by omega)
    have h2 := dec_len (dec f).length 6 (by omega)
    unfold fld
    simp
    omega
  have CDf : Hid (∀ wx, MBox w A wx → Calls Tryz.prog 23 #[.int .i64 (f : Int)] wx fun e w' => e = .returned (.string Df) ∧ MBox w A w') := hide (fun wx hx => by
    rw [hDf]
    exact (mdecimal_any f (by omega) wx).mono fun e w' ⟨h1, h2⟩ => ⟨h1, hx.keep h2⟩)
  have CFf : Hid (∀ wx, MBox w A wx → Calls Tryz.prog 22 #[.string Df] wx fun e w' => e = .returned (.string Ff) ∧ MBox w A w') := hide (fun wx hx => by
    have hz : Df.size ≤ 1000000 := by rw [← bl_len, hDf]; have := dec_len f 6 (by omega); show (dec f).length ≤ _; omega
    have h := mfield_any Df hz wx
    have e : bl Df = dec f := by rw [hDf]
    rw [e, ← hFf] at h
    exact h.mono fun e w' ⟨h1, h2⟩ => ⟨h1, hx.keep h2⟩)
  obtain ⟨Dt, hDt⟩ : ∃ D : ByteArray, D = ⟨(dec t).toArray⟩ := ⟨_, rfl⟩
  obtain ⟨Ft, hFt⟩ : ∃ F : ByteArray, F = ⟨(fld (dec t)).toArray⟩ := ⟨_, rfl⟩
  have zt : Ft.size ≤ 100 := by
    rw [← bl_len, hFt]
    show (fld (dec t)).length ≤ 100
    have h1 := dec_len t 6 (by omega)
    have h2 := dec_len (dec t).length 6 (by omega)
    unfold fld
    simp
    omega
  have CDt : Hid (∀ wx, MBox w A wx → Calls Tryz.prog 23 #[.int .i64 (t : Int)] wx fun e w' => e = .returned (.string Dt) ∧ MBox w A w') := hide (fun wx hx => by
    rw [hDt]
    exact (mdecimal_any t (by omega) wx).mono fun e w' ⟨h1, h2⟩ => ⟨h1, hx.keep h2⟩)
  have CFt : Hid (∀ wx, MBox w A wx → Calls Tryz.prog 22 #[.string Dt] wx fun e w' => e = .returned (.string Ft) ∧ MBox w A w') := hide (fun wx hx => by
    have hz : Dt.size ≤ 1000000 := by rw [← bl_len, hDt]; have := dec_len t 6 (by omega); show (dec t).length ≤ _; omega
    have h := mfield_any Dt hz wx
    have e : bl Dt = dec t := by rw [hDt]
    rw [e, ← hFt] at h
    exact h.mono fun e w' ⟨h1, h2⟩ => ⟨h1, hx.keep h2⟩)
  obtain ⟨Dep, hDep⟩ : ∃ D : ByteArray, D = ⟨(dec ep).toArray⟩ := ⟨_, rfl⟩
  obtain ⟨Fep, hFep⟩ : ∃ F : ByteArray, F = ⟨(fld (dec ep)).toArray⟩ := ⟨_, rfl⟩
  have zep : Fep.size ≤ 100 := by
    rw [← bl_len, hFep]
    show (fld (dec ep)).length ≤ 100
    have h1 := dec_len ep 6 (by omega)
    have h2 := dec_len (dec ep).length 6 (by omega)
    unfold fld
    simp
    omega
  have CDep : Hid (∀ wx, MBox w A wx → Calls Tryz.prog 23 #[.int .i64 (ep : Int)] wx fun e w' => e = .returned (.string Dep) ∧ MBox w A w') := hide (fun wx hx => by
    rw [hDep]
    exact (mdecimal_any ep (by omega) wx).mono fun e w' ⟨h1, h2⟩ => ⟨h1, hx.keep h2⟩)
  have CFep : Hid (∀ wx, MBox w A wx → Calls Tryz.prog 22 #[.string Dep] wx fun e w' => e = .returned (.string Fep) ∧ MBox w A w') := hide (fun wx hx => by
    have hz : Dep.size ≤ 1000000 := by rw [← bl_len, hDep]; have := dec_len ep 6 (by omega); show (dec ep).length ≤ _; omega
    have h := mfield_any Dep hz wx
    have e : bl Dep = dec ep := by rw [hDep]
    rw [e, ← hFep] at h
    exact h.mono fun e w' ⟨h1, h2⟩ => ⟨h1, hx.keep h2⟩)
  obtain ⟨G2, hG2⟩ : ∃ G : ByteArray, G = Fk ++ Ff := ⟨_, rfl⟩
  obtain ⟨G3, hG3⟩ : ∃ G : ByteArray, G = G2 ++ Ft := ⟨_, rfl⟩
  obtain ⟨G4, hG4⟩ : ∃ G : ByteArray, G = G3 ++ Fep := ⟨_, rfl⟩
  have zG2 : G2.size ≤ 200 := by rw [hG2, app_size]; omega
  have zG3 : G3.size ≤ 300 := by rw [hG3, app_size]; omega
  have zG4 : G4.size ≤ 400 := by rw [hG4, app_size]; omega
  have aG2 : ∀ w, (Op.stringOp .add Fk Ff).run Tryz.prog w = .ok (.string G2) w := fun w => by rw [hG2]; exact padd_str _ _ (by omega) w
  have aG3 : ∀ w, (Op.stringOp .add G2 Ft).run Tryz.prog w = .ok (.string G3) w := fun w => by rw [hG3]; exact padd_str _ _ (by omega) w
  have aG4 : ∀ w, (Op.stringOp .add G3 Fep).run Tryz.prog w = .ok (.string G4) w := fun w => by rw [hG4]; exact padd_str _ _ (by omega) w
  have HG4 : Hid (bl G4 = flds [dec k, dec f, dec t, dec ep]) := hide (by
    rw [hG4, hG3, hG2, app_bl, app_bl, app_bl, hFk, hFf, hFt, hFep]
    show fld (dec k) ++ fld (dec f) ++ fld (dec t) ++ fld (dec ep) = fld (dec k) ++ (fld (dec f) ++ (fld (dec t) ++ (fld (dec ep) ++ [])))
    simp)
  have HTP : Hid (textM m = bl G4 ++ flds (body m)) := hide (by rw [HG4.out]; exact htp)
  have HLE : Hid ((bl G4).length + (flds (body m)).length ≤ 6000000) := hide (by rw [HTP.out, List.length_append] at hlen; exact hlen)
  clear hlen htp hR ha HG4 zG2 zG3 hkn
  clear hDk hFk hDf hFf hDt hFt hDep hFep hG2 hG3 hG4 zk zf zt zep
  obtain ⟨w1, hw1⟩ : ∃ w1, w1 = w.alloc (.cells A 27) := ⟨_, rfl⟩
  have HN1 : Hid (MBox w A w1) := hide (by rw [hw1]; exact ⟨new_block _ _ _, bel_alloc (Below.refl _ _) _⟩)
  have SK : Hid (∀ wx, MBox w A wx → wx.cell? ⟨w.heap.size, 0, none⟩ = some (.int .i64 (k : Int)) ∧ wx.cell? ⟨w.heap.size, 1, none⟩ = some (.int .i64 (f : Int)) ∧ wx.cell? ⟨w.heap.size, 2, none⟩ = some (.int .i64 (t : Int)) ∧ wx.cell? ⟨w.heap.size, 3, none⟩ = some (.int .i64 (ep : Int)) ∧ wx.cell? ⟨w.heap.size, 4, none⟩ = some (.slice pi ni ci) ∧ wx.cell? ⟨w.heap.size, 5, none⟩ = some (.slice pp np cp) ∧ wx.cell? ⟨w.heap.size, 6, none⟩ = some (.int .i64 m.pol.ep) ∧ wx.cell? ⟨w.heap.size, 7, none⟩ = some (.slice q1 n1 c1) ∧ wx.cell? ⟨w.heap.size, 8, none⟩ = some (.slice q2 n2 c2) ∧ wx.cell? ⟨w.heap.size, 9, none⟩ = some (.slice q3 n3 c3) ∧ wx.cell? ⟨w.heap.size, 10, none⟩ = some (.slice q4 n4 c4) ∧ wx.cell? ⟨w.heap.size, 11, none⟩ = some (.slice q5 n5 c5) ∧ wx.cell? ⟨w.heap.size, 12, none⟩ = some (.int .i64 m.pol.dp) ∧ wx.cell? ⟨w.heap.size, 13, none⟩ = some (.int .i64 m.pol.nd) ∧ wx.cell? ⟨w.heap.size, 14, none⟩ = some (.int .i64 m.pol.bt)) := hide (fun wx h => by
    subst hA
    exact ⟨h.cell 0 _ rfl, h.cell 1 _ rfl, h.cell 2 _ rfl, h.cell 3 _ rfl, h.cell 4 _ rfl, h.cell 5 _ rfl, h.cell 6 _ rfl, h.cell 7 _ rfl, h.cell 8 _ rfl, h.cell 9 _ rfl, h.cell 10 _ rfl, h.cell 11 _ rfl, h.cell 12 _ rfl, h.cell 13 _ rfl, h.cell 14 _ rfl⟩)
  have SN : Hid (∀ wx, MBox w A wx → wx.cell? ⟨w.heap.size, 0, none⟩ = some (.int .i64 (k : Int)) ∧ wx.cell? ⟨w.heap.size, 1, none⟩ = some (.int .i64 (f : Int)) ∧ wx.cell? ⟨w.heap.size, 2, none⟩ = some (.int .i64 (t : Int)) ∧ wx.cell? ⟨w.heap.size, 3, none⟩ = some (.int .i64 (ep : Int)) ∧ Hid (MBox w A wx)) := hide (fun wx h => ⟨(SK.out wx h).1, (SK.out wx h).2.1, (SK.out wx h).2.2.1, (SK.out wx h).2.2.2.1, h⟩)
  have SB : Hid (∀ wx, (wx.cell? ⟨w.heap.size, 0, none⟩ = some (.int .i64 (k : Int)) ∧ wx.cell? ⟨w.heap.size, 1, none⟩ = some (.int .i64 (f : Int)) ∧ wx.cell? ⟨w.heap.size, 2, none⟩ = some (.int .i64 (t : Int)) ∧ wx.cell? ⟨w.heap.size, 3, none⟩ = some (.int .i64 (ep : Int)) ∧ Hid (MBox w A wx)) → MBox w A wx) := hide (fun wx h => h.2.2.2.2)
  rw [hA] at hw1
  clear hA hk hf ht hep
  go_enter Tryz.func12, Tryz.ntmps12
  go_upto_region 1 with fail
  rw [← hw1]
  clear hw1
  obtain ⟨y0, y1, y2, y3, y4, y5, y6, y7, y8, y9, y10, y11, y12, y13, y14⟩ := SK.out _ HN1.out
  go_wp2_with fail
  refine (CR.out _ HN1.out.2).mono ?_
  rintro e w2 ⟨⟨b, rfl, hb⟩, hb2⟩
  have hbt : b = true := hb.2 HR.out
  subst hbt
  have HN2 := hide (HN1.out.keep hb2)
  clear hb hb2 CR HN1 y0 y1 y2 y3 y4 y5 y6 y7 y8 y9 y10 y11 y12 y13 y14
  go_wp2_with fail
  go_region_held3 (fun wx => wx.cell? ⟨w.heap.size, 0, none⟩ = some (.int .i64 (k : Int)) ∧ wx.cell? ⟨w.heap.size, 1, none⟩ = some (.int .i64 (f : Int)) ∧ wx.cell? ⟨w.heap.size, 2, none⟩ = some (.int .i64 (t : Int)) ∧ wx.cell? ⟨w.heap.size, 3, none⟩ = some (.int .i64 (ep : Int)) ∧ Hid (MBox w A wx))
    (first | exact SN.out _ (HN2.out.keep ((Below.refl _ _).drew)) | exact SN.out _ (by assumption))
    (first
      | (go_at_call_of 23 k; refine (CDk.out _ (SB.out _ (by assumption))).mono ?_; rintro e w3 ⟨rfl, hB3⟩)
      | (go_at_call_of 22 Dk; refine (CFk.out _ (SB.out _ (by assumption))).mono ?_; rintro e w3 ⟨rfl, hB3⟩)
      | (go_at_call_of 23 f; refine (CDf.out _ (SB.out _ (by assumption))).mono ?_; rintro e w3 ⟨rfl, hB3⟩)
      | (go_at_call_of 22 Df; refine (CFf.out _ (SB.out _ (by assumption))).mono ?_; rintro e w3 ⟨rfl, hB3⟩)
      | (go_at_call_of 23 t; refine (CDt.out _ (SB.out _ (by assumption))).mono ?_; rintro e w3 ⟨rfl, hB3⟩)
      | (go_at_call_of 22 Dt; refine (CFt.out _ (SB.out _ (by assumption))).mono ?_; rintro e w3 ⟨rfl, hB3⟩)
      | (go_at_call_of 23 ep; refine (CDep.out _ (SB.out _ (by assumption))).mono ?_; rintro e w3 ⟨rfl, hB3⟩)
      | (go_at_call_of 22 Dep; refine (CFep.out _ (SB.out _ (by assumption))).mono ?_; rintro e w3 ⟨rfl, hB3⟩))
  have HN3 := hide (SB.out _ (by assumption))
  clear CDk CFk CDf CFf CDt CFt CDep CFep aG2 aG3 aG4 SN SB HN2
  have hkn := HKN.out
  subst hkn
  have hnp : np = ts.length := by
    obtain ⟨p', cap', e, -, -, -⟩ := HV.out
    injection e
  subst hnp
  obtain ⟨N, hN⟩ : ∃ N, N = ts.length := ⟨_, rfl⟩
  rw [← hN] at HV HBODY hi64 SK ⊢
  obtain ⟨PS, hPS⟩ : ∃ PS, PS = ts.map (fun x => (bl x.1, bl x.2)) := ⟨_, rfl⟩
  rw [← hPS] at HBODY
  have HPS : Hid (PS.length = N ∧ ∀ (i : Nat) (x y : ByteArray), ts[i]? = some (x, y) → PS[i]? = some (bl x, bl y)) := hide ⟨by rw [hPS, List.length_map, hN], fun i x y hx => by rw [hPS, List.getElem?_map, hx]; rfl⟩
  have HNN := hide hN
  clear hN hPS
  obtain ⟨DN, hDN⟩ : ∃ D : ByteArray, D = ⟨(dec N).toArray⟩ := ⟨_, rfl⟩
  obtain ⟨FN, hFN⟩ : ∃ F : ByteArray, F = ⟨(fld (dec N)).toArray⟩ := ⟨_, rfl⟩
  have zFN : FN.size ≤ 100 := by
    rw [← bl_len, hFN]
    show (fld (dec N)).length ≤ 100
    have h1 := dec_len N 6 (by omega)
    have h2 := dec_len (dec N).length 6 (by omega)
    unfold fld
    simp
    omega
  have CDN := hide (mdecimal_any N (by omega))
  have CFN : Hid (∀ wx, Calls Tryz.prog 22 #[.string DN] wx fun e w' => e = .returned (.string FN) ∧ Below wx.heap.size wx w') := hide (fun wx => by
    have h := mfield_any DN (by rw [← bl_len, hDN]; have := dec_len N 6 (by omega); show (dec N).length ≤ _; omega) wx
    have e : bl DN = dec N := by rw [hDN]
    rw [e, ← hFN] at h
    exact h)
  rw [← hDN] at CDN
  have bFN : bl FN = fld (dec N) := by rw [hFN]
  have aFN : ∀ w, (Op.stringOp .add G4 FN).run Tryz.prog w = .ok (.string (G4 ++ FN)) w := fun w => padd_str _ _ (by omega) w
  have zGN : (G4 ++ FN).size ≤ 500 := by rw [app_size]; omega
  have HGN : Hid (bl (G4 ++ FN) = bl G4 ++ fld (dec N)) := hide (by rw [app_bl, bFN])
  clear hDN hFN bFN
  have HB6 : Hid (bl (G4 ++ FN) ++ flds (two PS) = textM m) := hide (by
    rw [HTP.out, HBODY.out, HGN.out, List.append_assoc]
    rfl)
  have HL6 : Hid ((bl (G4 ++ FN)).length + (flds (two PS)).length ≤ 6000000) := hide (by
    have h := HLE.out
    have e : flds (dec N :: two PS) = fld (dec N) ++ flds (two PS) := rfl
    rw [HBODY.out, e, List.length_append] at h
    rw [HGN.out, List.length_append]
    omega)
  clear HTP HLE HBODY
  obtain ⟨S0, hS0⟩ : ∃ S0, S0 = G4 ++ FN := ⟨_, rfl⟩
  rw [← hS0] at aFN zGN HB6 HL6
  clear hS0 HGN
  obtain ⟨y0, y1, y2, y3, y4, y5, y6, y7, y8, y9, y10, y11, y12, y13, y14⟩ := SK.out _ HN3.out
  go_wp2_with fail
  refine (CDN.out _).mono ?_
  rintro e w4 ⟨rfl, hb4⟩
  have HN4 := hide (HN3.out.keep hb4)
  clear hb4 CDN HN3 y0 y1 y2 y3 y4 y5 y6 y7 y8 y9 y10 y11 y12 y13 y14
  go_wp2_with fail
  refine (CFN.out _).mono ?_
  rintro e w5 ⟨rfl, hb5⟩
  have HN5 := hide (HN4.out.keep hb5)
  clear hb5 CFN HN4
  go_wp2_with fail
  clear aFN zFN zG4
  go_loopg [4, 6] N (fun g v4 v6 wr => ∃ (i : Nat) (S : ByteArray), i + g = N ∧ v6 = .int .i64 (i : Int) ∧ v4 = .string S ∧ S.size ≤ 6000000 ∧ Hid (MBox w A wr ∧ bl S = bl S0 ++ flds (two (PS.take i))))
  case atStart => exact ⟨0, S0, by omega, rfl, rfl, by omega, hide ⟨HN5.out, by rw [List.take_zero]; exact (List.append_nil _).symm⟩⟩
  case round =>
    obtain ⟨i, S, hig, rfl, rfl, hSz, HI⟩ := hrel
    obtain ⟨-, -, -, -, -, y5, -⟩ := SK.out _ HI.out.1
    by_cases hlt : i < N
    · have dlt : decide ((i : Int) < (N : Int)) = true := decide_eq_true (by omega)
      have dlt2 : decide (i < N) = true := decide_eq_true hlt
      obtain ⟨xy, hx⟩ : ∃ x, ts[i]? = some x := ⟨_, List.getElem?_eq_getElem (by rw [← HNN.out]; exact hlt)⟩
      obtain ⟨x, y⟩ := xy
      obtain ⟨bb, off, rfl, cx⟩ : ∃ b off, pp = some ⟨b, off, none⟩ ∧ ∀ wx, Below w.heap.size w wx → wx.cell? ⟨b, off + i * 2, none⟩ = some (.string x) ∧ wx.cell? ⟨b, off + i * 2 + 1, none⟩ = some (.string y) := by
        obtain ⟨p', cap', e, -, -, hc⟩ := HV.out
        injection e with e1 e2 e3
        obtain ⟨b, off, e4, h, h'⟩ := hc i x y hx
        exact ⟨b, off, e1.trans e4, fun wx hb => ⟨mcell_keep h hb, mcell_keep h' hb⟩⟩
      obtain ⟨hxs, hys⟩ := HRI.out x y (List.mem_of_getElem? hx)
      obtain ⟨FX, hFX⟩ : ∃ F : ByteArray, F = ⟨(fld (bl x)).toArray⟩ := ⟨_, rfl⟩
      obtain ⟨FY, hFY⟩ : ∃ F : ByteArray, F = ⟨(fld (bl y)).toArray⟩ := ⟨_, rfl⟩
      have CX : Hid (∀ wx, MBox w A wx → Calls Tryz.prog 22 #[.string x] wx fun e w' => e = .returned (.string FX) ∧ MBox w A w') := hide (fun wx hb => by rw [hFX]; exact (mfield_any x (by omega) wx).mono fun e w' ⟨h1, h2⟩ => ⟨h1, hb.keep h2⟩)
      have CY : Hid (∀ wx, MBox w A wx → Calls Tryz.prog 22 #[.string y] wx fun e w' => e = .returned (.string FY) ∧ MBox w A w') := hide (fun wx hb => by rw [hFY]; exact (mfield_any y (by omega) wx).mono fun e w' ⟨h1, h2⟩ => ⟨h1, hb.keep h2⟩)
      have bS2 : bl (S ++ FX ++ FY) = bl S0 ++ flds (two (PS.take (i + 1))) := by
        have e := two_take_step (HPS.out.2 i x y hx)
        have e' : flds (two (PS.take (i + 1))) = flds (two (PS.take i)) ++ fld (bl x) ++ fld (bl y) := e
        rw [app_bl, app_bl, HI.out.2, hFX, hFY, e', List.append_assoc, List.append_assoc, List.append_assoc]
        try rfl
      have zS2 : (S ++ FX ++ FY).size ≤ 6000000 := by
        rw [← bl_len, bS2, List.length_append]
        have h1 := two_take_le PS (i + 1)
        have h2 := HL6.out
        omega
      have zS2' := zS2
      rw [app_size, app_size] at zS2'
      have aS1 : ∀ w, (Op.stringOp .add S FX).run Tryz.prog w = .ok (.string (S ++ FX)) w := fun w => padd_str _ _ (by omega) w
      have aS2 : ∀ w, (Op.stringOp .add (S ++ FX) FY).run Tryz.prog w = .ok (.string (S ++ FX ++ FY)) w := fun w => padd_str _ _ (by rw [app_size]; omega) w
      have HS2 := hide bS2
      have HB := hide HI.out.1
      have SX : Hid (∀ wx, MBox w A wx → wx.cell? ⟨w.heap.size, 5, none⟩ = some (.slice (some ⟨bb, off, none⟩) N cp) ∧ wx.cell? ⟨bb, off + i * 2, none⟩ = some (.string x) ∧ wx.cell? ⟨bb, off + i * 2 + 1, none⟩ = some (.string y) ∧ Hid (MBox w A wx)) := hide (fun wx h => ⟨(SK.out wx h).2.2.2.2.2.1, (cx wx h.2).1, (cx wx h.2).2, h⟩)
      have SXB : Hid (∀ wx, (wx.cell? ⟨w.heap.size, 5, none⟩ = some (.slice (some ⟨bb, off, none⟩) N cp) ∧ wx.cell? ⟨bb, off + i * 2, none⟩ = some (.string x) ∧ wx.cell? ⟨bb, off + i * 2 + 1, none⟩ = some (.string y) ∧ Hid (MBox w A wx)) → MBox w A wx) := hide (fun wx h => h.2.2.2)
      clear bS2 hFX hFY hx HI hSz zS2' cx
      obtain ⟨S1, hS1⟩ : ∃ S1, S1 = S ++ FX := ⟨_, rfl⟩
      rw [← hS1] at aS1 aS2 zS2 HS2
      obtain ⟨S2, hS2⟩ : ∃ S2, S2 = S1 ++ FY := ⟨_, rfl⟩
      rw [← hS2] at aS2 zS2 HS2
      clear hS1 hS2
      go_wp2_with fail
      go_region_held3 (fun wx => wx.cell? ⟨w.heap.size, 5, none⟩ = some (.slice (some ⟨bb, off, none⟩) N cp) ∧ wx.cell? ⟨bb, off + i * 2, none⟩ = some (.string x) ∧ wx.cell? ⟨bb, off + i * 2 + 1, none⟩ = some (.string y) ∧ Hid (MBox w A wx))
        (first | exact SX.out _ (HB.out.keep ((Below.refl _ _).drew)) | exact SX.out _ (by assumption))
        (first
          | (go_at_call_of 22 x; refine (CX.out _ (SXB.out _ (by assumption))).mono ?_; rintro e w6 ⟨rfl, hB6⟩)
          | (go_at_call_of 22 y; refine (CY.out _ (SXB.out _ (by assumption))).mono ?_; rintro e w6 ⟨rfl, hB6⟩))
      have HB6' := hide (SXB.out _ (by assumption))
      clear CX CY HB y5 SX SXB aS1 aS2
      go_wp2_with fail
      go_roundg (N - (i + 1))
      case measure => omega
      case rel => exact ⟨i + 1, S2, by omega, by first | rfl | simp, rfl, zS2, hide ⟨HB6'.out, HS2.out⟩⟩
    · have dlt : decide ((i : Int) < (N : Int)) = false := decide_eq_false (by omega)
      have dlt2 : decide (i < N) = false := decide_eq_false hlt
      have HE : Hid (⟨(textM m).toArray⟩ = S) := hide (by
        apply ba_ext
        show textM m = bl S
        rw [HI.out.2, List.take_of_length_le (by rw [HPS.out.1]; omega), HB6.out])
      have HB := hide HI.out.1
      clear HI hlt hig
      go_wp2_with fail
      go_ret2
      rw [HE.out]
      exact ⟨rfl, HB.out.2⟩
end Go.Proofs.YtebcpmgooodmpaaGreatDoor

namespace Go.Proofs.YtebcpmgooodmpaaGreatDoor
open Go.RowKit
open Utf1
open Pol8 hiding text right Right
open Msg15

set_option maxRecDepth 100000 in
set_option maxHeartbeats 32000000 in
theorem mencode_pol (m : Ms) (vi vp v1 v2 v3 v4 v5 : Value) (ids : List ByteArray) (ts : List (ByteArray × ByteArray)) (l1 l2 l3 l4 l5 : List ByteArray) (w : World) (ha : MV w m vi vp v1 v2 v3 v4 v5 ids ts l1 l2 l3 l4 l5) (hR : MRight m) (hkn : m.kind = 3) :
    Calls Tryz.prog 12 #[mval m.kind m.fr m.to m.ep vi vp m.pol v1 v2 v3 v4 v5] w fun e w' => e = .returned (.tuple #[.string ⟨(textM m).toArray⟩, .int .i64 0]) ∧ Below w.heap.size w w' := by
  have hlen := text_len hR
  have htp := textM_parts m
  have k1 := hR.kind
  have k2 := hR.fr
  have k3 := hR.to
  have k4 := hR.ep
  obtain ⟨k, hk⟩ : ∃ k : Nat, m.kind = (k : Int) := ⟨m.kind.toNat, (Int.toNat_of_nonneg (by omega)).symm⟩
  obtain ⟨f, hf⟩ : ∃ k : Nat, m.fr = (k : Int) := ⟨m.fr.toNat, (Int.toNat_of_nonneg (by omega)).symm⟩
  obtain ⟨t, ht⟩ : ∃ k : Nat, m.to = (k : Int) := ⟨m.to.toNat, (Int.toNat_of_nonneg (by omega)).symm⟩
  obtain ⟨ep, hep⟩ : ∃ k : Nat, m.ep = (k : Int) := ⟨m.ep.toNat, (Int.toNat_of_nonneg (by omega)).symm⟩
  rw [hk, hf, ht, hep, Int.toNat_natCast, Int.toNat_natCast, Int.toNat_natCast, Int.toNat_natCast] at htp
  have HKN : Hid (k = 3) := hide (by omega)
  have CR : Hid (∀ wx, Below w.heap.size w wx → Calls Tryz.prog 14 #[mval (k : Int) (f : Int) (t : Int) (ep : Int) vi vp m.pol v1 v2 v3 v4 v5] wx fun e w' => (∃ b : Bool, e = .returned (.bool b) ∧ (b = true ↔ MRight m)) ∧ Below wx.heap.size wx w') := hide (fun wx hx => by
    rw [← hk, ← hf, ← ht, ← hep]
    exact mright_any m.kind m.fr m.to m.ep _ _ ids ts _ _ _ _ _ m.pol l1 l2 l3 l4 l5 wx (ha.hi.below hx) (ha.hp.below hx) (ha.hv.below hx) ha.hf ha.li ha.lp m (by rw [← ha.ei, ← ha.ep]))
  have HR := hide hR
  have HVP := hide ha.hv
  have HFP := hide ha.hf
  have HRP := hide (hR.rpol hkn)
  have HBODY : Hid (body m = [Pol8.text m.pol]) := hide (by unfold body; rw [if_neg (by omega), if_neg (by omega), if_pos hkn])
  obtain ⟨pi, ni, ci, rfl⟩ : ∃ q n c, vi = .slice q n c := by obtain ⟨q, c, e, -, -⟩ := ha.hi; exact ⟨_, _, _, e⟩
  obtain ⟨pp, np, cp, rfl⟩ : ∃ q n c, vp = .slice q n c := by obtain ⟨q, c, e, -, -, -⟩ := ha.hp; exact ⟨_, _, _, e⟩
  obtain ⟨q1, n1, c1, rfl⟩ : ∃ q n c, v1 = .slice q n c := by obtain ⟨q, c, e, -, -⟩ := ha.hv.s1; exact ⟨_, _, _, e⟩
  obtain ⟨q2, n2, c2, rfl⟩ : ∃ q n c, v2 = .slice q n c := by obtain ⟨q, c, e, -, -⟩ := ha.hv.s2; exact ⟨_, _, _, e⟩
  obtain ⟨q3, n3, c3, rfl⟩ : ∃ q n c, v3 = .slice q n c := by obtain ⟨q, c, e, -, -⟩ := ha.hv.s3; exact ⟨_, _, _, e⟩
  obtain ⟨q4, n4, c4, rfl⟩ : ∃ q n c, v4 = .slice q n c := by obtain ⟨q, c, e, -, -⟩ := ha.hv.s4; exact ⟨_, _, _, e⟩
  obtain ⟨q5, n5, c5, rfl⟩ : ∃ q n c, v5 = .slice q n c := by obtain ⟨q, c, e, -, -⟩ := ha.hv.s5; exact ⟨_, _, _, e⟩
  obtain ⟨A, hA⟩ : ∃ A : Array Value, A = #[.int .i64 (k : Int), .int .i64 (f : Int), .int .i64 (t : Int), .int .i64 (ep : Int), .slice pi ni ci, .slice pp np cp, .int .i64 m.pol.ep, .slice q1 n1 c1, .slice q2 n2 c2, .slice q3 n3 c3, .slice q4 n4 c4, .slice q5 n5 c5, .int .i64 m.pol.dp, .int .i64 m.pol.nd, .int .i64 m.pol.bt] := ⟨_, rfl⟩
  rw [hk, hf, ht, hep]
  rw [hk] at k1
  rw [hf] at k2
  rw [ht] at k3
  rw [hep] at k4
  obtain ⟨Dk, hDk⟩ : ∃ D : ByteArray, D = ⟨(dec k).toArray⟩ := ⟨_, rfl⟩
  obtain ⟨Fk, hFk⟩ : ∃ F : ByteArray, F = ⟨(fld (dec k)).toArray⟩ := ⟨_, rfl⟩
  have zk : Fk.size ≤ 100 := by
    rw [← bl_len, hFk]
    show (fld (dec k)).length ≤ 100
    have h1 := dec_len k 6 (by omega)
    have h2 := dec_len (dec k).length 6 (by omega)
    unfold fld
    simp
    omega
  have CDk : Hid (∀ wx, MBox w A wx → Calls Tryz.prog 23 #[.int .i64 (k : Int)] wx fun e w' => e = .returned (.string Dk) ∧ MBox w A w') := hide (fun wx hx => by
    rw [hDk]
    exact (mdecimal_any k (by omega) wx).mono fun e w' ⟨h1, h2⟩ => ⟨h1, hx.keep h2⟩)
  have CFk : Hid (∀ wx, MBox w A wx → Calls Tryz.prog 22 #[.string Dk] wx fun e w' => e = .returned (.string Fk) ∧ MBox w A w') := hide (fun wx hx => by
    have hz : Dk.size ≤ 1000000 := by rw [← bl_len, hDk]; have := dec_len k 6 (by omega); show (dec k).length ≤ _; omega
    have h := mfield_any Dk hz wx
    have e : bl Dk = dec k := by rw [hDk]
    rw [e, ← hFk] at h
    exact h.mono fun e w' ⟨h1, h2⟩ => ⟨h1, hx.keep h2⟩)
  obtain ⟨Df, hDf⟩ : ∃ D : ByteArray, D = ⟨(dec f).toArray⟩ := ⟨_, rfl⟩
  obtain ⟨Ff, hFf⟩ : ∃ F : ByteArray, F = ⟨(fld (dec f)).toArray⟩ := ⟨_, rfl⟩
  have zf : Ff.size ≤ 100 := by
    rw [← bl_len, hFf]
    show (fld (dec f)).length ≤ 100
    have h1 := dec_len f 6 (by omega)
    have h2 := dec_len (dec f).length 6 (by omega)
    unfold fld
    simp
    omega
  have CDf : Hid (∀ wx, MBox w A wx → Calls Tryz.prog 23 #[.int .i64 (f : Int)] wx fun e w' => e = .returned (.string Df) ∧ MBox w A w') := hide (fun wx hx => by
    rw [hDf]
    exact (mdecimal_any f (by omega) wx).mono fun e w' ⟨h1, h2⟩ => ⟨h1, hx.keep h2⟩)
  have CFf : Hid (∀ wx, MBox w A wx → Calls Tryz.prog 22 #[.string Df] wx fun e w' => e = .returned (.string Ff) ∧ MBox w A w') := hide (fun wx hx => by
    have hz : Df.size ≤ 1000000 := by rw [← bl_len, hDf]; have := dec_len f 6 (by omega); show (dec f).length ≤ _; omega
    have h := mfield_any Df hz wx
    have e : bl Df = dec f := by rw [hDf]
    rw [e, ← hFf] at h
    exact h.mono fun e w' ⟨h1, h2⟩ => ⟨h1, hx.keep h2⟩)
  obtain ⟨Dt, hDt⟩ : ∃ D : ByteArray, D = ⟨(dec t).toArray⟩ := ⟨_, rfl⟩
  obtain ⟨Ft, hFt⟩ : ∃ F : ByteArray, F = ⟨(fld (dec t)).toArray⟩ := ⟨_, rfl⟩
  have zt : Ft.size ≤ 100 := by
    rw [← bl_len, hFt]
    show (fld (dec t)).length ≤ 100
    have h1 := dec_len t 6 (by omega)
    have h2 := dec_len (dec t).length 6 (by omega)
    unfold fld
    simp
    omega
  have CDt : Hid (∀ wx, MBox w A wx → Calls Tryz.prog 23 #[.int .i64 (t : Int)] wx fun e w' => e = .returned (.string Dt) ∧ MBox w A w') := hide (fun wx hx => by
    rw [hDt]
    exact (mdecimal_any t (by omega) wx).mono fun e w' ⟨h1, h2⟩ => ⟨h1, hx.keep h2⟩)
  have CFt : Hid (∀ wx, MBox w A wx → Calls Tryz.prog 22 #[.string Dt] wx fun e w' => e = .returned (.string Ft) ∧ MBox w A w') := hide (fun wx hx => by
    have hz : Dt.size ≤ 1000000 := by rw [← bl_len, hDt]; have := dec_len t 6 (by omega); show (dec t).length ≤ _; omega
    have h := mfield_any Dt hz wx
    have e : bl Dt = dec t := by rw [hDt]
    rw [e, ← hFt] at h
    exact h.mono fun e w' ⟨h1, h2⟩ => ⟨h1, hx.keep h2⟩)
  obtain ⟨Dep, hDep⟩ : ∃ D : ByteArray, D = ⟨(dec ep).toArray⟩ := ⟨_, rfl⟩
  obtain ⟨Fep, hFep⟩ : ∃ F : ByteArray, F = ⟨(fld (dec ep)).toArray⟩ := ⟨_, rfl⟩
  have zep : Fep.size ≤ 100 := by
    rw [← bl_len, hFep]
    show (fld (dec ep)).length ≤ 100
    have h1 := dec_len ep 6 (by omega)
    have h2 := dec_len (dec ep).length 6 (by omega)
    unfold fld
    simp
    omega
  have CDep : Hid (∀ wx, MBox w A wx → Calls Tryz.prog 23 #[.int .i64 (ep : Int)] wx fun e w' => e = .returned (.string Dep) ∧ MBox w A w') := hide (fun wx hx => by
    rw [hDep]
    exact (mdecimal_any ep (by omega) wx).mono fun e w' ⟨h1, h2⟩ => ⟨h1, hx.keep h2⟩)
  have CFep : Hid (∀ wx, MBox w A wx → Calls Tryz.prog 22 #[.string Dep] wx fun e w' => e = .returned (.string Fep) ∧ MBox w A w') := hide (fun wx hx => by
    have hz : Dep.size ≤ 1000000 := by rw [← bl_len, hDep]; have := dec_len ep 6 (by omega); show (dec ep).length ≤ _; omega
    have h := mfield_any Dep hz wx
    have e : bl Dep = dec ep := by rw [hDep]
    rw [e, ← hFep] at h
    exact h.mono fun e w' ⟨h1, h2⟩ => ⟨h1, hx.keep h2⟩)
  obtain ⟨G2, hG2⟩ : ∃ G : ByteArray, G = Fk ++ Ff := ⟨_, rfl⟩
  obtain ⟨G3, hG3⟩ : ∃ G : ByteArray, G = G2 ++ Ft := ⟨_, rfl⟩
  obtain ⟨G4, hG4⟩ : ∃ G : ByteArray, G = G3 ++ Fep := ⟨_, rfl⟩
  have zG2 : G2.size ≤ 200 := by rw [hG2, app_size]; omega
  have zG3 : G3.size ≤ 300 := by rw [hG3, app_size]; omega
  have zG4 : G4.size ≤ 400 := by rw [hG4, app_size]; omega
  have aG2 : ∀ w, (Op.stringOp .add Fk Ff).run Tryz.prog w = .ok (.string G2) w := fun w => by rw [hG2]; exact padd_str _ _ (by omega) w
  have aG3 : ∀ w, (Op.stringOp .add G2 Ft).run Tryz.prog w = .ok (.string G3) w := fun w => by rw [hG3]; exact padd_str _ _ (by omega) w
  have aG4 : ∀ w, (Op.stringOp .add G3 Fep).run Tryz.prog w = .ok (.string G4) w := fun w => by rw [hG4]; exact padd_str _ _ (by omega) w
  have HG4 : Hid (bl G4 = flds [dec k, dec f, dec t, dec ep]) := hide (by
    rw [hG4, hG3, hG2, app_bl, app_bl, app_bl, hFk, hFf, hFt, hFep]
    show fld (dec k) ++ fld (dec f) ++ fld (dec t) ++ fld (dec ep) = fld (dec k) ++ (fld (dec f) ++ (fld (dec t) ++ (fld (dec ep) ++ [])))
    simp)
  have HTP : Hid (textM m = bl G4 ++ flds (body m)) := hide (by rw [HG4.out]; exact htp)
  have HLE : Hid ((bl G4).length + (flds (body m)).length ≤ 6000000) := hide (by rw [HTP.out, List.length_append] at hlen; exact hlen)
  clear hlen htp hR ha HG4 zG2 zG3 hkn
  clear hDk hFk hDf hFf hDt hFt hDep hFep hG2 hG3 hG4 zk zf zt zep
  obtain ⟨w1, hw1⟩ : ∃ w1, w1 = w.alloc (.cells A 27) := ⟨_, rfl⟩
  have HN1 : Hid (MBox w A w1) := hide (by rw [hw1]; exact ⟨new_block _ _ _, bel_alloc (Below.refl _ _) _⟩)
  have SK : Hid (∀ wx, MBox w A wx → wx.cell? ⟨w.heap.size, 0, none⟩ = some (.int .i64 (k : Int)) ∧ wx.cell? ⟨w.heap.size, 1, none⟩ = some (.int .i64 (f : Int)) ∧ wx.cell? ⟨w.heap.size, 2, none⟩ = some (.int .i64 (t : Int)) ∧ wx.cell? ⟨w.heap.size, 3, none⟩ = some (.int .i64 (ep : Int)) ∧ wx.cell? ⟨w.heap.size, 4, none⟩ = some (.slice pi ni ci) ∧ wx.cell? ⟨w.heap.size, 5, none⟩ = some (.slice pp np cp) ∧ wx.cell? ⟨w.heap.size, 6, none⟩ = some (.int .i64 m.pol.ep) ∧ wx.cell? ⟨w.heap.size, 7, none⟩ = some (.slice q1 n1 c1) ∧ wx.cell? ⟨w.heap.size, 8, none⟩ = some (.slice q2 n2 c2) ∧ wx.cell? ⟨w.heap.size, 9, none⟩ = some (.slice q3 n3 c3) ∧ wx.cell? ⟨w.heap.size, 10, none⟩ = some (.slice q4 n4 c4) ∧ wx.cell? ⟨w.heap.size, 11, none⟩ = some (.slice q5 n5 c5) ∧ wx.cell? ⟨w.heap.size, 12, none⟩ = some (.int .i64 m.pol.dp) ∧ wx.cell? ⟨w.heap.size, 13, none⟩ = some (.int .i64 m.pol.nd) ∧ wx.cell? ⟨w.heap.size, 14, none⟩ = some (.int .i64 m.pol.bt)) := hide (fun wx h => by
    subst hA
    exact ⟨h.cell 0 _ rfl, h.cell 1 _ rfl, h.cell 2 _ rfl, h.cell 3 _ rfl, h.cell 4 _ rfl, h.cell 5 _ rfl, h.cell 6 _ rfl, h.cell 7 _ rfl, h.cell 8 _ rfl, h.cell 9 _ rfl, h.cell 10 _ rfl, h.cell 11 _ rfl, h.cell 12 _ rfl, h.cell 13 _ rfl, h.cell 14 _ rfl⟩)
  have SN : Hid (∀ wx, MBox w A wx → wx.cell? ⟨w.heap.size, 0, none⟩ = some (.int .i64 (k : Int)) ∧ wx.cell? ⟨w.heap.size, 1, none⟩ = some (.int .i64 (f : Int)) ∧ wx.cell? ⟨w.heap.size, 2, none⟩ = some (.int .i64 (t : Int)) ∧ wx.cell? ⟨w.heap.size, 3, none⟩ = some (.int .i64 (ep : Int)) ∧ Hid (MBox w A wx)) := hide (fun wx h => ⟨(SK.out wx h).1, (SK.out wx h).2.1, (SK.out wx h).2.2.1, (SK.out wx h).2.2.2.1, h⟩)
  have SB : Hid (∀ wx, (wx.cell? ⟨w.heap.size, 0, none⟩ = some (.int .i64 (k : Int)) ∧ wx.cell? ⟨w.heap.size, 1, none⟩ = some (.int .i64 (f : Int)) ∧ wx.cell? ⟨w.heap.size, 2, none⟩ = some (.int .i64 (t : Int)) ∧ wx.cell? ⟨w.heap.size, 3, none⟩ = some (.int .i64 (ep : Int)) ∧ Hid (MBox w A wx)) → MBox w A wx) := hide (fun wx h => h.2.2.2.2)
  rw [hA] at hw1
  clear hA hk hf ht hep
  go_enter Tryz.func12, Tryz.ntmps12
  go_upto_region 1 with fail
  rw [← hw1]
  clear hw1
  obtain ⟨y0, y1, y2, y3, y4, y5, y6, y7, y8, y9, y10, y11, y12, y13, y14⟩ := SK.out _ HN1.out
  go_wp2_with fail
  refine (CR.out _ HN1.out.2).mono ?_
  rintro e w2 ⟨⟨b, rfl, hb⟩, hb2⟩
  have hbt : b = true := hb.2 HR.out
  subst hbt
  have HN2 := hide (HN1.out.keep hb2)
  clear hb hb2 CR HN1 y0 y1 y2 y3 y4 y5 y6 y7 y8 y9 y10 y11 y12 y13 y14
  go_wp2_with fail
  go_region_held3 (fun wx => wx.cell? ⟨w.heap.size, 0, none⟩ = some (.int .i64 (k : Int)) ∧ wx.cell? ⟨w.heap.size, 1, none⟩ = some (.int .i64 (f : Int)) ∧ wx.cell? ⟨w.heap.size, 2, none⟩ = some (.int .i64 (t : Int)) ∧ wx.cell? ⟨w.heap.size, 3, none⟩ = some (.int .i64 (ep : Int)) ∧ Hid (MBox w A wx))
    (first | exact SN.out _ (HN2.out.keep ((Below.refl _ _).drew)) | exact SN.out _ (by assumption))
    (first
      | (go_at_call_of 23 k; refine (CDk.out _ (SB.out _ (by assumption))).mono ?_; rintro e w3 ⟨rfl, hB3⟩)
      | (go_at_call_of 22 Dk; refine (CFk.out _ (SB.out _ (by assumption))).mono ?_; rintro e w3 ⟨rfl, hB3⟩)
      | (go_at_call_of 23 f; refine (CDf.out _ (SB.out _ (by assumption))).mono ?_; rintro e w3 ⟨rfl, hB3⟩)
      | (go_at_call_of 22 Df; refine (CFf.out _ (SB.out _ (by assumption))).mono ?_; rintro e w3 ⟨rfl, hB3⟩)
      | (go_at_call_of 23 t; refine (CDt.out _ (SB.out _ (by assumption))).mono ?_; rintro e w3 ⟨rfl, hB3⟩)
      | (go_at_call_of 22 Dt; refine (CFt.out _ (SB.out _ (by assumption))).mono ?_; rintro e w3 ⟨rfl, hB3⟩)
      | (go_at_call_of 23 ep; refine (CDep.out _ (SB.out _ (by assumption))).mono ?_; rintro e w3 ⟨rfl, hB3⟩)
      | (go_at_call_of 22 Dep; refine (CFep.out _ (SB.out _ (by assumption))).mono ?_; rintro e w3 ⟨rfl, hB3⟩))
  have HN3 := hide (SB.out _ (by assumption))
  clear CDk CFk CDf CFf CDt CFt CDep CFep aG2 aG3 aG4 SN SB HN2
  have hkn := HKN.out
  subst hkn
  obtain ⟨T, hT⟩ : ∃ T : ByteArray, T = ⟨(Pol8.text m.pol).toArray⟩ := ⟨_, rfl⟩
  have hTs : T.size ≤ 40000 := by rw [← bl_len, hT]; exact pol_len ((Pol8.right_iff _).1 HRP.out)
  have CT : Hid (∀ wx, Below w.heap.size w wx → Calls Tryz.prog 24 #[.agg #[.int .i64 m.pol.ep, .slice q1 n1 c1, .slice q2 n2 c2, .slice q3 n3 c3, .slice q4 n4 c4, .slice q5 n5 c5, .int .i64 m.pol.dp, .int .i64 m.pol.nd, .int .i64 m.pol.bt]] wx fun e w' => e = .returned (.tuple #[.string T, .int .i64 0]) ∧ Below wx.heap.size wx w') := hide (fun wx hx => by
    have h := rtext_any _ _ _ _ _ m.pol l1 l2 l3 l4 l5 wx (HVP.out.below hx) HFP.out
    rw [if_pos HRP.out, if_pos HRP.out, ← hT] at h
    exact h)
  obtain ⟨FT, hFT⟩ : ∃ F : ByteArray, F = ⟨(fld (bl T)).toArray⟩ := ⟨_, rfl⟩
  have CF := hide (mfield_any T (by omega))
  rw [← hFT] at CF
  have hE : bl (G4 ++ FT) = textM m := by
    rw [app_bl, HTP.out, HBODY.out, hFT, hT]
    show bl G4 ++ fld (Pol8.text m.pol) = bl G4 ++ (fld (Pol8.text m.pol) ++ [])
    rw [List.append_nil]
  have HE : Hid (⟨(textM m).toArray⟩ = G4 ++ FT) := hide (ba_ext (show textM m = bl (G4 ++ FT) from hE.symm))
  have zE : G4.size + FT.size ≤ 6000000 := by
    have h := HLE.out
    rw [HBODY.out] at h
    have e : bl FT = fld (Pol8.text m.pol) := by rw [hFT, hT]
    have e2 : (flds [Pol8.text m.pol]).length = (bl FT).length := by
      rw [e]
      show (fld (Pol8.text m.pol) ++ []).length = _
      rw [List.append_nil]
    rw [e2, bl_len, bl_len] at h
    exact h
  have aE : ∀ w, (Op.stringOp .add G4 FT).run Tryz.prog w = .ok (.string (G4 ++ FT)) w := fun w => padd_str _ _ (by omega) w
  clear hT hTs hFT hE HTP HLE HBODY HVP HFP HRP
  obtain ⟨y0, y1, y2, y3, y4, y5, y6, y7, y8, y9, y10, y11, y12, y13, y14⟩ := SK.out _ HN3.out
  go_wp2_with fail
  refine (CT.out _ HN3.out.2).mono ?_
  rintro e w4 ⟨rfl, hb4⟩
  have HN4 := hide (HN3.out.keep hb4)
  clear hb4 CT HN3 y0 y1 y2 y3 y4 y5 y6 y7 y8 y9 y10 y11 y12 y13 y14
  go_wp2_with fail
  refine (CF.out _).mono ?_
  rintro e w5 ⟨rfl, hb5⟩
  have HN5 := hide (HN4.out.keep hb5)
  clear hb5 CF HN4
  go_wp2_with fail
  go_ret2
  rw [HE.out]
  exact ⟨rfl, HN5.out.2⟩
end Go.Proofs.YtebcpmgooodmpaaGreatDoor
