/-
  The document's own Text.
-/
import Derived.Test.YteglmpaapcgfbaaDoorQ6
import Derived.Deep.RegionHeld3
namespace Go.Proofs.YteglmpaapcgfbaaDoor
open Go.RowKit
open Utf1 Pol8

theorem BoxP.drew {w wx : World} {A : Array Value} (h : BoxP w A wx) : BoxP w A wx.drew := h.keep ((Below.refl _ _).drew)
theorem lns_size (hd : ByteArray) (ss : List ByteArray) (hh : hd.size ≤ 100) (hl : ss.length ≤ 100000) (hz : ∀ x ∈ ss, x.size ≤ 100000) : (⟨(lns (bl hd) (ss.map bl)).toArray⟩ : ByteArray).size ≤ 10020000000 := by
  rw [size_mk]
  have h1 := lns_len (bl hd) (ss.map bl) (fun x hx => by
    obtain ⟨y, hy, rfl⟩ := List.mem_map.1 hx
    have := hz y hy
    rwa [bl_len])
  rw [List.length_map, bl_len] at h1
  have : ss.length * (hd.size + 100002) ≤ 100000 * 100102 := Nat.mul_le_mul hl (by omega)
  omega
theorem dec_size (n : Nat) (hn : n ≤ 1000000) : (⟨(dec n).toArray⟩ : ByteArray).size ≤ 7 := by
  rw [size_mk]
  exact dec_len n 6 (by omega)

theorem add_str (a b : ByteArray) (h : a.size + b.size ≤ 9223372036854775807) (w : World) : (Op.stringOp .add a b).run Tryd.prog w = .ok (.string (a ++ b)) w := by
  unfold Op.stringOp
  have : ¬ (((a.size + b.size : Nat) : Int) > IntKind.i64.max) := by
    show ¬ (((a.size + b.size : Nat) : Int) > 9223372036854775807)
    omega
  simp only [this, if_false]
  rfl

set_option maxRecDepth 100000 in
set_option maxHeartbeats 32000000 in
theorem rtext_any (v1 v2 v3 v4 v5 : Value) (p : Pol) (l1 l2 l3 l4 l5 : List ByteArray) (w : World) (hv : PolV w v1 v2 v3 v4 v5 p l1 l2 l3 l4 l5) (hf : fits p) :
    Calls Tryd.prog 12 #[.agg #[.int .i64 p.ep, v1, v2, v3, v4, v5, .int .i64 p.dp, .int .i64 p.nd, .int .i64 p.bt]] w fun e w' => e = .returned (.tuple #[.string (if right p = true then ⟨(text p).toArray⟩ else ⟨#[]⟩), .int .i64 (if right p = true then 0 else 2)]) ∧ Below w.heap.size w w' := by
  obtain ⟨f1, z1⟩ := fits_of hf (by simp) hv.e1
  obtain ⟨f2, z2⟩ := fits_of hf (by simp) hv.e2
  obtain ⟨f3, z3⟩ := fits_of hf (by simp) hv.e3
  obtain ⟨f4, z4⟩ := fits_of hf (by simp) hv.e4
  obtain ⟨f5, z5⟩ := fits_of hf (by simp) hv.e5
  have CR := hide (fun wx h => rright_any v1 v2 v3 v4 v5 p l1 l2 l3 l4 l5 wx (hv.below h) hf)
  obtain ⟨A, hA⟩ : ∃ A : Array Value, A = #[.int .i64 p.ep, v1, v2, v3, v4, v5, .int .i64 p.dp, .int .i64 p.nd, .int .i64 p.bt] := ⟨_, rfl⟩
  have HNEW : Hid (BoxP w A (w.alloc (.cells A 24))) := hide ⟨new_block _ _ _, bel_alloc (Below.refl _ _) _⟩
  cases hr : right p with
  | false =>
    rw [hr] at CR
    obtain ⟨w1, hw1⟩ : ∃ w1, w1 = w.alloc (.cells A 24) := ⟨_, rfl⟩
    rw [← hw1] at HNEW
    have y0 := HNEW.out.cell 0 (.int .i64 p.ep) (by rw [hA]; rfl)
    have y1 := HNEW.out.cell 1 v1 (by rw [hA]; rfl)
    have y2 := HNEW.out.cell 2 v2 (by rw [hA]; rfl)
    have y3 := HNEW.out.cell 3 v3 (by rw [hA]; rfl)
    have y4 := HNEW.out.cell 4 v4 (by rw [hA]; rfl)
    have y5 := HNEW.out.cell 5 v5 (by rw [hA]; rfl)
    have y6 := HNEW.out.cell 6 (.int .i64 p.dp) (by rw [hA]; rfl)
    have y7 := HNEW.out.cell 7 (.int .i64 p.nd) (by rw [hA]; rfl)
    have y8 := HNEW.out.cell 8 (.int .i64 p.bt) (by rw [hA]; rfl)
    rw [hA] at hw1
    clear hr hv hf hA
    go_enter Tryd.func12, Tryd.ntmps12
    go_upto_region 1 with fail
    rw [← hw1]
    clear hw1
    go_wp2_with fail
    refine (CR.out _ HNEW.out.2).mono ?_
    rintro e w2 ⟨rfl, hb2⟩
    have HB2 := hide (HNEW.out.keep hb2)
    clear hb2 y0 y1 y2 y3 y4 y5 y6 y7 y8
    go_wp2_with fail
    go_ret2
    exact ⟨rfl, HB2.out.2⟩
  | true =>
    rw [hr] at CR
    obtain ⟨⟨h1, h2⟩, ⟨h3, h4⟩, ⟨h5, h6⟩, h7, h8⟩ := ((right_iff p).1 hr).c
    obtain ⟨n0, hn0⟩ : ∃ n0 : Nat, p.ep = (n0 : Int) := ⟨p.ep.toNat, by omega⟩
    obtain ⟨n6, hn6⟩ : ∃ n6 : Nat, p.dp = (n6 : Int) := ⟨p.dp.toNat, by omega⟩
    obtain ⟨n7, hn7⟩ : ∃ n7 : Nat, p.nd = (n7 : Int) := ⟨p.nd.toNat, by omega⟩
    obtain ⟨n8, hn8⟩ : ∃ n8 : Nat, p.bt = (n8 : Int) := ⟨p.bt.toNat, by omega⟩
    obtain ⟨D0, hD0⟩ : ∃ D : ByteArray, D = ⟨(dec n0).toArray⟩ := ⟨_, rfl⟩
    obtain ⟨D6, hD6⟩ : ∃ D : ByteArray, D = ⟨(dec n6).toArray⟩ := ⟨_, rfl⟩
    obtain ⟨D7, hD7⟩ : ∃ D : ByteArray, D = ⟨(dec n7).toArray⟩ := ⟨_, rfl⟩
    obtain ⟨D8, hD8⟩ : ∃ D : ByteArray, D = ⟨(dec n8).toArray⟩ := ⟨_, rfl⟩
    have s0 : D0.size ≤ 7 := by rw [hD0]; exact dec_size n0 (by omega)
    have s6 : D6.size ≤ 7 := by rw [hD6]; exact dec_size n6 (by omega)
    have s7 : D7.size ≤ 7 := by rw [hD7]; exact dec_size n7 (by omega)
    have s8 : D8.size ≤ 7 := by rw [hD8]; exact dec_size n8 (by omega)
    have CD0 := hide (fun wx (h : BoxP w A wx) => (rdecimal_any n0 (by omega) wx).mono (R' := fun e w' => e = .returned (.string D0) ∧ BoxP w A w') (fun e w' ⟨h1, h2⟩ => ⟨by rw [h1, hD0], h.keep h2⟩))
    have CD6 := hide (fun wx (h : BoxP w A wx) => (rdecimal_any n6 (by omega) wx).mono (R' := fun e w' => e = .returned (.string D6) ∧ BoxP w A w') (fun e w' ⟨h1, h2⟩ => ⟨by rw [h1, hD6], h.keep h2⟩))
    have CD7 := hide (fun wx (h : BoxP w A wx) => (rdecimal_any n7 (by omega) wx).mono (R' := fun e w' => e = .returned (.string D7) ∧ BoxP w A w') (fun e w' ⟨h1, h2⟩ => ⟨by rw [h1, hD7], h.keep h2⟩))
    have CD8 := hide (fun wx (h : BoxP w A wx) => (rdecimal_any n8 (by omega) wx).mono (R' := fun e w' => e = .returned (.string D8) ∧ BoxP w A w') (fun e w' ⟨h1, h2⟩ => ⟨by rw [h1, hD8], h.keep h2⟩))
    obtain ⟨L1, hL1⟩ : ∃ D : ByteArray, D = ⟨(lns (bl ⟨#[101, 108, 101, 109]⟩) (l1.map bl)).toArray⟩ := ⟨_, rfl⟩
    have t1 : L1.size ≤ 10020000000 := by rw [hL1]; exact lns_size ⟨#[101, 108, 101, 109]⟩ l1 (by decide) f1 z1
    have CL1 := hide (fun wx (h : BoxP w A wx) => (rlines_any ⟨#[101, 108, 101, 109]⟩ v1 l1 (by decide) f1 z1 wx (hv.s1.below h.2)).mono (R' := fun e w' => e = .returned (.string L1) ∧ BoxP w A w') (fun e w' ⟨h1, h2⟩ => ⟨by rw [h1, hL1], h2 ▸ h⟩))
    obtain ⟨L2, hL2⟩ : ∃ D : ByteArray, D = ⟨(lns (bl ⟨#[97, 116, 116, 114]⟩) (l2.map bl)).toArray⟩ := ⟨_, rfl⟩
    have t2 : L2.size ≤ 10020000000 := by rw [hL2]; exact lns_size ⟨#[97, 116, 116, 114]⟩ l2 (by decide) f2 z2
    have CL2 := hide (fun wx (h : BoxP w A wx) => (rlines_any ⟨#[97, 116, 116, 114]⟩ v2 l2 (by decide) f2 z2 wx (hv.s2.below h.2)).mono (R' := fun e w' => e = .returned (.string L2) ∧ BoxP w A w') (fun e w' ⟨h1, h2⟩ => ⟨by rw [h1, hL2], h2 ▸ h⟩))
    obtain ⟨L3, hL3⟩ : ∃ D : ByteArray, D = ⟨(lns (bl ⟨#[115, 99, 104, 101, 109, 101]⟩) (l3.map bl)).toArray⟩ := ⟨_, rfl⟩
    have t3 : L3.size ≤ 10020000000 := by rw [hL3]; exact lns_size ⟨#[115, 99, 104, 101, 109, 101]⟩ l3 (by decide) f3 z3
    have CL3 := hide (fun wx (h : BoxP w A wx) => (rlines_any ⟨#[115, 99, 104, 101, 109, 101]⟩ v3 l3 (by decide) f3 z3 wx (hv.s3.below h.2)).mono (R' := fun e w' => e = .returned (.string L3) ∧ BoxP w A w') (fun e w' ⟨h1, h2⟩ => ⟨by rw [h1, hL3], h2 ▸ h⟩))
    obtain ⟨L4, hL4⟩ : ∃ D : ByteArray, D = ⟨(lns (bl ⟨#[99, 108, 97, 115, 115]⟩) (l4.map bl)).toArray⟩ := ⟨_, rfl⟩
    have t4 : L4.size ≤ 10020000000 := by rw [hL4]; exact lns_size ⟨#[99, 108, 97, 115, 115]⟩ l4 (by decide) f4 z4
    have CL4 := hide (fun wx (h : BoxP w A wx) => (rlines_any ⟨#[99, 108, 97, 115, 115]⟩ v4 l4 (by decide) f4 z4 wx (hv.s4.below h.2)).mono (R' := fun e w' => e = .returned (.string L4) ∧ BoxP w A w') (fun e w' ⟨h1, h2⟩ => ⟨by rw [h1, hL4], h2 ▸ h⟩))
    obtain ⟨L5, hL5⟩ : ∃ D : ByteArray, D = ⟨(lns (bl ⟨#[112, 114, 111, 112]⟩) (l5.map bl)).toArray⟩ := ⟨_, rfl⟩
    have t5 : L5.size ≤ 10020000000 := by rw [hL5]; exact lns_size ⟨#[112, 114, 111, 112]⟩ l5 (by decide) f5 z5
    have CL5 := hide (fun wx (h : BoxP w A wx) => (rlines_any ⟨#[112, 114, 111, 112]⟩ v5 l5 (by decide) f5 z5 wx (hv.s5.below h.2)).mono (R' := fun e w' => e = .returned (.string L5) ∧ BoxP w A w') (fun e w' ⟨h1, h2⟩ => ⟨by rw [h1, hL5], h2 ▸ h⟩))
    obtain ⟨E1, hE1⟩ : ∃ T : ByteArray, T = ⟨#[101, 112, 111, 99, 104, 32]⟩ ++ D0 := ⟨_, rfl⟩
    obtain ⟨E2, hE2⟩ : ∃ T : ByteArray, T = E1 ++ ⟨#[10]⟩ := ⟨_, rfl⟩
    obtain ⟨E3, hE3⟩ : ∃ T : ByteArray, T = E2 ++ L1 := ⟨_, rfl⟩
    obtain ⟨E4, hE4⟩ : ∃ T : ByteArray, T = E3 ++ L2 := ⟨_, rfl⟩
    obtain ⟨E5, hE5⟩ : ∃ T : ByteArray, T = E4 ++ L3 := ⟨_, rfl⟩
    obtain ⟨E6, hE6⟩ : ∃ T : ByteArray, T = E5 ++ L4 := ⟨_, rfl⟩
    obtain ⟨T1, hT1⟩ : ∃ T : ByteArray, T = E6 ++ L5 := ⟨_, rfl⟩
    obtain ⟨G1, hG1⟩ : ∃ T : ByteArray, T = T1 ++ ⟨#[99, 97, 112, 115, 32]⟩ := ⟨_, rfl⟩
    obtain ⟨G2, hG2⟩ : ∃ T : ByteArray, T = G1 ++ D6 := ⟨_, rfl⟩
    obtain ⟨G3, hG3⟩ : ∃ T : ByteArray, T = G2 ++ ⟨#[32]⟩ := ⟨_, rfl⟩
    obtain ⟨G4, hG4⟩ : ∃ T : ByteArray, T = G3 ++ D7 := ⟨_, rfl⟩
    obtain ⟨G5, hG5⟩ : ∃ T : ByteArray, T = G4 ++ ⟨#[32]⟩ := ⟨_, rfl⟩
    obtain ⟨G6, hG6⟩ : ∃ T : ByteArray, T = G5 ++ D8 := ⟨_, rfl⟩
    obtain ⟨TT, hTT⟩ : ∃ T : ByteArray, T = G6 ++ ⟨#[10]⟩ := ⟨_, rfl⟩
    have HTX : Hid ((⟨(text p).toArray⟩ : ByteArray) = TT) := hide (by
      apply ba_ext
      rw [hTT, hG6, hG5, hG4, hG3, hG2, hG1, hT1, hE6, hE5, hE4, hE3, hE2, hE1]
      simp only [app_bl]
      rw [hD0, hD6, hD7, hD8, hL1, hL2, hL3, hL4, hL5]
      show text p = [101, 112, 111, 99, 104, 32] ++ dec n0 ++ [10] ++ lns kElem (l1.map bl) ++ lns kAttr (l2.map bl) ++ lns kScheme (l3.map bl) ++ lns kClass (l4.map bl) ++ lns kProp (l5.map bl) ++ [99, 97, 112, 115, 32] ++ dec n6 ++ [32] ++ dec n7 ++ [32] ++ dec n8 ++ [10]
      unfold text
      rw [hn0, hn6, hn7, hn8, hv.e1, hv.e2, hv.e3, hv.e4, hv.e5]
      simp [kEpoch, kCaps])
    have zE1 : E1.size = 6 + D0.size := by rw [hE1, app_size] <;> rfl
    have zE2 : E2.size = E1.size + 1 := by rw [hE2, app_size] <;> rfl
    have zE3 : E3.size = E2.size + L1.size := by rw [hE3, app_size] <;> rfl
    have zE4 : E4.size = E3.size + L2.size := by rw [hE4, app_size] <;> rfl
    have zE5 : E5.size = E4.size + L3.size := by rw [hE5, app_size] <;> rfl
    have zE6 : E6.size = E5.size + L4.size := by rw [hE6, app_size] <;> rfl
    have zT1 : T1.size = E6.size + L5.size := by rw [hT1, app_size] <;> rfl
    have zG1 : G1.size = T1.size + 5 := by rw [hG1, app_size] <;> rfl
    have zG2 : G2.size = G1.size + D6.size := by rw [hG2, app_size] <;> rfl
    have zG3 : G3.size = G2.size + 1 := by rw [hG3, app_size] <;> rfl
    have zG4 : G4.size = G3.size + D7.size := by rw [hG4, app_size] <;> rfl
    have zG5 : G5.size = G4.size + 1 := by rw [hG5, app_size] <;> rfl
    have zG6 : G6.size = G5.size + D8.size := by rw [hG6, app_size] <;> rfl
    have zTT : TT.size = G6.size + 1 := by rw [hTT, app_size] <;> rfl
    have aE1 : ∀ w, (Op.stringOp .add ⟨#[101, 112, 111, 99, 104, 32]⟩ D0).run Tryd.prog w = .ok (.string E1) w := fun w => by rw [hE1]; exact add_str _ _ (by first | omega | (show 6 + _ ≤ _; omega) | (show _ + 1 ≤ _; omega) | (show _ + 5 ≤ _; omega)) w
    have aE2 : ∀ w, (Op.stringOp .add E1 ⟨#[10]⟩).run Tryd.prog w = .ok (.string E2) w := fun w => by rw [hE2]; exact add_str _ _ (by first | omega | (show 6 + _ ≤ _; omega) | (show _ + 1 ≤ _; omega) | (show _ + 5 ≤ _; omega)) w
    have aE3 : ∀ w, (Op.stringOp .add E2 L1).run Tryd.prog w = .ok (.string E3) w := fun w => by rw [hE3]; exact add_str _ _ (by first | omega | (show 6 + _ ≤ _; omega) | (show _ + 1 ≤ _; omega) | (show _ + 5 ≤ _; omega)) w
    have aE4 : ∀ w, (Op.stringOp .add E3 L2).run Tryd.prog w = .ok (.string E4) w := fun w => by rw [hE4]; exact add_str _ _ (by first | omega | (show 6 + _ ≤ _; omega) | (show _ + 1 ≤ _; omega) | (show _ + 5 ≤ _; omega)) w
    have aE5 : ∀ w, (Op.stringOp .add E4 L3).run Tryd.prog w = .ok (.string E5) w := fun w => by rw [hE5]; exact add_str _ _ (by first | omega | (show 6 + _ ≤ _; omega) | (show _ + 1 ≤ _; omega) | (show _ + 5 ≤ _; omega)) w
    have aE6 : ∀ w, (Op.stringOp .add E5 L4).run Tryd.prog w = .ok (.string E6) w := fun w => by rw [hE6]; exact add_str _ _ (by first | omega | (show 6 + _ ≤ _; omega) | (show _ + 1 ≤ _; omega) | (show _ + 5 ≤ _; omega)) w
    have aT1 : ∀ w, (Op.stringOp .add E6 L5).run Tryd.prog w = .ok (.string T1) w := fun w => by rw [hT1]; exact add_str _ _ (by first | omega | (show 6 + _ ≤ _; omega) | (show _ + 1 ≤ _; omega) | (show _ + 5 ≤ _; omega)) w
    have aG1 : ∀ w, (Op.stringOp .add T1 ⟨#[99, 97, 112, 115, 32]⟩).run Tryd.prog w = .ok (.string G1) w := fun w => by rw [hG1]; exact add_str _ _ (by first | omega | (show 6 + _ ≤ _; omega) | (show _ + 1 ≤ _; omega) | (show _ + 5 ≤ _; omega)) w
    have aG2 : ∀ w, (Op.stringOp .add G1 D6).run Tryd.prog w = .ok (.string G2) w := fun w => by rw [hG2]; exact add_str _ _ (by first | omega | (show 6 + _ ≤ _; omega) | (show _ + 1 ≤ _; omega) | (show _ + 5 ≤ _; omega)) w
    have aG3 : ∀ w, (Op.stringOp .add G2 ⟨#[32]⟩).run Tryd.prog w = .ok (.string G3) w := fun w => by rw [hG3]; exact add_str _ _ (by first | omega | (show 6 + _ ≤ _; omega) | (show _ + 1 ≤ _; omega) | (show _ + 5 ≤ _; omega)) w
    have aG4 : ∀ w, (Op.stringOp .add G3 D7).run Tryd.prog w = .ok (.string G4) w := fun w => by rw [hG4]; exact add_str _ _ (by first | omega | (show 6 + _ ≤ _; omega) | (show _ + 1 ≤ _; omega) | (show _ + 5 ≤ _; omega)) w
    have aG5 : ∀ w, (Op.stringOp .add G4 ⟨#[32]⟩).run Tryd.prog w = .ok (.string G5) w := fun w => by rw [hG5]; exact add_str _ _ (by first | omega | (show 6 + _ ≤ _; omega) | (show _ + 1 ≤ _; omega) | (show _ + 5 ≤ _; omega)) w
    have aG6 : ∀ w, (Op.stringOp .add G5 D8).run Tryd.prog w = .ok (.string G6) w := fun w => by rw [hG6]; exact add_str _ _ (by first | omega | (show 6 + _ ≤ _; omega) | (show _ + 1 ≤ _; omega) | (show _ + 5 ≤ _; omega)) w
    have aTT : ∀ w, (Op.stringOp .add G6 ⟨#[10]⟩).run Tryd.prog w = .ok (.string TT) w := fun w => by rw [hTT]; exact add_str _ _ (by first | omega | (show 6 + _ ≤ _; omega) | (show _ + 1 ≤ _; omega) | (show _ + 5 ≤ _; omega)) w
    clear zE1 zE2 zE3 zE4 zE5 zE6 zT1 zG1 zG2 zG3 zG4 zG5 zG6 zTT
    rw [hn0, hn6, hn7, hn8] at CR hA
    rw [hn0, hn6, hn7, hn8, if_pos rfl, if_pos rfl, HTX.out]
    have HA0 : Hid (A[0]? = some (.int .i64 (n0 : Int)) ∧ A[1]? = some v1 ∧ A[2]? = some v2 ∧ A[3]? = some v3 ∧ A[4]? = some v4 ∧ A[5]? = some v5 ∧ A[6]? = some (.int .i64 (n6 : Int)) ∧ A[7]? = some (.int .i64 (n7 : Int)) ∧ A[8]? = some (.int .i64 (n8 : Int))) := hide (by rw [hA]; exact ⟨rfl, rfl, rfl, rfl, rfl, rfl, rfl, rfl, rfl⟩)
    have S3 : Hid (∀ wx, BoxP w A wx → wx.cell? ⟨w.heap.size, 0, none⟩ = some (.int .i64 (n0 : Int)) ∧ wx.cell? ⟨w.heap.size, 1, none⟩ = some v1 ∧ wx.cell? ⟨w.heap.size, 2, none⟩ = some v2 ∧ wx.cell? ⟨w.heap.size, 3, none⟩ = some v3 ∧ wx.cell? ⟨w.heap.size, 4, none⟩ = some v4 ∧ wx.cell? ⟨w.heap.size, 5, none⟩ = some v5 ∧ Hid (BoxP w A wx)) := hide (fun wx h => ⟨h.cell 0 _ HA0.out.1, h.cell 1 _ HA0.out.2.1, h.cell 2 _ HA0.out.2.2.1, h.cell 3 _ HA0.out.2.2.2.1, h.cell 4 _ HA0.out.2.2.2.2.1, h.cell 5 _ HA0.out.2.2.2.2.2.1, hide h⟩)
    have SB3 : Hid (∀ wx, (wx.cell? ⟨w.heap.size, 0, none⟩ = some (.int .i64 (n0 : Int)) ∧ wx.cell? ⟨w.heap.size, 1, none⟩ = some v1 ∧ wx.cell? ⟨w.heap.size, 2, none⟩ = some v2 ∧ wx.cell? ⟨w.heap.size, 3, none⟩ = some v3 ∧ wx.cell? ⟨w.heap.size, 4, none⟩ = some v4 ∧ wx.cell? ⟨w.heap.size, 5, none⟩ = some v5 ∧ Hid (BoxP w A wx)) → BoxP w A wx) := hide (fun wx h => h.2.2.2.2.2.2.out)
    have SB4 : Hid (∀ wx, (wx.cell? ⟨w.heap.size, 6, none⟩ = some (.int .i64 (n6 : Int)) ∧ wx.cell? ⟨w.heap.size, 7, none⟩ = some (.int .i64 (n7 : Int)) ∧ wx.cell? ⟨w.heap.size, 8, none⟩ = some (.int .i64 (n8 : Int)) ∧ Hid (BoxP w A wx)) → BoxP w A wx) := hide (fun wx h => h.2.2.2.out)
    have S4 : Hid (∀ wx, BoxP w A wx → wx.cell? ⟨w.heap.size, 6, none⟩ = some (.int .i64 (n6 : Int)) ∧ wx.cell? ⟨w.heap.size, 7, none⟩ = some (.int .i64 (n7 : Int)) ∧ wx.cell? ⟨w.heap.size, 8, none⟩ = some (.int .i64 (n8 : Int)) ∧ Hid (BoxP w A wx)) := hide (fun wx h => ⟨h.cell 6 _ HA0.out.2.2.2.2.2.2.1, h.cell 7 _ HA0.out.2.2.2.2.2.2.2.1, h.cell 8 _ HA0.out.2.2.2.2.2.2.2.2, hide h⟩)
    obtain ⟨w1, hw1⟩ : ∃ w1, w1 = w.alloc (.cells A 24) := ⟨_, rfl⟩
    rw [← hw1] at HNEW
    have y0 := (S3.out w1 HNEW.out).1
    have y1 := (S3.out w1 HNEW.out).2.1
    have y2 := (S3.out w1 HNEW.out).2.2.1
    have y3 := (S3.out w1 HNEW.out).2.2.2.1
    have y4 := (S3.out w1 HNEW.out).2.2.2.2.1
    have y5 := (S3.out w1 HNEW.out).2.2.2.2.2.1
    have y6 := (S4.out w1 HNEW.out).1
    have y7 := (S4.out w1 HNEW.out).2.1
    have y8 := (S4.out w1 HNEW.out).2.2.1
    rw [hA] at hw1
    clear hr hv hf hA hE1 hE2 hE3 hE4 hE5 hE6 hT1 hG1 hG2 hG3 hG4 hG5 hG6 hTT HTX hD0 hD6 hD7 hD8 hL1 hL2 hL3 hL4 hL5 hn0 hn6 hn7 hn8 h1 h2 h3 h4 h5 h6 h7 h8 s0 s6 s7 s8 t1 t2 t3 t4 t5 z1 z2 z3 z4 z5 f1 f2 f3 f4 f5
    go_enter Tryd.func12, Tryd.ntmps12
    go_upto_region 1 with fail
    rw [← hw1]
    clear hw1
    go_wp2_with fail
    refine (CR.out _ HNEW.out.2).mono ?_
    rintro e w2 ⟨rfl, hb2⟩
    have HB2 := hide (HNEW.out.keep hb2)
    clear hb2 y0 y1 y2 y3 y4 y5 y6 y7 y8 CR HNEW
    go_wp2_with fail
    go_region_held3 (fun wx => wx.cell? ⟨w.heap.size, 0, none⟩ = some (.int .i64 (n0 : Int)) ∧ wx.cell? ⟨w.heap.size, 1, none⟩ = some v1 ∧ wx.cell? ⟨w.heap.size, 2, none⟩ = some v2 ∧ wx.cell? ⟨w.heap.size, 3, none⟩ = some v3 ∧ wx.cell? ⟨w.heap.size, 4, none⟩ = some v4 ∧ wx.cell? ⟨w.heap.size, 5, none⟩ = some v5 ∧ Hid (BoxP w A wx))
      (first | exact S3.out _ HB2.out.drew | exact S3.out _ (by assumption))
      (first
        | (go_at_call 31; refine (CD0.out _ (SB3.out _ (by assumption))).mono ?_; rintro e w3 ⟨rfl, hB3⟩)
        | (go_at_call_of 32 v1; refine (CL1.out _ (SB3.out _ (by assumption))).mono ?_; rintro e w3 ⟨rfl, hB3⟩)
        | (go_at_call_of 32 v2; refine (CL2.out _ (SB3.out _ (by assumption))).mono ?_; rintro e w3 ⟨rfl, hB3⟩)
        | (go_at_call_of 32 v3; refine (CL3.out _ (SB3.out _ (by assumption))).mono ?_; rintro e w3 ⟨rfl, hB3⟩)
        | (go_at_call_of 32 v4; refine (CL4.out _ (SB3.out _ (by assumption))).mono ?_; rintro e w3 ⟨rfl, hB3⟩)
        | (go_at_call_of 32 v5; refine (CL5.out _ (SB3.out _ (by assumption))).mono ?_; rintro e w3 ⟨rfl, hB3⟩))
    have HB3 := hide (SB3.out _ (by assumption))
    clear S3 SB3 CD0 CL1 CL2 CL3 CL4 CL5
    go_wp2_with fail
    go_region_held3 (fun wx => wx.cell? ⟨w.heap.size, 6, none⟩ = some (.int .i64 (n6 : Int)) ∧ wx.cell? ⟨w.heap.size, 7, none⟩ = some (.int .i64 (n7 : Int)) ∧ wx.cell? ⟨w.heap.size, 8, none⟩ = some (.int .i64 (n8 : Int)) ∧ Hid (BoxP w A wx))
      (first | exact S4.out _ HB3.out.drew | exact S4.out _ (by assumption))
      (first
        | (go_at_call_of 31 n6; refine (CD6.out _ (SB4.out _ (by assumption))).mono ?_; rintro e w5 ⟨rfl, hB5⟩)
        | (go_at_call_of 31 n7; refine (CD7.out _ (SB4.out _ (by assumption))).mono ?_; rintro e w5 ⟨rfl, hB5⟩)
        | (go_at_call_of 31 n8; refine (CD8.out _ (SB4.out _ (by assumption))).mono ?_; rintro e w5 ⟨rfl, hB5⟩))
    have HB4 := hide (SB4.out _ (by assumption))
    go_wp2_with fail
    go_ret2
    exact ⟨rfl, HB4.out.2⟩
end Go.Proofs.YteglmpaapcgfbaaDoor
