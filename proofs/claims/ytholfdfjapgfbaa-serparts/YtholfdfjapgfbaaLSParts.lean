/-
  The law SerParts, walked: it answers true at every two trees and every name.
-/
import Derived.Test.YtholfdfjapgfbaaN14
import Derived.Test.YtholfdfjapgfbaaONod
namespace Go.Proofs.Ytholfdfjapgfbaa
open Go.RowKit
open Utf1

theorem infoNd : (Try.prog.info? 29).map (fun i => (i.zero, i.size, i.bytes)) = some (some (.agg #[.string ⟨#[]⟩, .slice none 0 0, .string ⟨#[]⟩, .slice none 0 0]), 4, 80) := by kernel_rfl
theorem info_nd : ∃ i : TypeInfo, Try.prog.info? 29 = some i ∧ i.zero = some (.agg #[.string ⟨#[]⟩, .slice none 0 0, .string ⟨#[]⟩, .slice none 0 0]) ∧ i.size = 4 ∧ i.bytes = 80 := by
  have h := infoNd
  cases hi : Try.prog.info? 29 with
  | none => rw [hi] at h; simp at h
  | some i =>
    rw [hi] at h
    simp at h
    exact ⟨i, rfl, h.1, h.2.1, h.2.2⟩

theorem own_base_le {w : World} {B : Nat} {e : TypeId} {sz : Nat} {v : Value} {n : Nat} {xs : List Value} (h : w.ownsRow B e sz v n xs) : ∀ k, v.ownBlock = some k → B ≤ k := by
  intro k hk
  obtain ⟨_, ⟨rfl, _⟩ | ⟨g, cap, cur, rfl, h1, _⟩⟩ := h
  · simp [Value.ownBlock] at hk
  · have : g = k := by simpa [Value.ownBlock] using hk
    omega
/-- Nodes that came in, appended to a row of nodes. -/
theorem wpList_append_nods {ops : Array Oper} {rest : List Oper} {o : Oper} {a : Act} {Q : Exit → Act → World → Prop} (hgd : o.guard = none) (s x : Operand)
    (ho : o.op = .call { callee := .builtin .append, args := #[s, x], argTypes := #[22, 22] })
    (w0 w : World) (d : Nat) (v vb : Value) (xs : List Value) (na nb : List Nd) (hs : a.eval s = v) (hx : a.eval x = vb) (hb : Below w0.heap.size w0 w) (hown : w.ownsRow w0.heap.size 29 4 v na.length xs) (hr : RowOf w0 d xs na)
    (hn : NAtD w0 (d + 1) vb nb) (hc : vb = .slice none 0 0 ∨ ∃ ad m c, vb = .slice (some ad) m c) (hl : na.length + nb.length ≤ 100000)
    (h : ∀ v' w' ys, w'.ownsRow w0.heap.size 29 4 v' (na ++ nb).length ys → RowOf w0 d ys (na ++ nb) → Below w0.heap.size w0 w' → wpList Try.prog ops Q rest (a.put o.dst v') w') : wpList Try.prog ops Q (o :: rest) a w := by
  obtain ⟨i0, hi, hz0, hz1, hz2⟩ := info_nd
  rcases hc with rfl | ⟨ad, m, c, rfl⟩
  · have hnb : nb = [] := by
      obtain ⟨p, c, e, _⟩ := hn
      injection e with _ e
      cases nb with
      | nil => rfl
      | cons => simp at e
    subst hnb
    refine wpList_append_own_none hgd s x 22 ho w0.heap.size 29 i0 4 Try.underlying22 hi v na.length xs hs hown hx (h v w xs ?_ ?_ hb)
    · rw [List.append_nil]; exact hown
    · rw [List.append_nil]; exact hr
  · obtain ⟨hm, _, ys, h1, h2, h3⟩ := row_of hn
    refine wpList_append_own w hgd s x 22 ho w0.heap.size 29 i0 _ 4 80 Try.underlying22 hi hz0 hz1 hz2 rfl (by decide) v na.length xs hs hown ad m c ys hx (by rw [h1.1, hm]) (fun j u hj => cell_keep (h2 j u hj) hb) h3 (by unfold maxLen; omega) (by omega) hb.size ?_
    intro v' w' g1 g2 _
    refine h v' w' (xs ++ ys) ?_ (hr.app h1) (hb.grown g2 hb.size (fun j hj => own_base_le hown j hj))
    rw [List.length_append, ← hm]
    exact g1

set_option maxRecDepth 100000 in
set_option maxHeartbeats 8000000 in
theorem lawSParts_walk (va : Value) (a : List Nd) (vb : Value) (b : List Nd) (name : ByteArray) (w : World) (ha : NArg w va a) (hb : NArg w vb b) (hs : name.size ≤ maxLen) :
    Calls Try.prog 4 #[va, vb, .string name] w fun e w' => e = .returned (.bool true) ∧ Below w.heap.size w w' := by
  unfold maxLen at hs
  have HA := hide ha
  have HB := hide hb
  clear ha hb
  go_enter Try.func4, Try.ntmps4
  go_wp2_with fail
  refine (awake_nst _).mono ?_
  rintro e w1 ⟨rfl, hb1⟩
  have HB1 := hide hb1
  have HL1 := hide (light_nst w1 va a (HA.out.1.below hb1))
  clear hb1
  go_wp2_with fail
  refine HL1.out.mono ?_
  rintro e w2 ⟨l1, rfl, hl1, hb2⟩
  have HB2 := hide (bel2 HB1.out hb2)
  have HLA := hide hl1
  clear hb2 HL1 HB1 hl1
  have HL2 := hide (light_nst w2 vb b (HB.out.1.below HB2.out))
  go_wp2_with fail
  refine HL2.out.mono ?_
  rintro e w3 ⟨l2, rfl, hl2, hb3⟩
  have HB3 := hide (bel2 HB2.out hb3)
  have HLB := hide hl2
  clear hb3 HL2 HB2 hl2
  cases l1 with
  | false =>
    go_wp2_with fail
    all_goals
      go_ret
      exact ⟨rfl, HB3.out⟩
  | true =>
  cases l2 with
  | false =>
    go_wp2_with fail
    all_goals
      go_ret
      exact ⟨rfl, HB3.out⟩
  | true =>
  by_cases h0 : name.size = 0
  · have h0' : ((name.size : Int) == 0) = true := by rw [h0]; rfl
    go_wp2_with fail
    all_goals
      go_ret
      exact ⟨rfl, HB3.out⟩
  have h0' : ((name.size : Int) == 0) = false := beq_eq_false_iff_ne.2 (by omega)
  by_cases h100 : 100 < name.size
  · go_wp2_with fail
    all_goals
      go_ret
      exact ⟨rfl, HB3.out⟩
  have hwa := HLA.out rfl
  have hwb := HLB.out rfl
  have HA3 := hide (HA.out.below HB3.out)
  have HB3' := hide (HB.out.below HB3.out)
  clear HA HB HLA HLB
  obtain ⟨D1, hD1⟩ := HA3.out.1
  obtain ⟨D2, hD2⟩ := HB3'.out.1
  have hE1 : NAtD w3 (max D1 D2 + 1) va a := hD1.more (by omega)
  have hE2 : NAtD w3 (max D1 D2 + 1) vb b := hD2.more (by omega)
  have hla := Nat.le_trans (nc_len a) (ncL_ws a)
  have hlb := Nat.le_trans (nc_len b) (ncL_ws b)
  obtain ⟨wz, hwz⟩ : ∃ wz, wz = w3.alloc (.cells #[] 29) := ⟨_, rfl⟩
  have hbz : Below w3.heap.size w3 wz := by rw [hwz]; exact (Below.refl _ _).alloc (Nat.le_refl _) _
  have hown0 : wz.ownsRow w3.heap.size 29 4 (.slice (some ⟨w3.heap.size, 0, none⟩) 0 0) 0 [] := by
    rw [hwz]
    exact World.ownsRow_made w3 #[] 0 (Nat.le_refl _) (by decide) rfl
  have HE1 := hide hE1
  have HE2 := hide hE2
  have HOWN := hide hown0
  have HBZ := hide hbz
  have HLL : Hid (a.length ≤ 20000 ∧ b.length ≤ 20000) := hide ⟨by omega, by omega⟩
  have HWW := hide (And.intro hwa hwb)
  clear hD1 hD2 hE1 hE2 hla hlb hbz hown0 hwa hwb
  have hca := HA3.out.2
  have hcb := HB3'.out.2
  obtain ⟨pa, ma, ca, rfl⟩ : ∃ p m c, va = .slice p m c := by
    rcases hca with rfl | ⟨ad, m, c, rfl⟩
    · exact ⟨_, _, _, rfl⟩
    · exact ⟨_, _, _, rfl⟩
  obtain ⟨pb, mb, cb, rfl⟩ : ∃ p m c, vb = .slice p m c := by
    rcases hcb with rfl | ⟨ad, m, c, rfl⟩
    · exact ⟨_, _, _, rfl⟩
    · exact ⟨_, _, _, rfl⟩
  have HCA := hide hca
  have HCB := hide hcb
  clear hca hcb
  go_upto_region 6 with fail
  go_wp2_with (at_builtin; rw [← hwz]; refine wpList_append_nods rfl (.tmp 34) (.tmp 35) rfl w3 wz (max D1 D2) _ _ [] [] a rfl rfl HBZ.out HOWN.out (RowOf.nil _ _) HE1.out HCA.out (by have := HLL.out; simp; omega) ?_)
  intro v1 w4 ys1 ho1 hr1 hb4
  obtain ⟨p1, c1, rfl⟩ := own_len ho1
  have HO1 := hide ho1
  have HR1 := hide hr1
  have HB4 := hide hb4
  clear ho1 hr1 hb4 hwz HOWN HBZ
  go_wp2_with (at_builtin; refine wpList_append_nods rfl (.tmp 36) (.tmp 37) rfl w3 w4 (max D1 D2) _ _ ys1 a b rfl rfl HB4.out HO1.out HR1.out HE2.out HCB.out (by have := HLL.out; simp; omega) ?_)
  intro v2 w5 ys2 ho2 hr2 hb5
  have HK5 : Hid (NAt w5 v2 (a ++ b)) := hide ⟨_, natD_own ho2 (hr2.below hb5) (by simp) (by have := HLL.out; omega)⟩
  obtain ⟨p2, c2, hv2⟩ := own_len ho2
  obtain ⟨mm, hmm⟩ : ∃ mm, mm = a.length + b.length := ⟨_, rfl⟩
  rw [← hmm] at hv2
  subst hv2
  have HB5 := hide (bel2 HB3.out hb5)
  have HB35 := hide hb5
  clear ho2 hr2 hb5 HO1 HR1 HB4 HCA HCB HE1 HE2 hmm
  have hll := htL_len a
  have hlb := htL_len b
  have HLen : Hid ((htL a).length ≤ 120000 ∧ (htL b).length ≤ 120000) := hide ⟨by have := HWW.out.1; omega, by have := HWW.out.2; omega⟩
  have HH1 := hide (html_nst w5 _ (a ++ b) HK5.out (by rw [htL_app, List.length_append]; have := HLen.out; omega))
  have HA5 := hide (HA3.out.1.below HB35.out)
  have HB5' := hide (HB3'.out.1.below HB35.out)
  clear HK5 HA3 HB3' HB35 HLL hll hlb
  go_wp2_with fail
  refine HH1.out.mono ?_
  rintro e w6 ⟨⟨O1, rfl, hO1⟩, hb6⟩
  have HO1 := hide hO1
  have HB6 := hide (bel2 HB5.out hb6)
  have HH2 := hide (html_nst w6 _ a (HA5.out.below hb6) (by have := HLen.out; omega))
  have HA6 := hide (HA5.out.below hb6)
  have HB6' := hide (HB5'.out.below hb6)
  clear hb6 hO1 HH1 HB5 HA5 HB5'
  go_wp2_with fail
  refine HH2.out.mono ?_
  rintro e w7 ⟨⟨O2, rfl, hO2⟩, hb7⟩
  have HO2 := hide hO2
  have HB7 := hide (bel2 HB6.out hb7)
  have HH3 := hide (html_nst w7 _ b (HB6'.out.below hb7) (by have := HLen.out; omega))
  have HA7 := hide (HA6.out.below hb7)
  clear hb7 hO2 HH2 HB6 HA6 HB6'
  go_wp2_with fail
  refine HH3.out.mono ?_
  rintro e w8 ⟨⟨O3, rfl, hO3⟩, hb8⟩
  have HO3 := hide hO3
  have HB8 := hide (bel2 HB7.out hb8)
  have HA8 := hide (HA7.out.below hb8)
  have hs2 : O2.size ≤ 120000 := by rw [← bl_len, HO2.out]; exact HLen.out.1
  have hs3 : O3.size ≤ 120000 := by rw [← bl_len, HO3.out]; exact HLen.out.2
  have hO : O1 = O2 ++ O3 := by
    rw [← bl_eta O1, ← bl_eta (O2 ++ O3), bl_cat, HO1.out, HO2.out, HO3.out, htL_app]
  subst hO
  clear hb8 hO3 HH3 HB7 HA7 HO1 HO3
  have hns : name.size ≤ 100 := by omega
  have hn0 : bl name ≠ [] := by
    intro h
    apply h0
    rw [← bl_len, h]
    rfl
  obtain ⟨q, m, c, e8, hat⟩ := nat_around (n := name) (by omega) HA8.out
  injection e8 with e81 e82 e83
  subst e81
  subst e82
  subst e83
  have HAT := hide (hat 29)
  have HTN : Hid (htL [.mk (bl name) [] [] a] = [60] ++ bl name ++ [62] ++ (if bl name ∈ voids then [] else htL a ++ ([60, 47] ++ bl name ++ [62]))) := hide (by
    show htN _ ++ [] = _
    rw [List.append_nil, htN, if_neg hn0]
    show [60] ++ bl name ++ [] ++ [62] ++ _ = _
    rw [List.append_nil])
  obtain ⟨w9, hw9⟩ : ∃ w9, w9 = w8.alloc (.cells #[.string name, .slice none 0 0, .string ⟨#[]⟩, .slice pa ma ca] 29) := ⟨_, rfl⟩
  have hb9 : Below w8.heap.size w8 w9 := by rw [hw9]; exact (Below.refl _ _).alloc (Nat.le_refl _) _
  rw [← hw9] at HAT
  have HH4 := hide (html_nst w9 _ _ HAT.out (by
    rw [HTN.out]
    have := HLen.out
    split <;> simp only [List.length_append, List.length_cons, List.length_nil, bl_len] <;> omega))
  have HB9 := hide (bel2 HB8.out hb9)
  have HA9 := hide (HA8.out.below hb9)
  clear hat HAT hb9 HB8 HA8
  go_wp2_with fail
  rw [← hw9]
  clear hw9
  refine HH4.out.mono ?_
  rintro e w10 ⟨⟨O4, rfl, hO4⟩, hb10⟩
  have HO4 := hide hO4
  have HB10 := hide (bel2 HB9.out hb10)
  have HA10 := hide (HA9.out.below hb10)
  clear hb10 hO4 HH4 HB9 HA9
  have HV := hide (void_any name w10)
  by_cases hv : bl name ∈ voids
  · rw [decide_eq_true hv] at HV
    have hO : O4 = ⟨#[60]⟩ ++ name ++ ⟨#[62]⟩ := by
      rw [← bl_eta O4, ← bl_eta (⟨#[60]⟩ ++ name ++ ⟨#[62]⟩), bl_cat, bl_cat, HO4.out, HTN.out, if_pos hv, List.append_nil]
    subst hO
    clear HO4 HTN HA10
    go_wp2_with fail
    refine HV.out.mono ?_
    rintro e w11 ⟨rfl, rfl⟩
    go_wp2_with fail
    go_ret
    exact ⟨rfl, HB10.out⟩
  · rw [decide_eq_false hv] at HV
    have HH5 := hide (html_nst w10 _ a HA10.out (by have := HLen.out; omega))
    have HO5 : Hid (∀ O5 : ByteArray, bl O5 = htL a → O4 = ⟨#[60]⟩ ++ name ++ ⟨#[62]⟩ ++ O5 ++ ⟨#[60, 47]⟩ ++ name ++ ⟨#[62]⟩) := hide (by
      intro O5 h5
      rw [← bl_eta O4, ← bl_eta (⟨#[60]⟩ ++ name ++ ⟨#[62]⟩ ++ O5 ++ ⟨#[60, 47]⟩ ++ name ++ ⟨#[62]⟩), bl_cat, bl_cat, bl_cat, bl_cat, bl_cat, bl_cat, HO4.out, HTN.out, if_neg hv, h5]
      simp only [List.append_assoc])
    clear HTN HA10 HO4
    go_wp2_with fail
    refine HV.out.mono ?_
    rintro e w11 ⟨rfl, rfl⟩
    clear HV
    go_wp2_with fail
    refine HH5.out.mono ?_
    rintro e w12 ⟨⟨O5, rfl, hO5⟩, hb12⟩
    have HB12 := hide (bel2 HB10.out hb12)
    have hs5 : O5.size ≤ 120000 := by rw [← bl_len, hO5]; exact HLen.out.1
    have hO := HO5.out O5 hO5
    subst hO
    clear hb12 hO5 HO5 HH5 HB10
    go_wp2_with fail
    go_ret
    exact ⟨rfl, HB12.out⟩
end Go.Proofs.Ytholfdfjapgfbaa
