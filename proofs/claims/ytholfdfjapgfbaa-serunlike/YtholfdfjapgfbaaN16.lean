/-
  The document's Same, at two trees that are read alone.
-/
import Derived.Test.YtholfdfjapgfbaaN0
import Derived.BigQuiet
namespace Utf1
mutual
/-- Whether two nodes are the same. -/
def sameN : Nd → Nd → Bool
  | .mk n a t k, .mk n' a' t' k' => decide (n = n') && decide (t = t') && decide (a = a') && sameL k k'
def sameL : List Nd → List Nd → Bool
  | [], [] => true
  | n :: r, m :: s => sameN n m && sameL r s
  | [], _ :: _ => false
  | _ :: _, [] => false
end
mutual
theorem sameN_iff : ∀ n m : Nd, sameN n m = true ↔ n = m
  | .mk n a t k, .mk n' a' t' k' => by
    rw [sameN, Bool.and_eq_true, Bool.and_eq_true, Bool.and_eq_true, decide_eq_true_iff, decide_eq_true_iff, decide_eq_true_iff, sameL_iff k k', Nd.mk.injEq]
    constructor
    · rintro ⟨⟨⟨h1, h2⟩, h3⟩, h4⟩
      exact ⟨h1, h3, h2, h4⟩
    · rintro ⟨h1, h3, h2, h4⟩
      exact ⟨⟨⟨h1, h2⟩, h3⟩, h4⟩
theorem sameL_iff : ∀ l m : List Nd, sameL l m = true ↔ l = m
  | [], [] => by simp [sameL]
  | n :: r, m :: s => by rw [sameL, Bool.and_eq_true, sameN_iff n m, sameL_iff r s, List.cons.injEq]
  | [], _ :: _ => by simp [sameL]
  | _ :: _, [] => by simp [sameL]
end
theorem sameN_kids (n m : Nd) : sameN n m = (decide (n.name = m.name) && decide (n.text = m.text) && decide (n.attrs = m.attrs) && sameL n.kids m.kids) := by
  cases n
  cases m
  rw [sameN]
  rfl
theorem sameL_len : ∀ l m : List Nd, l.length ≠ m.length → sameL l m = false := by
  intro l m h
  cases hs : sameL l m with
  | false => rfl
  | true => exact absurd (congrArg List.length ((sameL_iff l m).1 hs)) h
end Utf1
namespace Go.Proofs.Ytholfdfjapgfbaa
open Go.RowKit
open Utf1

theorem same_bytes (X Y : ByteArray) : (X.toList == Y.toList) = decide (bl X = bl Y) := by
  by_cases h : bl X = bl Y
  · rw [decide_eq_true h]
    exact beq_same h
  · rw [decide_eq_false h]
    exact beq_ne h

set_option maxRecDepth 100000 in
set_option maxHeartbeats 8000000 in
theorem sameAttrs_nst (a b : List (List UInt8 × List UInt8)) (w : World) (pa pb : Option Addr) (ma ca mb cb : Nat) (ha : ARow w pa ma a) (hb : ARow w pb mb b) :
    Calls Try.prog 23 #[.slice pa ma ca, .slice pb mb cb] w fun e w' => e = .returned (.bool (decide (a = b))) ∧ ∃ n, w' = w.drewN n := by
  obtain ⟨R, hR⟩ : ∃ R, R = decide (a = b) := ⟨_, rfl⟩
  rw [← hR]
  have HR := hide hR
  have h1 := ha.1.1
  have h2 := hb.1.1
  have h3 := ha.1.2
  have h4 := hb.1.2
  have HA := hide ha
  have HB := hide hb
  clear ha hb hR
  by_cases hl : ma = mb
  case neg =>
    have HRF : Hid (R = false) := hide (by rw [HR.out]; exact decide_eq_false (fun e => hl (by rw [h1, h2, e])))
    have hn : ((ma : Int) == (mb : Int)) = false := beq_eq_false_iff_ne.2 (by omega)
    clear hl h1 h2
    go_enter Try.func23, Try.ntmps23
    go_wp2_with fail
    go_ret
    exact ⟨ret_bool HRF.out.symm, 0, rfl⟩
  case pos =>
  subst hl
  have H12 := hide (And.intro h1 h2)
  clear h1 h2
  go_enter Try.func23, Try.ntmps23
  go_wp2_with fail
  go_loopg [5] ma (fun g v wr => ∃ i k : Nat, i + g = ma ∧ v = .int .i64 (i : Int) ∧ wr = w.drewN k ∧ Hid (a.take i = b.take i))
  case atStart => exact ⟨0, 0, by omega, rfl, rfl, hide rfl⟩
  case round =>
    obtain ⟨i, k, hig, rfl, rfl, HT⟩ := hrel
    by_cases hlt : i < ma
    · have hia : i < a.length := by rw [← H12.out.1]; exact hlt
      have hib : i < b.length := by rw [← H12.out.2]; exact hlt
      have ga : a[i]? = some a[i] := List.getElem?_eq_getElem hia
      have gb : b[i]? = some b[i] := List.getElem?_eq_getElem hib
      generalize a[i] = ka at ga
      generalize b[i] = kb at gb
      obtain ⟨g1, o1, e1, x0, x1, -, -⟩ := HA.out.2 i ka ga
      obtain ⟨g2, o2, e2, y0, y1, -, -⟩ := HB.out.2 i kb gb
      subst e1
      subst e2
      have x0 : (w.drewN k).cell? ⟨g1, o1 + i * 2, none⟩ = some (.string ⟨ka.1.toArray⟩) := x0
      have x1 : (w.drewN k).cell? ⟨g1, o1 + i * 2 + 1, none⟩ = some (.string ⟨ka.2.toArray⟩) := x1
      have y0 : (w.drewN k).cell? ⟨g2, o2 + i * 2, none⟩ = some (.string ⟨kb.1.toArray⟩) := y0
      have y1 : (w.drewN k).cell? ⟨g2, o2 + i * 2 + 1, none⟩ = some (.string ⟨kb.2.toArray⟩) := y1
      obtain ⟨X0, hX0⟩ : ∃ X : ByteArray, X = ⟨ka.1.toArray⟩ := ⟨_, rfl⟩
      obtain ⟨X1, hX1⟩ : ∃ X : ByteArray, X = ⟨ka.2.toArray⟩ := ⟨_, rfl⟩
      obtain ⟨Y0, hY0⟩ : ∃ X : ByteArray, X = ⟨kb.1.toArray⟩ := ⟨_, rfl⟩
      obtain ⟨Y1, hY1⟩ : ∃ X : ByteArray, X = ⟨kb.2.toArray⟩ := ⟨_, rfl⟩
      rw [← hX0] at x0
      rw [← hX1] at x1
      rw [← hY0] at y0
      rw [← hY1] at y1
      have q0 : (X0.toList == Y0.toList) = decide (ka.1 = kb.1) := by rw [same_bytes, hX0, hY0]
      have q1 : (X1.toList == Y1.toList) = decide (ka.2 = kb.2) := by rw [same_bytes, hX1, hY1]
      have HNE : Hid (ka ≠ kb → R = false) := hide (by
        intro h
        rw [HR.out]
        refine decide_eq_false (fun e => h ?_)
        rw [e, gb] at ga
        injection ga with ga
        exact ga.symm)
      have HEQ : Hid (ka = kb → a.take (i + 1) = b.take (i + 1)) := hide (by
        intro h
        rw [List.take_add_one, List.take_add_one, HT.out, ga, gb, h])
      clear hX0 hX1 hY0 hY1 ga gb hia hib HT HA HB
      by_cases he0 : ka.1 = kb.1
      · rw [decide_eq_true he0] at q0
        by_cases he1 : ka.2 = kb.2
        · rw [decide_eq_true he1] at q1
          have HE := hide (HEQ.out (Prod.ext he0 he1))
          clear HNE HEQ
          go_wp2_with fail
          go_region
          all_goals (go_wp2_with fail; go_roundg (gk - 1))
          all_goals first | omega | exact ⟨i + 1, k + 1, by omega, by first | rfl | (rw [wrap64_in _ ⟨by omega, by omega⟩]; rfl) | simp, rfl, HE⟩
        · rw [decide_eq_false he1] at q1
          have HN := hide (HNE.out (fun e => he1 (by rw [e])))
          clear HNE HEQ
          go_wp2_with fail
          go_region
          all_goals
            go_wp2_with fail
            try rw [Exit.noGoto_ret]
            go_ret
            exact ⟨ret_bool HN.out.symm, k + 1, rfl⟩
      · rw [decide_eq_false he0] at q0
        have HN := hide (HNE.out (fun e => he0 (by rw [e])))
        clear HNE HEQ
        go_wp2_with fail
        go_region
        all_goals
          go_wp2_with fail
          try rw [Exit.noGoto_ret]
          go_ret
          exact ⟨ret_bool HN.out.symm, k + 1, rfl⟩
    · have HRT : Hid (R = true) := hide (by
        rw [HR.out]
        have h := HT.out
        rw [List.take_of_length_le (by rw [← H12.out.1]; omega), List.take_of_length_le (by rw [← H12.out.2]; omega)] at h
        exact decide_eq_true h)
      clear HT
      go_wp2_with fail
      go_ret
      exact ⟨ret_bool HRT.out.symm, k, rfl⟩

set_option maxRecDepth 100000 in
set_option maxHeartbeats 16000000 in
theorem same_nst : ∀ (D : Nat) (w : World) (va vb : Value) (a b : List Nd), NAtD w D va a → NAtD w D vb b →
    Calls Try.prog 13 #[va, vb] w fun e w' => e = .returned (.bool (sameL a b)) ∧ ∃ m, w' = w.drewN m := by
  intro D
  induction D with
  | zero => intro w va vb a b h; exact h.elim
  | succ D0 ih =>
  intro w va vb a b hka hkb
  obtain ⟨pa, ca, rfl, hma, hna⟩ := hka
  obtain ⟨pb, cb, rfl, hmb, hnb⟩ := hkb
  obtain ⟨R, hR⟩ : ∃ R, R = sameL a b := ⟨_, rfl⟩
  rw [← hR]
  have HR := hide hR
  have HNA := hide hna
  have HNB := hide hnb
  have HIH := hide ih
  clear hR hna hnb ih
  by_cases hl : a.length = b.length
  case neg =>
    have HRF : Hid (R = false) := hide (by rw [HR.out]; exact sameL_len a b hl)
    have hn : ((a.length : Int) == (b.length : Int)) = false := beq_eq_false_iff_ne.2 (by omega)
    clear hl
    go_enter Try.func13, Try.ntmps13
    go_wp2_with fail
    go_ret
    exact ⟨ret_bool HRF.out.symm, 0, rfl⟩
  case pos =>
  obtain ⟨N, hN⟩ : ∃ N, N = a.length := ⟨_, rfl⟩
  rw [← hl, ← hN]
  rw [← hN] at hma
  have HL : Hid (a.length = N ∧ b.length = N) := hide ⟨hN.symm, by rw [hN, hl]⟩
  clear hl hN hmb
  go_enter Try.func13, Try.ntmps13
  go_wp2_with fail
  go_loopg [5] N (fun g v wr => ∃ i : Nat, i + g = N ∧ v = .int .i64 (i : Int) ∧ Hid (∃ k, wr = w.drewN k) ∧ Hid (a.take i = b.take i))
  case atStart => exact ⟨0, by omega, rfl, hide ⟨0, rfl⟩, hide rfl⟩
  case round =>
    obtain ⟨i, hig, rfl, HK, HT⟩ := hrel
    by_cases hlt : i < N
    · have hia : i < a.length := by rw [HL.out.1]; exact hlt
      have hib : i < b.length := by rw [HL.out.2]; exact hlt
      have ga : a[i]? = some a[i] := List.getElem?_eq_getElem hia
      have gb : b[i]? = some b[i] := List.getElem?_eq_getElem hib
      generalize a[i] = ka at ga
      generalize b[i] = kb at gb
      obtain ⟨g1, o1, p1, m1, d1, q1, k1, c1, e1, x0, x1, x2, x3, -, hra, hka⟩ := HNA.out i ka ga
      obtain ⟨g2, o2, p2, m2, d2, q2, k2, c2, e2, y0, y1, y2, y3, -, hrb, hkb⟩ := HNB.out i kb gb
      subst e1
      subst e2
      have hbel : Below w.heap.size w wr := by
        obtain ⟨k, hk⟩ := HK.out
        rw [hk]
        exact bel_drewN w k
      have x0 := cell_keep x0 hbel
      have x1 := cell_keep x1 hbel
      have x2 := cell_keep x2 hbel
      have x3 := cell_keep x3 hbel
      have y0 := cell_keep y0 hbel
      have y1 := cell_keep y1 hbel
      have y2 := cell_keep y2 hbel
      have y3 := cell_keep y3 hbel
      have HSA := hide (fun n => sameAttrs_nst ka.attrs kb.attrs (wr.drewN n) p1 p2 m1 d1 m2 d2 (hra.below (bel2 hbel (bel_drewN wr n))) (hrb.below (bel2 hbel (bel_drewN wr n))))
      have HSM := hide (fun n => HIH.out (wr.drewN n) _ _ _ _ (hka.below (bel2 hbel (bel_drewN wr n))) (hkb.below (bel2 hbel (bel_drewN wr n))))
      obtain ⟨X0, hX0⟩ : ∃ X : ByteArray, X = ⟨ka.name.toArray⟩ := ⟨_, rfl⟩
      obtain ⟨X2, hX2⟩ : ∃ X : ByteArray, X = ⟨ka.text.toArray⟩ := ⟨_, rfl⟩
      obtain ⟨Y0, hY0⟩ : ∃ X : ByteArray, X = ⟨kb.name.toArray⟩ := ⟨_, rfl⟩
      obtain ⟨Y2, hY2⟩ : ∃ X : ByteArray, X = ⟨kb.text.toArray⟩ := ⟨_, rfl⟩
      rw [← hX0] at x0
      rw [← hX2] at x2
      rw [← hY0] at y0
      rw [← hY2] at y2
      have n0 : (X0.toList == Y0.toList) = decide (ka.name = kb.name) := by rw [same_bytes, hX0, hY0]
      have n2 : (X2.toList == Y2.toList) = decide (ka.text = kb.text) := by rw [same_bytes, hX2, hY2]
      have HNE : Hid (sameN ka kb = false → R = false) := hide (by
        intro h
        rw [HR.out]
        cases hs : sameL a b with
        | false => rfl
        | true =>
          have e := (sameL_iff a b).1 hs
          rw [e, gb] at ga
          injection ga with ga
          rw [(sameN_iff ka kb).2 ga.symm] at h
          cases h)
      have HEQ : Hid (sameN ka kb = true → a.take (i + 1) = b.take (i + 1)) := hide (by
        intro h
        rw [List.take_add_one, List.take_add_one, HT.out, ga, gb, (sameN_iff ka kb).1 h])
      have HSN := hide (sameN_kids ka kb)
      obtain ⟨bn, hbn⟩ : ∃ x, x = decide (ka.name = kb.name) := ⟨_, rfl⟩
      obtain ⟨bt, hbt⟩ : ∃ x, x = decide (ka.text = kb.text) := ⟨_, rfl⟩
      obtain ⟨ba, hba⟩ : ∃ x, x = decide (ka.attrs = kb.attrs) := ⟨_, rfl⟩
      obtain ⟨bk, hbk⟩ : ∃ x, x = sameL ka.kids kb.kids := ⟨_, rfl⟩
      rw [← hbn, ← hbt, ← hba, ← hbk] at HSN
      rw [← hbn] at n0
      rw [← hbt] at n2
      rw [← hba] at HSA
      rw [← hbk] at HSM
      clear hX0 hX2 hY0 hY2 ga gb hia hib HT HNA HNB hra hrb hka hkb hbel hbn hbt hba hbk HIH
      have HNE2 : Hid ((bn && bt && ba && bk) = false → R = false) := hide (fun h => HNE.out (by rw [HSN.out]; exact h))
      have HEQ2 : Hid ((bn && bt && ba && bk) = true → a.take (i + 1) = b.take (i + 1)) := hide (fun h => HEQ.out (by rw [HSN.out]; exact h))
      clear HNE HEQ HSN
      cases bn with
      | false =>
        have HN := hide (HNE2.out rfl)
        clear HNE2 HEQ2
        go_wp2_with fail
        go_quiet (first | (go_at_call 23; exact Calls.quiet_of (HSA.out _)) | (go_at_call 13; exact Calls.quiet_of (HSM.out _)))
        go_wp2_with fail
        try rw [Exit.noGoto_ret]
        go_ret
        refine ⟨ret_bool HN.out.symm, ?_⟩
        obtain ⟨k, hk⟩ := HK.out
        rw [hk]
        exact ⟨_, World.drewN_drewN ..⟩
      | true =>
      cases bt with
      | false =>
        have HN := hide (HNE2.out rfl)
        clear HNE2 HEQ2
        go_wp2_with fail
        go_quiet (first | (go_at_call 23; exact Calls.quiet_of (HSA.out _)) | (go_at_call 13; exact Calls.quiet_of (HSM.out _)))
        go_wp2_with fail
        try rw [Exit.noGoto_ret]
        go_ret
        refine ⟨ret_bool HN.out.symm, ?_⟩
        obtain ⟨k, hk⟩ := HK.out
        rw [hk]
        exact ⟨_, World.drewN_drewN ..⟩
      | true =>
      cases ba with
      | false =>
        have HN := hide (HNE2.out rfl)
        clear HNE2 HEQ2
        go_wp2_with fail
        go_quiet (first | (go_at_call 23; exact Calls.quiet_of (HSA.out _)) | (go_at_call 13; exact Calls.quiet_of (HSM.out _)))
        go_wp2_with fail
        try rw [Exit.noGoto_ret]
        go_ret
        refine ⟨ret_bool HN.out.symm, ?_⟩
        obtain ⟨k, hk⟩ := HK.out
        rw [hk]
        exact ⟨_, World.drewN_drewN ..⟩
      | true =>
      cases bk with
      | false =>
        have HN := hide (HNE2.out rfl)
        clear HNE2 HEQ2
        go_wp2_with fail
        go_quiet (first | (go_at_call 23; exact Calls.quiet_of (HSA.out _)) | (go_at_call 13; exact Calls.quiet_of (HSM.out _)))
        go_wp2_with fail
        try rw [Exit.noGoto_ret]
        go_ret
        refine ⟨ret_bool HN.out.symm, ?_⟩
        obtain ⟨k, hk⟩ := HK.out
        rw [hk]
        exact ⟨_, World.drewN_drewN ..⟩
      | true =>
        have HE := hide (HEQ2.out rfl)
        clear HNE2 HEQ2
        go_wp2_with fail
        go_quiet (first | (go_at_call 23; exact Calls.quiet_of (HSA.out _)) | (go_at_call 13; exact Calls.quiet_of (HSM.out _)))
        go_wp2_with fail
        go_roundg (gk - 1)
        case measure => omega
        case rel =>
          refine ⟨i + 1, by omega, by first | rfl | (rw [wrap64_in _ ⟨by omega, by omega⟩]; rfl) | simp, hide ?_, HE⟩
          obtain ⟨k, hk⟩ := HK.out
          rw [hk]
          exact ⟨_, World.drewN_drewN ..⟩
    · have HRT : Hid (R = true) := hide (by
        rw [HR.out]
        have h := HT.out
        rw [List.take_of_length_le (by rw [HL.out.1]; omega), List.take_of_length_le (by rw [HL.out.2]; omega)] at h
        exact (sameL_iff a b).2 h)
      clear HT
      go_wp2_with fail
      go_ret
      exact ⟨ret_bool HRT.out.symm, HK.out⟩
end Go.Proofs.Ytholfdfjapgfbaa
