/-
  The law TokJoins, walked: it answers true at every three texts.
-/
import Derived.Test.YtjmgcdeinjamiaaDoorSm2
import Derived.Test.YtjmgcdeinjamiaaDoorS1
import Derived.Test.YtjmgcdeinjamiaaDoorM6
import Derived.Laws.AppendOwnNone
namespace Go.Proofs.YtjmgcdeinjamiaaDoor
open Go.RowKit
open Utf1

theorem bl_cat (a b : ByteArray) : bl (a ++ b) = bl a ++ bl b := by
  show (a ++ b).data.toList = _
  rw [ByteArray.data_append, Array.toList_append]
theorem ToksAt.join {w w1 : World} {b1 b2 : Nat} {v1 v2 v' : Value} {l1 l2 : List (Tk × Value)} (h1 : ToksAt w b1 v1 l1) (h2 : ToksAt w b2 v2 l2) (hb : b1 ≤ b2) (hown : w1.ownsRow b1 32 5 v' (l1.length + l2.length) (toksCells l1 ++ toksCells l2)) (hgr : w.grownBy w1 v1.ownBlock) : ToksAt w1 b1 v' (l1 ++ l2) := by
  refine ⟨?_, ?_⟩
  · rw [toksCells_app, List.length_append]
    exact hown
  · intro p hp
    rcases List.mem_append.1 hp with hp | hp
    · exact (h1.2 p hp).kept hgr (own_two (h1.2 p hp) h1.1 (by decide))
    · exact own_base ((h2.2 p hp).kept hgr (own_two (h2.2 p hp) h1.1 (by decide))) hb
theorem one_cells : ∀ (l : List (Tk × Value)), (∀ p ∈ l, ∃ a m c, p.2 = .slice a m c) → ∀ u ∈ toksCells l, u.oneCell' = true
  | [], _, u, h => by cases h
  | p :: r, hp, u, h => by
    obtain ⟨a, m, c, e⟩ := hp p (List.mem_cons_self ..)
    rcases List.mem_append.1 (show u ∈ tokCells p.1 p.2 ++ toksCells r from h) with h | h
    · rw [e] at h
      exact five_one _ _ _ _ _ _ _ u h
    · exact one_cells r (fun q hq => hp q (List.mem_cons_of_mem _ hq)) u h
theorem bel_grown {w0 w w1 : World} {v : Value} {l : List (Tk × Value)} {base : Nat} (h : ToksAt w base v l) (hb : Below w0.heap.size w0 w) (hbase : w0.heap.size ≤ base) (hgr : w.grownBy w1 v.ownBlock) : Below w0.heap.size w0 w1 :=
  hb.grown hgr hb.size (fun j hj => Nat.le_trans hbase (h.1.lt j hj).1)

set_option maxRecDepth 100000 in
set_option maxHeartbeats 16000000 in
theorem lawJoins (a name b : ByteArray) (w : World) (hg : Glob w) (hgm : GlobM w) (hmx : name.size ≤ maxLen) : Calls Tryd.prog 8 #[.string a, .string name, .string b] w fun e w' => e = .returned (.bool true) ∧ Below w.heap.size w w' := by
  have HG := hide (And.intro hg hgm)
  have HSI := hide (fun w => simple_any name w hmx)
  clear hg hgm hmx
  have hr := fun w => raw_any name w
  obtain ⟨b1, hb1⟩ : ∃ b1, b1 = (rawOf (bl name)).isSome := ⟨_, rfl⟩
  rw [← hb1] at hr
  generalize (rawOf (bl name)).getD false = b2 at hr
  have HR := hide hr
  have HRN : Hid (b1 = false → rawOf (bl name) = none) := hide (by
    intro h
    rw [h] at hb1
    cases hq : rawOf (bl name) with
    | none => rfl
    | some x =>
      rw [hq] at hb1
      cases hb1)
  clear hb1 hr
  go_enter Tryd.func8, Tryd.ntmps8
  go_wp2_with fail
  refine (awake_any _ HG.out.1 HG.out.2).mono ?_
  rintro e w1 ⟨rfl, hb1⟩
  have HB1 := hide hb1
  clear hb1
  go_wp2_with fail
  refine (HSI.out _).mono ?_
  rintro e w2 ⟨sb, rfl, rfl, hsim⟩
  have HSM := hide hsim
  clear hsim HSI
  go_wp2_with fail
  refine (HR.out _).mono ?_
  rintro e w3 ⟨rfl, rfl⟩
  clear HR
  cases sb with
  | false =>
    go_wp2_with fail
    go_ret
    exact ⟨rfl, HB1.out⟩
  | true =>
    have HSN := hide (HSM.out rfl)
    clear HSM
    cases b1 with
    | true =>
      go_wp2_with fail
      go_ret
      exact ⟨rfl, HB1.out⟩
    | false =>
      have HRW := hide (HRN.out rfl)
      clear HRN
      by_cases h1 : 1000 < a.size
      · go_wp2_with fail
        go_ret
        exact ⟨rfl, HB1.out⟩
      have h1 : a.size ≤ 1000 := by omega
      by_cases h2 : 1000 < b.size
      · go_wp2_with fail
        go_ret
        exact ⟨rfl, HB1.out⟩
      have h2 : b.size ≤ 1000 := by omega
      by_cases h3 : 100 < name.size
      · go_wp2_with fail
        go_ret
        exact ⟨rfl, HB1.out⟩
      have h3 : name.size ≤ 100 := by omega
      go_wp2_with fail
      go_loopg [11] a.size (fun g v wr => ∃ p : Nat, p + g = a.size ∧ v = .int .i64 (p : Int) ∧ wr = w3 ∧ Hid (∀ c ∈ (bl a).take p, c ≠ 60))
      case atStart => exact ⟨0, by omega, rfl, rfl, hide (by simp)⟩
      case round =>
        obtain ⟨p, hpg, rfl, rfl, HS⟩ := hrel
        by_cases hlt : p < a.size
        · have hge : (bl a)[p]? = some ((bl a)[p]'(by rw [bl_len]; exact hlt)) := List.getElem?_eq_getElem _
          generalize (bl a)[p]'(by rw [bl_len]; exact hlt) = c at hge
          have i00 := fun w => idxK hge w
          have z0 := u8b c 60 (by decide)
          obtain ⟨z, hz⟩ : ∃ z : Int, z = (c.toNat : Int) := ⟨_, rfl⟩
          rw [← hz] at z0
          have i0 : ∀ w, (Instr.index 9 (.string a) (.int .i64 (p : Int))).run Tryd.prog w = .ok (.int .u8 z) w := by
            rw [hz]
            exact i00
          clear hz i00
          have z0 : (z == 60) = decide (c = 60) := z0
          by_cases hc : c = 60
          · rw [decide_eq_true hc] at z0
            clear hge hc HS
            go_wp2_with fail
            go_ret
            exact ⟨rfl, HB1.out⟩
          · rw [decide_eq_false hc] at z0
            have HN : Hid (∀ c ∈ (bl a).take (p + 1), c ≠ 60) := hide (by
              intro x hx
              rw [List.take_add_one, hge] at hx
              rcases List.mem_append.1 hx with hx | hx
              · exact HS.out x hx
              · have : x = c := by simpa using hx
                rw [this]
                exact hc)
            clear hge hc HS
            go_wp2_with fail
            go_roundg (gk - 1)
            case measure => omega
            case rel => exact ⟨p + 1, by omega, by first | rfl | simp, rfl, HN⟩
        · have hno : ∀ c ∈ bl a, c ≠ 60 := by
            have := HS.out
            rw [List.take_of_length_le (by rw [bl_len]; omega)] at this
            exact this
          obtain ⟨X, hX⟩ : ∃ X : ByteArray, X = a ++ ({ data := #[60] } : ByteArray) ++ name ++ { data := #[62] } := ⟨_, rfl⟩
          have hbx : bl X = bl a ++ 60 :: (bl name ++ [62]) := by
            rw [hX]
            simp only [bl_cat]
            show ((bl a ++ [60]) ++ bl name) ++ [62] = _
            simp only [List.append_assoc, List.cons_append, List.nil_append]
          have hxs : X.size ≤ 1102 := by
            rw [← bl_len, hbx]
            simp only [List.length_cons, List.length_append, bl_len, List.length_nil]
            omega
          have hys : (X ++ b).size ≤ 2102 := by
            rw [ByteArray.size_append]
            omega
          have HT1 := hide (fun w hg hgm => tokens_any X w (by omega) hg hgm)
          have HT2 := hide (fun w hg hgm => tokens_any b w (by omega) hg hgm)
          have HT3 := hide (fun w hg hgm => tokens_any (X ++ b) w (by omega) hg hgm)
          have HQ : Hid (toks (bl (X ++ b)) = toks (bl X) ++ toks (bl b)) := hide (by
            have := toks_joins (bl a) (bl name) (bl b) hno HSN.out HRW.out
            rw [bl_cat, hbx, ← this]
            congr 1
            simp)
          have HM1 : Hid ((toks (bl X)).length ≤ 1102) := hide (by have := toks_many (bl X); rw [bl_len] at this; omega)
          have HM2 : Hid ((toks (bl b)).length ≤ 1000) := hide (by have := toks_many (bl b); rw [bl_len] at this; omega)
          clear HS hno hbx HSN HRW
          subst hX
          go_wp2_with fail
          refine (HT1.out _ (HG.out.1.below HB1.out) (HG.out.2.below HB1.out)).mono ?_
          rintro e w4 ⟨v1, l1, rfl, hl1, htk1, hb4⟩
          have HTK1 := hide htk1
          have HL1 := hide hl1
          have HB4 := hide (bel2 HB1.out hb4)
          have HS3 : Hid (wr.heap.size ≤ w4.heap.size) := hide hb4.size
          have HS4 : Hid (w.heap.size ≤ wr.heap.size) := hide HB1.out.size
          obtain ⟨p1, c1, rfl⟩ := own_len htk1.1
          clear hl1 htk1 hb4 HT1 HB1
          go_wp2_with fail
          refine (HT2.out _ (HG.out.1.below HB4.out) (HG.out.2.below HB4.out)).mono ?_
          rintro e w5 ⟨v2, l2, rfl, hl2, htk2, hb5⟩
          have HTK5 := hide (HTK1.out.below hb5)
          have HSS : Hid (wr.heap.size ≤ w4.heap.size ∧ w4.heap.size ≤ w5.heap.size) := hide ⟨HS3.out, hb5.size⟩
          have HB5 := hide (bel2 HB4.out hb5)
          have HTK2 := hide htk2
          have HL2 := hide hl2
          have hn1 : l1.length ≤ 1102 := by
            have := HM1.out
            rw [← HL1.out, List.length_map] at this
            exact this
          have hn2 : l2.length ≤ 1000 := by
            have := HM2.out
            rw [← HL2.out, List.length_map] at this
            exact this
          obtain ⟨i0, hi, hz0, hz1, hz2⟩ := info_parts infoTok
          clear hl2 htk2 hb5 HT2 HB4 HTK1 HM1 HM2
          obtain ⟨_, ⟨rfl, hz⟩ | ⟨g2, cap2, cur2, rfl, _⟩⟩ := HTK2.out.1
          · have hl20 : l2 = [] := List.length_eq_zero_iff.1 hz
            subst hl20
            have HJ : Hid (ToksAt w5 wr.heap.size (.slice p1 l1.length c1) (l1 ++ [])) := hide (by rw [List.append_nil]; exact HTK5.out)
            have HB6 := HB5
            clear hz
            go_wp2_with (at_builtin; refine wpList_append_own_none rfl _ _ 24 rfl wr.heap.size 32 i0 5 Tryd.underlying24 hi (.slice p1 l1.length c1) l1.length (toksCells l1) rfl HTK5.out.1 rfl ?_)
            go_wp2_with fail
            refine (HT3.out _ (HG.out.1.below HB6.out) (HG.out.2.below HB6.out)).mono ?_
            rintro e w7 ⟨v3, l3, rfl, hl3, htk3, hb7⟩
            have HSAME := hide (same_any l3 (l1 ++ []) (by rw [hl3, List.map_append, HL1.out, HL2.out, HQ.out]) w7 _ _ v3 _ htk3 (HJ.out.below hb7))
            have HB7 := hide (bel2 HB6.out hb7)
            clear hl3 htk3 hb7
            go_wp2_with fail
            refine HSAME.out.mono ?_
            rintro e w8 ⟨rfl, n, rfl⟩
            clear HSAME
            go_wp2_with fail
            go_ret
            exact ⟨rfl, bel2 HB7.out (bel_drewN w7 n)⟩
          · have hsl : ∀ p ∈ l2, ∃ a m c, p.2 = .slice a m c := fun p hp => own_slice (HTK2.out.2 p hp)
            have HC : Hid (∀ j u, (toksCells l2)[j]? = some u → w5.cell? ((⟨g2, 0, none⟩ : Addr).add j) = some u) := hide (by
              intro j u hj
              have hlt : j < l2.length * 5 := by
                rw [← toksCells_len]
                exact (List.getElem?_eq_some_iff.1 hj).1
              have := HTK2.out.1.cellAt j hlt
              rw [hj] at this
              cases j with
              | zero => simpa [Addr.add] using this
              | succ j => simpa [Addr.add] using this)
            have HO := hide (one_cells l2 hsl)
            clear hsl
            go_wp2_with (at_builtin; refine wpList_append_own _ rfl _ _ 24 rfl wr.heap.size 32 i0 _ 5 72 Tryd.underlying24 hi hz0 hz1 hz2 rfl (by decide) (.slice p1 l1.length c1) l1.length (toksCells l1) rfl HTK5.out.1 ⟨g2, 0, none⟩ l2.length cap2 (toksCells l2) rfl (toksCells_len l2) HC.out HO.out (by unfold maxLen; omega) (by omega) (by have := HSS.out; omega) ?_)
            intro v' w6 hown6 hgr6 _
            have HJ := hide (HTK5.out.join HTK2.out HSS.out.1 hown6 hgr6)
            have HB6 := hide (bel_grown HTK5.out HB5.out HS4.out hgr6)
            obtain ⟨vp, vm, vc, rfl⟩ := own_slice hown6
            clear hown6 hgr6 HC HO
            go_wp2_with fail
            refine (HT3.out _ (HG.out.1.below HB6.out) (HG.out.2.below HB6.out)).mono ?_
            rintro e w7 ⟨v3, l3, rfl, hl3, htk3, hb7⟩
            have HSAME := hide (same_any l3 (l1 ++ l2) (by rw [hl3, List.map_append, HL1.out, HL2.out, HQ.out]) w7 _ _ v3 _ htk3 (HJ.out.below hb7))
            have HB7 := hide (bel2 HB6.out hb7)
            clear hl3 htk3 hb7
            go_wp2_with fail
            refine HSAME.out.mono ?_
            rintro e w8 ⟨rfl, n, rfl⟩
            clear HSAME
            go_wp2_with fail
            go_ret
            exact ⟨rfl, bel2 HB7.out (bel_drewN w7 n)⟩
end Go.Proofs.YtjmgcdeinjamiaaDoor
