/-
  The document's HTML at a tree that is read alone.
-/
import Derived.Test.YtholfdfjapgfbaaN0
import Derived.Test.YtholfdfjapgfbaaD6
namespace Go.Proofs.Ytholfdfjapgfbaa
open Go.RowKit
open Utf1

theorem wpAny_at {P : Program} {md : Region.Mode} {ops : Array Oper} {Q : Exit → Act → World → Prop} {i : Nat} {oi : Oper} {v : Value} {fuel : Nat} {listed : Array Bool} {a a' : Act} {w : World} (hi : ops[i]? = some oi)
    (hs : Region.noSelect ops = true) (hf : Region.free md ops listed i = true) (hr : (Region.ready md ops listed).contains i = true)
    (hQ : ∀ c a w, Q (.panic c) (a.put oi.dst v) w → Q (.panic c) a w) (hy : Yields P ops oi v a) (ha : a.put oi.dst v = a')
    (h : wpAny P md ops Q fuel (listed.setIfInBounds i true) a' w) : wpAny P md ops Q (fuel + 1) listed a w :=
  wpAny_take hi hs hf hr hQ hy (ha ▸ h)

theorem bl_len' {s : ByteArray} {l : List UInt8} (h : bl s = l) : s.size = l.length := by rw [← h, bl_len]

set_option maxRecDepth 100000 in
set_option maxHeartbeats 16000000 in
theorem rhtml_nst : ∀ (D : Nat) (w : World) (v : Value) (ns : List Nd), NAtD w D v ns → wsL ns ≤ 20000 →
    Calls Try.prog 9 #[v] w fun e w' => (∃ O, e = .returned (.string O) ∧ bl O = htL ns) ∧ Below w.heap.size w w' := by
  intro D
  induction D with
  | zero => intro w v ns h; exact h.elim
  | succ D0 ih =>
  intro w v ns hk hM
  obtain ⟨p, c, rfl, -, hnode⟩ := hk
  have HNODE := hide hnode
  have HIH := hide ih
  have hlc := Nat.le_trans (nc_len ns) (ncL_ws ns)
  have hhl := htL_len ns
  obtain ⟨N, hN⟩ : ∃ N, N = ns.length := ⟨_, rfl⟩
  rw [← hN] at hlc ⊢
  have HN := hide hN
  clear hnode ih hN
  go_enter Try.func9, Try.ntmps9
  go_wp2_with fail
  go_loopg [3, 4] N (fun k v3 v4 wr => ∃ (j : Nat) (d rest : List Nd) (O : ByteArray), rest.length = k ∧ d.length = j ∧ j + k = N ∧ v3 = .string O ∧ v4 = .int .i64 (j : Int) ∧ Hid (ns = d ++ rest) ∧ Hid (bl O = htL d) ∧ Hid (Below w.heap.size w wr))
  case atStart => exact ⟨0, [], ns, ⟨#[]⟩, HN.out.symm, rfl, by omega, rfl, rfl, hide rfl, hide rfl, hide (Below.refl _ _)⟩
  case round =>
    obtain ⟨j, d, rest, O, rfl, hdj, hjk, rfl, rfl, HD, HO, HB⟩ := hrel
    match rest, hjk, HD with
    | [], hjk, HD =>
      have e1 : d = ns := by
        have := HD.out
        rw [List.append_nil] at this
        exact this.symm
      simp only [List.length_nil, Nat.add_zero] at hjk
      subst hjk
      subst e1
      clear HD hdj
      go_wp2_with fail
      go_ret
      exact ⟨⟨_, rfl, HO.out⟩, HB.out⟩
    | nd :: rest, hjk, HD =>
      have hjN : j < N := by simp only [List.length_cons] at hjk; omega
      have hge : ns[j]? = some nd := by
        rw [HD.out, List.getElem?_append_right (by omega), hdj, Nat.sub_self]
        rfl
      obtain ⟨g, off, ap, am, ac, kp, km, kc, hp, x0, x1, x2, x3, hsz, har, hkk⟩ := HNODE.out j nd hge
      subst hp
      have x0 := cell_keep x0 HB.out
      have x1 := cell_keep x1 HB.out
      have x2 := cell_keep x2 HB.out
      have x3 := cell_keep x3 HB.out
      have hws : wsL ns = wsL d + (wsN nd + wsL rest) := by
        rw [HD.out, wsL_app]
        rfl
      have hwn := wsN_kids nd
      have hOl : O.size ≤ 6 * wsL d := by rw [bl_len' HO.out]; exact htL_len d
      have HD2 : Hid (ns = (d ++ [nd]) ++ rest) := hide (by rw [HD.out]; simp)
      have HT2 : Hid (htL (d ++ [nd]) = htL d ++ htN nd) := hide (by rw [htL_app]; show _ ++ (htN nd ++ []) = _; rw [List.append_nil])
      have hjk2 : j + (rest.length + 1) = N := hjk
      have hdj2 : (d ++ [nd]).length = j + 1 := by simp [hdj]
      obtain ⟨XN, hXN⟩ : ∃ X : ByteArray, X = ⟨nd.name.toArray⟩ := ⟨_, rfl⟩
      obtain ⟨XT, hXT⟩ : ∃ X : ByteArray, X = ⟨nd.text.toArray⟩ := ⟨_, rfl⟩
      rw [← hXN] at x0
      rw [← hXT] at x2
      have q0 : XN.toList.isEmpty = decide (nd.name = []) := by rw [hXN]; exact nm_empty _
      have hN1 : bl XN = nd.name := by rw [hXN]
      have hT1 : bl XT = nd.text := by rw [hXT]
      have hNs : XN.size = nd.name.length := by rw [hXN]; rfl
      have hTs : XT.size = nd.text.length := by rw [hXT]; rfl
      have hht := htN_kids nd
      obtain ⟨w2, hw2⟩ : ∃ w2, w2 = wr.alloc (.cells #[.string XN, .slice ap am ac, .string XT, .slice kp km kc] 29) := ⟨_, rfl⟩
      have hb2 : Below wr.heap.size wr w2 := by rw [hw2]; exact (Below.refl _ _).alloc (Nat.le_refl _) _
      have y0 : w2.cell? ⟨wr.heap.size, 0, none⟩ = some (.string XN) := by rw [hw2, new_cell]; rfl
      have y1 : w2.cell? ⟨wr.heap.size, 1, none⟩ = some (.slice ap am ac) := by rw [hw2, new_cell]; rfl
      have y2 : w2.cell? ⟨wr.heap.size, 2, none⟩ = some (.string XT) := by rw [hw2, new_cell]; rfl
      have y3 : w2.cell? ⟨wr.heap.size, 3, none⟩ = some (.slice kp km kc) := by rw [hw2, new_cell]; rfl
      have HB2 := hide (bel2 HB.out hb2)
      have HHT := hide hht
      have hns : XN.size ≤ 20000 := by omega
      have hos : O.size ≤ 120000 := by omega
      have hjb : j ≤ 20000 := by omega
      clear hb2 hXN hXT hht
      go_upto_region 6 with fail
      rw [← hw2]
      clear hw2 x0 x1 x2 x3
      by_cases hnm : nd.name = []
      · rw [decide_eq_true hnm] at q0
        have HHT2 := HHT.out
        rw [if_pos hnm] at HHT2
        have HHT2 := hide HHT2
        have hel := (esc_lens false (bl XT)).2
        rw [bl_len] at hel
        have HE := hide (refEscape_any XT false w2 (by omega))
        obtain ⟨ES, hES⟩ : ∃ X : ByteArray, X = ⟨(esc false (bl XT)).toArray⟩ := ⟨_, rfl⟩
        have hESb : bl ES = esc false nd.text := by rw [hES, ← hT1]
        have hESl : ES.size ≤ 120000 := by rw [hES, size_mk]; omega
        rw [← hES] at HE
        have HN2 : Hid (bl (O ++ ES) = htL (d ++ [nd])) := hide (by rw [bl_cat, HO.out, hESb, HT2.out, HHT2.out])
        clear hES hESb hel HHT2 HHT hnm hT1 hTs hN1 hNs hwn hws hhl hOl hsz har hkk HO HD y1 y3 hdj hjk
        go_wp2_with fail
        refine HE.out.mono ?_
        rintro e w3 ⟨rfl, hb3⟩
        have HB3 := hide (bel2 HB2.out hb3)
        clear hb3 HE HB2 HB y2
        go_wp2_with fail
        go_roundg rest.length
        case measure => simp only [List.length_cons]; omega
        case rel => exact ⟨j + 1, d ++ [nd], rest, O ++ ES, rfl, hdj2, by omega, by first | rfl | simp, by first | rfl | simp, HD2, HN2, HB3⟩
      · rw [decide_eq_false hnm] at q0
        have HHT2 := HHT.out
        rw [if_neg hnm, ← hN1] at HHT2
        have HHT2 := hide HHT2
        have ham := har.1.1
        have hwa := wa_len nd.attrs
        have hall := atsH_len nd.attrs
        obtain ⟨ats, hats⟩ : ∃ ats, ats = nd.attrs := ⟨_, rfl⟩
        rw [← hats] at HHT2 har ham hwa hall hwn
        have hamb : am ≤ 20000 := by omega
        have HAR := hide har
        have HAM := hide ham
        have HKK := hide hkk
        have hkl := htL_len nd.kids
        have hBud : O.size + (XN.size + 5 + (atsH ats).length + (htL nd.kids).length + XN.size) ≤ 250000 := by omega
        have hwk : wsL nd.kids ≤ 20000 := by omega
        have HWA : Hid (waL ats ≤ 20000) := hide (by omega)
        clear HHT hnm hT1 hTs hN1 hNs hwn hws hhl hOl hsz har hkk HD hdj hjk hwa hall hats ham y2 hkl
        obtain ⟨wq0, hwq0⟩ : ∃ wq0, wq0 = wr := ⟨_, rfl⟩
        rw [← hwq0] at y0 y1 y3 ⊢
        clear hwq0
        go_wp2_with fail
        go_loopg [3, 6] am (fun k2 v3 v6 wq => ∃ (i : Nat) (a r2 : List (List UInt8 × List UInt8)) (O2 : ByteArray), r2.length = k2 ∧ a.length = i ∧ i + k2 = am ∧ v3 = .string O2 ∧ v6 = .int .i64 (i : Int) ∧ Hid (ats = a ++ r2) ∧ Hid (bl O2 = htL d ++ ([60] ++ bl XN ++ atsH a)) ∧ Hid (Below w2.heap.size w2 wq))
        case atStart => exact ⟨0, [], ats, _, HAM.out.symm, rfl, by omega, rfl, rfl, hide rfl, hide (by rw [bl_cat, bl_cat, HO.out, show atsH [] = [] from rfl, List.append_nil, List.append_assoc]), hide (Below.refl _ _)⟩
        case round =>
          obtain ⟨i, a, r2, O2, rfl, hai, hik, rfl, rfl, HDA, HO2, HBQ⟩ := hrel
          have y0 := cell_keep y0 HBQ.out
          have y1 := cell_keep y1 HBQ.out
          have y3 := cell_keep y3 HBQ.out
          match r2, hik, HDA with
          | [], hik, HDA =>
            have e1 : a = ats := by
              have := HDA.out
              rw [List.append_nil] at this
              exact this.symm
            simp only [List.length_nil, Nat.add_zero] at hik
            subst hik
            subst e1
            have hO2s : O2.size = O.size + (1 + XN.size + (atsH a).length) := by
              rw [bl_len' HO2.out]
              simp only [List.length_append, List.length_cons, List.length_nil, bl_len, ← bl_len' HO.out]
            have hO2b : O2.size ≤ 250000 := by omega
            clear HDA hai HAR HAM HWA hamb
            have HV := hide (rvoid_any XN wr)
            by_cases hv : bl XN ∈ voids
            · rw [decide_eq_true hv] at HV
              have hht := HHT2.out
              rw [if_pos hv, List.append_nil] at hht
              have HN2 : Hid (bl (O2 ++ ⟨#[62]⟩) = htL (d ++ [nd])) := hide (by
                rw [bl_cat, HO2.out, HT2.out, hht]
                simp only [List.append_assoc])
              clear hht HHT2 hv HKK y3
              go_wp2_with fail
              refine HV.out.mono ?_
              rintro e w4 ⟨rfl, hb4⟩
              have HB4 := hide (bel2 (bel2 HB2.out HBQ.out) hb4)
              clear hb4 HV HB2 HBQ y0
              go_wp2_with fail
              go_roundg rest.length
              case measure => simp only [List.length_cons]; omega
              case rel => exact ⟨j + 1, d ++ [nd], rest, _, rfl, hdj2, by omega, by first | rfl | simp, by first | rfl | simp, HD2, HN2, HB4⟩
            · rw [decide_eq_false hv] at HV
              have hht := HHT2.out
              rw [if_neg hv] at hht
              have HKC := hide (fun wx (hx : Below w.heap.size w wx) => HIH.out wx (.slice kp km kc) nd.kids (HKK.out.below hx) hwk)
              obtain ⟨kh, hkh⟩ : ∃ kh, kh = htL nd.kids := ⟨_, rfl⟩
              rw [← hkh] at hht HKC hBud
              have HN2 : Hid (∀ KB : ByteArray, bl KB = kh → bl (O2 ++ ⟨#[62]⟩ ++ KB ++ ⟨#[60, 47]⟩ ++ XN ++ ⟨#[62]⟩) = htL (d ++ [nd])) := hide (by
                intro KB hKB
                rw [bl_cat, bl_cat, bl_cat, bl_cat, bl_cat, HO2.out, HT2.out, hht, hKB]
                simp only [List.append_assoc])
              clear hht HHT2 hv HKK hkh
              go_wp2_with fail
              refine HV.out.mono ?_
              rintro e w4 ⟨rfl, hb4⟩
              have HB4 := hide (bel2 (bel2 HB2.out HBQ.out) hb4)
              have y0 := cell_keep y0 hb4
              have y3 := cell_keep y3 hb4
              clear hb4 HV HB2 HBQ
              go_upto_region 15 with fail
              have HKC4 := hide (HKC.out (World.drew w4) (bel2 HB4.out (bel_one w4)))
              have hkb : kh.length ≤ 250000 := by omega
              clear HKC y1
              go_region_with (go_at_call 9; refine HKC4.out.mono ?_; rintro e w5 ⟨⟨KB, rfl, hKB⟩, hb5⟩; have hKl := bl_len' hKB; have y0 : (World.drew w4).cell? ⟨_, 0, none⟩ = some (.string XN) := y0; have y0 := cell_keep y0 hb5; have HB5 := hide (bel2 HB4.out (bel2 (bel_one w4) hb5)); have HKB := hide hKB; clear hb5 hKB)
              all_goals
                go_wp2_with fail
                go_roundg rest.length
                (case measure => simp only [List.length_cons]; omega)
                (case rel => exact ⟨j + 1, d ++ [nd], rest, _, rfl, hdj2, by omega, by first | rfl | simp, by first | rfl | simp, HD2, hide (HN2.out KB HKB.out), HB5⟩)
          | kv :: r2, hik, HDA =>
            have hilt : i < am := by simp only [List.length_cons] at hik; omega
            have hga : ats[i]? = some kv := by
              rw [HDA.out, List.getElem?_append_right (by omega), hai, Nat.sub_self]
              rfl
            obtain ⟨b, off2, hap, z0, z1, hz1, hz2⟩ := HAR.out.2 i kv hga
            subst hap
            have z0 := cell_keep z0 (bel2 HB2.out HBQ.out)
            have z1 := cell_keep z1 (bel2 HB2.out HBQ.out)
            obtain ⟨XA, hXA⟩ : ∃ X : ByteArray, X = ⟨kv.1.toArray⟩ := ⟨_, rfl⟩
            obtain ⟨XV, hXV⟩ : ∃ X : ByteArray, X = ⟨kv.2.toArray⟩ := ⟨_, rfl⟩
            rw [← hXA] at z0
            rw [← hXV] at z1
            have hA1 : bl XA = kv.1 := by rw [hXA]
            have hV1 : bl XV = kv.2 := by rw [hXV]
            have hAl : XA.size = kv.1.length := by rw [hXA]; rfl
            have hVl : XV.size = kv.2.length := by rw [hXV]; rfl
            have hwal : waL ats = waL a + ((1 + kv.1.length + kv.2.length) + waL r2) := by rw [HDA.out, waL_app]; rfl
            have hatl : (atsH ats).length = (atsH a).length + ((atH kv).length + (atsH r2).length) := by
              rw [HDA.out, atsH_app, List.length_append, atsH, List.length_append]
            have hatH : atH kv = [32] ++ bl XA ++ [61, 34] ++ esc true (bl XV) ++ [34] := by rw [hA1, hV1]; rfl
            have hatHl : (atH kv).length = 4 + XA.size + (esc true (bl XV)).length := by
              rw [hatH]
              simp only [List.length_append, List.length_cons, List.length_nil, bl_len]
              omega
            have hO2s : O2.size = O.size + (1 + XN.size + (atsH a).length) := by
              rw [bl_len' HO2.out]
              simp only [List.length_append, List.length_cons, List.length_nil, bl_len, ← bl_len' HO.out]
            have hwa2 := HWA.out
            have HESC := hide (refEscape_any XV true (World.drew wr) (by omega))
            obtain ⟨ES, hES⟩ : ∃ X : ByteArray, X = ⟨(esc true (bl XV)).toArray⟩ := ⟨_, rfl⟩
            have hESl : ES.size = (esc true (bl XV)).length := by rw [hES]; rfl
            have hESb : bl ES = esc true (bl XV) := by rw [hES]
            rw [← hES] at HESC
            have HN3 : Hid (bl (O2 ++ ⟨#[32]⟩ ++ XA ++ ⟨#[61, 34]⟩ ++ ES ++ ⟨#[34]⟩) = htL d ++ ([60] ++ bl XN ++ atsH (a ++ [kv]))) := hide (by
              rw [bl_cat, bl_cat, bl_cat, bl_cat, bl_cat, HO2.out, hESb, atsH_app, show atsH [kv] = atH kv ++ [] from rfl, List.append_nil, hatH]
              simp only [List.append_assoc])
            have HDA2 : Hid (ats = (a ++ [kv]) ++ r2) := hide (by rw [HDA.out]; simp)
            have hik2 : i + (r2.length + 1) = am := hik
            have hai2 : (a ++ [kv]).length = i + 1 := by simp [hai]
            have hs1 : XA.size ≤ 250000 := by omega
            have hs2 : ES.size ≤ 250000 := by omega
            have hs3 : O2.size ≤ 250000 := by omega
            have HBW := hide (bel2 HB2.out HBQ.out)
            clear hga hatHl hatH hAl hVl hA1 hV1 hXA hXV hatl hwal hz1 hz2 HDA hES hESl hESb HO2 hik hai hO2s hwa2 hwk hBud HKK HHT2 HAR HWA y3 HB HNODE HIH
            go_upto_region 12 with fail
            obtain ⟨wd, hwd⟩ : ∃ wd, wd = World.drew wr := ⟨_, rfl⟩
            have y1 : wd.cell? ⟨wq0.heap.size, 1, none⟩ = some (.slice (some ⟨b, off2, none⟩) am ac) := by rw [hwd]; exact y1
            have z0 : wd.cell? ⟨b, off2 + i * 2, none⟩ = some (.string XA) := by rw [hwd]; exact z0
            have z1 : wd.cell? ⟨b, off2 + i * 2 + 1, none⟩ = some (.string XV) := by rw [hwd]; exact z1
            rw [← hwd] at HESC
            have HBD : Hid (∀ w5, Below wd.heap.size wd w5 → Below w2.heap.size w2 w5) := hide (fun w5 h => bel2 HBQ.out (by rw [hwd] at h; exact bel2 (bel_one wr) h))
            clear y0 HBQ HBW
            refine wp_region_any (by kernel_rfl) ?_
            change wpAny _ _ _ _ _ _ _ (World.drew _)
            rw [← hwd]
            clear hwd
            refine wpAny_at (i := 0) (v := .string O2) (a' := ?ax0q1) rfl (by kernel_rfl) (by kernel_rfl) (by kernel_rfl) (fun _ _ _ h => h) (Or.inl ⟨by rfl, ?yi⟩) ?ha ?_
            case yi => intro w; go_simp; try omega
            case ha => go_simp; exact rfl
            refine wpAny_at (i := 1) (v := .string (O2 ++ ⟨#[32]⟩)) (a' := ?ax1q2) rfl (by kernel_rfl) (by kernel_rfl) (by kernel_rfl) (fun _ _ _ h => h) (Or.inl ⟨by rfl, ?yi⟩) ?ha ?_
            case yi => intro w; go_simp; try omega
            case ha => go_simp; exact rfl
            refine wpAny_at (i := 2) (v := .pointer (some ⟨wq0.heap.size, 1, none⟩)) (a' := ?ax2q3) rfl (by kernel_rfl) (by kernel_rfl) (by kernel_rfl) (fun _ _ _ h => h) (Or.inl ⟨by rfl, ?yi⟩) ?ha ?_
            case yi => intro w; go_simp; try omega
            case ha => go_simp; exact rfl
            refine wpAny_at (i := 4) (v := .int .i64 (i : Int)) (a' := ?ax4q4) rfl (by kernel_rfl) (by kernel_rfl) (by kernel_rfl) (fun _ _ _ h => h) (Or.inl ⟨by rfl, ?yi⟩) ?ha ?_
            case yi => intro w; go_simp; try omega
            case ha => go_simp; exact rfl
            refine wpAny_at (i := 10) (v := .pointer (some ⟨wq0.heap.size, 1, none⟩)) (a' := ?ax10q5) rfl (by kernel_rfl) (by kernel_rfl) (by kernel_rfl) (fun _ _ _ h => h) (Or.inl ⟨by rfl, ?yi⟩) ?ha ?_
            case yi => intro w; go_simp; try omega
            case ha => go_simp; exact rfl
            refine wpAny_at (i := 12) (v := .int .i64 (i : Int)) (a' := ?ax12q6) rfl (by kernel_rfl) (by kernel_rfl) (by kernel_rfl) (fun _ _ _ h => h) (Or.inl ⟨by rfl, ?yi⟩) ?ha ?_
            case yi => intro w; go_simp; try omega
            case ha => go_simp; exact rfl
            refine wpAny_ready (rs := [3, 11]) (by kernel_rfl) (by simp) ?_
            refine AllReady.cons rfl (fun K hK => ?_) (AllReady.cons rfl (fun K hK => ?_) AllReady.nil)
            · go_simp
              go_wp2_with fail
              refine wpAny_at (i := 5) (v := .pointer (some ⟨b, off2 + i * 2, none⟩)) (a' := ?ax5q7) rfl (by kernel_rfl) (by kernel_rfl) (by kernel_rfl) (fun _ _ _ h => h) (Or.inl ⟨by rfl, ?yi⟩) ?ha ?_
              case yi => intro w; go_simp; try omega
              case ha => go_simp; exact rfl
              refine wpAny_at (i := 6) (v := .pointer (some ⟨b, off2 + i * 2, none⟩)) (a' := ?ax6q8) rfl (by kernel_rfl) (by kernel_rfl) (by kernel_rfl) (fun _ _ _ h => h) (Or.inl ⟨by rfl, ?yi⟩) ?ha ?_
              case yi => intro w; go_simp; try omega
              case ha => go_simp; exact rfl
              refine wpAny_ready (rs := [7, 11]) (by kernel_rfl) (by simp) ?_
              refine AllReady.cons rfl (fun K hK => ?_) (AllReady.cons rfl (fun K hK => ?_) AllReady.nil)
              · go_simp
                go_wp2_with fail
                refine wpAny_at (i := 8) (v := .string (O2 ++ ⟨#[32]⟩ ++ XA)) (a' := ?ax8q9) rfl (by kernel_rfl) (by kernel_rfl) (by kernel_rfl) (fun _ _ _ h => h) (Or.inl ⟨by rfl, ?yi⟩) ?ha ?_
                case yi => intro w; go_simp; try omega
                case ha => go_simp; exact rfl
                refine wpAny_at (i := 9) (v := .string (O2 ++ ⟨#[32]⟩ ++ XA ++ ⟨#[61, 34]⟩)) (a' := ?ax9q10) rfl (by kernel_rfl) (by kernel_rfl) (by kernel_rfl) (fun _ _ _ h => h) (Or.inl ⟨by rfl, ?yi⟩) ?ha ?_
                case yi => intro w; go_simp; try omega
                case ha => go_simp; exact rfl
                refine wpAny_ready (rs := [11]) (by kernel_rfl) (by simp) ?_
                refine AllReady.cons rfl (fun K hK => ?_) AllReady.nil
                go_simp
                go_wp2_with fail
                refine wpAny_at (i := 13) (v := .pointer (some ⟨b, off2 + i * 2, none⟩)) (a' := ?ax13q11) rfl (by kernel_rfl) (by kernel_rfl) (by kernel_rfl) (fun _ _ _ h => h) (Or.inl ⟨by rfl, ?yi⟩) ?ha ?_
                case yi => intro w; go_simp; try omega
                case ha => go_simp; exact rfl
                refine wpAny_at (i := 14) (v := .pointer (some ⟨b, off2 + i * 2 + 1, none⟩)) (a' := ?ax14q12) rfl (by kernel_rfl) (by kernel_rfl) (by kernel_rfl) (fun _ _ _ h => h) (Or.inl ⟨by rfl, ?yi⟩) ?ha ?_
                case yi => intro w; go_simp; try omega
                case ha => go_simp; exact rfl
                refine wpAny_ready (rs := [15]) (by kernel_rfl) (by simp) ?_
                refine AllReady.cons rfl (fun K hK => ?_) AllReady.nil
                go_simp
                go_wp2_with fail
                refine wpAny_ready (rs := [16]) (by kernel_rfl) (by simp) ?_
                refine AllReady.cons rfl (fun K hK => ?_) AllReady.nil
                go_simp
                go_wp2_with fail
                refine HESC.out.mono ?_
                rintro e w5 ⟨rfl, hb5⟩
                have y1 := cell_keep y1 hb5
                have z0 := cell_keep z0 hb5
                have HB5 := hide (HBD.out w5 hb5)
                clear hb5
                go_wp2_with fail
                refine wpAny_at (i := 17) (v := .string (O2 ++ ⟨#[32]⟩ ++ XA ++ ⟨#[61, 34]⟩ ++ ES)) (a' := ?ax17q13) rfl (by kernel_rfl) (by kernel_rfl) (by kernel_rfl) (fun _ _ _ h => h) (Or.inl ⟨by rfl, ?yi⟩) ?ha ?_
                case yi => intro w; go_simp; try omega
                case ha => go_simp; exact rfl
                refine wpAny_at (i := 18) (v := .string (O2 ++ ⟨#[32]⟩ ++ XA ++ ⟨#[61, 34]⟩ ++ ES ++ ⟨#[34]⟩)) (a' := ?ax18q14) rfl (by kernel_rfl) (by kernel_rfl) (by kernel_rfl) (fun _ _ _ h => h) (Or.inl ⟨by rfl, ?yi⟩) ?ha ?_
                case yi => intro w; go_simp; try omega
                case ha => go_simp; exact rfl
                refine wpAny_at (i := 19) (v := .string (O2 ++ ⟨#[32]⟩ ++ XA ++ ⟨#[61, 34]⟩ ++ ES ++ ⟨#[34]⟩)) (a' := ?ax19q15) rfl (by kernel_rfl) (by kernel_rfl) (by kernel_rfl) (fun _ _ _ h => h) (Or.inl ⟨by rfl, ?yi⟩) ?ha ?_
                case yi => intro w; go_simp; try omega
                case ha => go_simp; exact rfl
                refine wpAny_done (by kernel_rfl) ?_ _
                go_wp2_with fail
                go_roundg r2.length
                case measure => simp only [List.length_cons]; omega
                case rel => exact ⟨i + 1, a ++ [kv], r2, _, rfl, hai2, by omega, rfl, by first | rfl | simp, HDA2, HN3, HB5⟩
              · go_simp
                go_wp2_with fail
                refine wpAny_at (i := 13) (v := .pointer (some ⟨b, off2 + i * 2, none⟩)) (a' := ?ax13q16) rfl (by kernel_rfl) (by kernel_rfl) (by kernel_rfl) (fun _ _ _ h => h) (Or.inl ⟨by rfl, ?yi⟩) ?ha ?_
                case yi => intro w; go_simp; try omega
                case ha => go_simp; exact rfl
                refine wpAny_at (i := 14) (v := .pointer (some ⟨b, off2 + i * 2 + 1, none⟩)) (a' := ?ax14q17) rfl (by kernel_rfl) (by kernel_rfl) (by kernel_rfl) (fun _ _ _ h => h) (Or.inl ⟨by rfl, ?yi⟩) ?ha ?_
                case yi => intro w; go_simp; try omega
                case ha => go_simp; exact rfl
                refine wpAny_ready (rs := [7, 15]) (by kernel_rfl) (by simp) ?_
                refine AllReady.cons rfl (fun K hK => ?_) (AllReady.cons rfl (fun K hK => ?_) AllReady.nil)
                · go_simp
                  go_wp2_with fail
                  refine wpAny_at (i := 8) (v := .string (O2 ++ ⟨#[32]⟩ ++ XA)) (a' := ?ax8q18) rfl (by kernel_rfl) (by kernel_rfl) (by kernel_rfl) (fun _ _ _ h => h) (Or.inl ⟨by rfl, ?yi⟩) ?ha ?_
                  case yi => intro w; go_simp; try omega
                  case ha => go_simp; exact rfl
                  refine wpAny_at (i := 9) (v := .string (O2 ++ ⟨#[32]⟩ ++ XA ++ ⟨#[61, 34]⟩)) (a' := ?ax9q19) rfl (by kernel_rfl) (by kernel_rfl) (by kernel_rfl) (fun _ _ _ h => h) (Or.inl ⟨by rfl, ?yi⟩) ?ha ?_
                  case yi => intro w; go_simp; try omega
                  case ha => go_simp; exact rfl
                  refine wpAny_ready (rs := [15]) (by kernel_rfl) (by simp) ?_
                  refine AllReady.cons rfl (fun K hK => ?_) AllReady.nil
                  go_simp
                  go_wp2_with fail
                  refine wpAny_ready (rs := [16]) (by kernel_rfl) (by simp) ?_
                  refine AllReady.cons rfl (fun K hK => ?_) AllReady.nil
                  go_simp
                  go_wp2_with fail
                  refine HESC.out.mono ?_
                  rintro e w5 ⟨rfl, hb5⟩
                  have y1 := cell_keep y1 hb5
                  have z0 := cell_keep z0 hb5
                  have HB5 := hide (HBD.out w5 hb5)
                  clear hb5
                  go_wp2_with fail
                  refine wpAny_at (i := 17) (v := .string (O2 ++ ⟨#[32]⟩ ++ XA ++ ⟨#[61, 34]⟩ ++ ES)) (a' := ?ax17q20) rfl (by kernel_rfl) (by kernel_rfl) (by kernel_rfl) (fun _ _ _ h => h) (Or.inl ⟨by rfl, ?yi⟩) ?ha ?_
                  case yi => intro w; go_simp; try omega
                  case ha => go_simp; exact rfl
                  refine wpAny_at (i := 18) (v := .string (O2 ++ ⟨#[32]⟩ ++ XA ++ ⟨#[61, 34]⟩ ++ ES ++ ⟨#[34]⟩)) (a' := ?ax18q21) rfl (by kernel_rfl) (by kernel_rfl) (by kernel_rfl) (fun _ _ _ h => h) (Or.inl ⟨by rfl, ?yi⟩) ?ha ?_
                  case yi => intro w; go_simp; try omega
                  case ha => go_simp; exact rfl
                  refine wpAny_at (i := 19) (v := .string (O2 ++ ⟨#[32]⟩ ++ XA ++ ⟨#[61, 34]⟩ ++ ES ++ ⟨#[34]⟩)) (a' := ?ax19q22) rfl (by kernel_rfl) (by kernel_rfl) (by kernel_rfl) (fun _ _ _ h => h) (Or.inl ⟨by rfl, ?yi⟩) ?ha ?_
                  case yi => intro w; go_simp; try omega
                  case ha => go_simp; exact rfl
                  refine wpAny_done (by kernel_rfl) ?_ _
                  go_wp2_with fail
                  go_roundg r2.length
                  case measure => simp only [List.length_cons]; omega
                  case rel => exact ⟨i + 1, a ++ [kv], r2, _, rfl, hai2, by omega, rfl, by first | rfl | simp, HDA2, HN3, HB5⟩
                · go_simp
                  go_wp2_with fail
                  refine wpAny_ready (rs := [7, 16]) (by kernel_rfl) (by simp) ?_
                  refine AllReady.cons rfl (fun K hK => ?_) (AllReady.cons rfl (fun K hK => ?_) AllReady.nil)
                  · go_simp
                    go_wp2_with fail
                    refine wpAny_at (i := 8) (v := .string (O2 ++ ⟨#[32]⟩ ++ XA)) (a' := ?ax8q23) rfl (by kernel_rfl) (by kernel_rfl) (by kernel_rfl) (fun _ _ _ h => h) (Or.inl ⟨by rfl, ?yi⟩) ?ha ?_
                    case yi => intro w; go_simp; try omega
                    case ha => go_simp; exact rfl
                    refine wpAny_at (i := 9) (v := .string (O2 ++ ⟨#[32]⟩ ++ XA ++ ⟨#[61, 34]⟩)) (a' := ?ax9q24) rfl (by kernel_rfl) (by kernel_rfl) (by kernel_rfl) (fun _ _ _ h => h) (Or.inl ⟨by rfl, ?yi⟩) ?ha ?_
                    case yi => intro w; go_simp; try omega
                    case ha => go_simp; exact rfl
                    refine wpAny_ready (rs := [16]) (by kernel_rfl) (by simp) ?_
                    refine AllReady.cons rfl (fun K hK => ?_) AllReady.nil
                    go_simp
                    go_wp2_with fail
                    refine HESC.out.mono ?_
                    rintro e w5 ⟨rfl, hb5⟩
                    have y1 := cell_keep y1 hb5
                    have z0 := cell_keep z0 hb5
                    have HB5 := hide (HBD.out w5 hb5)
                    clear hb5
                    go_wp2_with fail
                    refine wpAny_at (i := 17) (v := .string (O2 ++ ⟨#[32]⟩ ++ XA ++ ⟨#[61, 34]⟩ ++ ES)) (a' := ?ax17q25) rfl (by kernel_rfl) (by kernel_rfl) (by kernel_rfl) (fun _ _ _ h => h) (Or.inl ⟨by rfl, ?yi⟩) ?ha ?_
                    case yi => intro w; go_simp; try omega
                    case ha => go_simp; exact rfl
                    refine wpAny_at (i := 18) (v := .string (O2 ++ ⟨#[32]⟩ ++ XA ++ ⟨#[61, 34]⟩ ++ ES ++ ⟨#[34]⟩)) (a' := ?ax18q26) rfl (by kernel_rfl) (by kernel_rfl) (by kernel_rfl) (fun _ _ _ h => h) (Or.inl ⟨by rfl, ?yi⟩) ?ha ?_
                    case yi => intro w; go_simp; try omega
                    case ha => go_simp; exact rfl
                    refine wpAny_at (i := 19) (v := .string (O2 ++ ⟨#[32]⟩ ++ XA ++ ⟨#[61, 34]⟩ ++ ES ++ ⟨#[34]⟩)) (a' := ?ax19q27) rfl (by kernel_rfl) (by kernel_rfl) (by kernel_rfl) (fun _ _ _ h => h) (Or.inl ⟨by rfl, ?yi⟩) ?ha ?_
                    case yi => intro w; go_simp; try omega
                    case ha => go_simp; exact rfl
                    refine wpAny_done (by kernel_rfl) ?_ _
                    go_wp2_with fail
                    go_roundg r2.length
                    case measure => simp only [List.length_cons]; omega
                    case rel => exact ⟨i + 1, a ++ [kv], r2, _, rfl, hai2, by omega, rfl, by first | rfl | simp, HDA2, HN3, HB5⟩
                  · go_simp
                    go_wp2_with fail
                    refine HESC.out.mono ?_
                    rintro e w5 ⟨rfl, hb5⟩
                    have y1 := cell_keep y1 hb5
                    have z0 := cell_keep z0 hb5
                    have HB5 := hide (HBD.out w5 hb5)
                    clear hb5
                    go_wp2_with fail
                    refine wpAny_ready (rs := [7]) (by kernel_rfl) (by simp) ?_
                    refine AllReady.cons rfl (fun K hK => ?_) AllReady.nil
                    go_simp
                    go_wp2_with fail
                    refine wpAny_at (i := 8) (v := .string (O2 ++ ⟨#[32]⟩ ++ XA)) (a' := ?ax8q28) rfl (by kernel_rfl) (by kernel_rfl) (by kernel_rfl) (fun _ _ _ h => h) (Or.inl ⟨by rfl, ?yi⟩) ?ha ?_
                    case yi => intro w; go_simp; try omega
                    case ha => go_simp; exact rfl
                    refine wpAny_at (i := 9) (v := .string (O2 ++ ⟨#[32]⟩ ++ XA ++ ⟨#[61, 34]⟩)) (a' := ?ax9q29) rfl (by kernel_rfl) (by kernel_rfl) (by kernel_rfl) (fun _ _ _ h => h) (Or.inl ⟨by rfl, ?yi⟩) ?ha ?_
                    case yi => intro w; go_simp; try omega
                    case ha => go_simp; exact rfl
                    refine wpAny_at (i := 17) (v := .string (O2 ++ ⟨#[32]⟩ ++ XA ++ ⟨#[61, 34]⟩ ++ ES)) (a' := ?ax17q30) rfl (by kernel_rfl) (by kernel_rfl) (by kernel_rfl) (fun _ _ _ h => h) (Or.inl ⟨by rfl, ?yi⟩) ?ha ?_
                    case yi => intro w; go_simp; try omega
                    case ha => go_simp; exact rfl
                    refine wpAny_at (i := 18) (v := .string (O2 ++ ⟨#[32]⟩ ++ XA ++ ⟨#[61, 34]⟩ ++ ES ++ ⟨#[34]⟩)) (a' := ?ax18q31) rfl (by kernel_rfl) (by kernel_rfl) (by kernel_rfl) (fun _ _ _ h => h) (Or.inl ⟨by rfl, ?yi⟩) ?ha ?_
                    case yi => intro w; go_simp; try omega
                    case ha => go_simp; exact rfl
                    refine wpAny_at (i := 19) (v := .string (O2 ++ ⟨#[32]⟩ ++ XA ++ ⟨#[61, 34]⟩ ++ ES ++ ⟨#[34]⟩)) (a' := ?ax19q32) rfl (by kernel_rfl) (by kernel_rfl) (by kernel_rfl) (fun _ _ _ h => h) (Or.inl ⟨by rfl, ?yi⟩) ?ha ?_
                    case yi => intro w; go_simp; try omega
                    case ha => go_simp; exact rfl
                    refine wpAny_done (by kernel_rfl) ?_ _
                    go_wp2_with fail
                    go_roundg r2.length
                    case measure => simp only [List.length_cons]; omega
                    case rel => exact ⟨i + 1, a ++ [kv], r2, _, rfl, hai2, by omega, rfl, by first | rfl | simp, HDA2, HN3, HB5⟩
            · go_simp
              go_wp2_with fail
              refine wpAny_at (i := 13) (v := .pointer (some ⟨b, off2 + i * 2, none⟩)) (a' := ?ax13q33) rfl (by kernel_rfl) (by kernel_rfl) (by kernel_rfl) (fun _ _ _ h => h) (Or.inl ⟨by rfl, ?yi⟩) ?ha ?_
              case yi => intro w; go_simp; try omega
              case ha => go_simp; exact rfl
              refine wpAny_at (i := 14) (v := .pointer (some ⟨b, off2 + i * 2 + 1, none⟩)) (a' := ?ax14q34) rfl (by kernel_rfl) (by kernel_rfl) (by kernel_rfl) (fun _ _ _ h => h) (Or.inl ⟨by rfl, ?yi⟩) ?ha ?_
              case yi => intro w; go_simp; try omega
              case ha => go_simp; exact rfl
              refine wpAny_ready (rs := [3, 15]) (by kernel_rfl) (by simp) ?_
              refine AllReady.cons rfl (fun K hK => ?_) (AllReady.cons rfl (fun K hK => ?_) AllReady.nil)
              · go_simp
                go_wp2_with fail
                refine wpAny_at (i := 5) (v := .pointer (some ⟨b, off2 + i * 2, none⟩)) (a' := ?ax5q35) rfl (by kernel_rfl) (by kernel_rfl) (by kernel_rfl) (fun _ _ _ h => h) (Or.inl ⟨by rfl, ?yi⟩) ?ha ?_
                case yi => intro w; go_simp; try omega
                case ha => go_simp; exact rfl
                refine wpAny_at (i := 6) (v := .pointer (some ⟨b, off2 + i * 2, none⟩)) (a' := ?ax6q36) rfl (by kernel_rfl) (by kernel_rfl) (by kernel_rfl) (fun _ _ _ h => h) (Or.inl ⟨by rfl, ?yi⟩) ?ha ?_
                case yi => intro w; go_simp; try omega
                case ha => go_simp; exact rfl
                refine wpAny_ready (rs := [7, 15]) (by kernel_rfl) (by simp) ?_
                refine AllReady.cons rfl (fun K hK => ?_) (AllReady.cons rfl (fun K hK => ?_) AllReady.nil)
                · go_simp
                  go_wp2_with fail
                  refine wpAny_at (i := 8) (v := .string (O2 ++ ⟨#[32]⟩ ++ XA)) (a' := ?ax8q37) rfl (by kernel_rfl) (by kernel_rfl) (by kernel_rfl) (fun _ _ _ h => h) (Or.inl ⟨by rfl, ?yi⟩) ?ha ?_
                  case yi => intro w; go_simp; try omega
                  case ha => go_simp; exact rfl
                  refine wpAny_at (i := 9) (v := .string (O2 ++ ⟨#[32]⟩ ++ XA ++ ⟨#[61, 34]⟩)) (a' := ?ax9q38) rfl (by kernel_rfl) (by kernel_rfl) (by kernel_rfl) (fun _ _ _ h => h) (Or.inl ⟨by rfl, ?yi⟩) ?ha ?_
                  case yi => intro w; go_simp; try omega
                  case ha => go_simp; exact rfl
                  refine wpAny_ready (rs := [15]) (by kernel_rfl) (by simp) ?_
                  refine AllReady.cons rfl (fun K hK => ?_) AllReady.nil
                  go_simp
                  go_wp2_with fail
                  refine wpAny_ready (rs := [16]) (by kernel_rfl) (by simp) ?_
                  refine AllReady.cons rfl (fun K hK => ?_) AllReady.nil
                  go_simp
                  go_wp2_with fail
                  refine HESC.out.mono ?_
                  rintro e w5 ⟨rfl, hb5⟩
                  have y1 := cell_keep y1 hb5
                  have z0 := cell_keep z0 hb5
                  have HB5 := hide (HBD.out w5 hb5)
                  clear hb5
                  go_wp2_with fail
                  refine wpAny_at (i := 17) (v := .string (O2 ++ ⟨#[32]⟩ ++ XA ++ ⟨#[61, 34]⟩ ++ ES)) (a' := ?ax17q39) rfl (by kernel_rfl) (by kernel_rfl) (by kernel_rfl) (fun _ _ _ h => h) (Or.inl ⟨by rfl, ?yi⟩) ?ha ?_
                  case yi => intro w; go_simp; try omega
                  case ha => go_simp; exact rfl
                  refine wpAny_at (i := 18) (v := .string (O2 ++ ⟨#[32]⟩ ++ XA ++ ⟨#[61, 34]⟩ ++ ES ++ ⟨#[34]⟩)) (a' := ?ax18q40) rfl (by kernel_rfl) (by kernel_rfl) (by kernel_rfl) (fun _ _ _ h => h) (Or.inl ⟨by rfl, ?yi⟩) ?ha ?_
                  case yi => intro w; go_simp; try omega
                  case ha => go_simp; exact rfl
                  refine wpAny_at (i := 19) (v := .string (O2 ++ ⟨#[32]⟩ ++ XA ++ ⟨#[61, 34]⟩ ++ ES ++ ⟨#[34]⟩)) (a' := ?ax19q41) rfl (by kernel_rfl) (by kernel_rfl) (by kernel_rfl) (fun _ _ _ h => h) (Or.inl ⟨by rfl, ?yi⟩) ?ha ?_
                  case yi => intro w; go_simp; try omega
                  case ha => go_simp; exact rfl
                  refine wpAny_done (by kernel_rfl) ?_ _
                  go_wp2_with fail
                  go_roundg r2.length
                  case measure => simp only [List.length_cons]; omega
                  case rel => exact ⟨i + 1, a ++ [kv], r2, _, rfl, hai2, by omega, rfl, by first | rfl | simp, HDA2, HN3, HB5⟩
                · go_simp
                  go_wp2_with fail
                  refine wpAny_ready (rs := [7, 16]) (by kernel_rfl) (by simp) ?_
                  refine AllReady.cons rfl (fun K hK => ?_) (AllReady.cons rfl (fun K hK => ?_) AllReady.nil)
                  · go_simp
                    go_wp2_with fail
                    refine wpAny_at (i := 8) (v := .string (O2 ++ ⟨#[32]⟩ ++ XA)) (a' := ?ax8q42) rfl (by kernel_rfl) (by kernel_rfl) (by kernel_rfl) (fun _ _ _ h => h) (Or.inl ⟨by rfl, ?yi⟩) ?ha ?_
                    case yi => intro w; go_simp; try omega
                    case ha => go_simp; exact rfl
                    refine wpAny_at (i := 9) (v := .string (O2 ++ ⟨#[32]⟩ ++ XA ++ ⟨#[61, 34]⟩)) (a' := ?ax9q43) rfl (by kernel_rfl) (by kernel_rfl) (by kernel_rfl) (fun _ _ _ h => h) (Or.inl ⟨by rfl, ?yi⟩) ?ha ?_
                    case yi => intro w; go_simp; try omega
                    case ha => go_simp; exact rfl
                    refine wpAny_ready (rs := [16]) (by kernel_rfl) (by simp) ?_
                    refine AllReady.cons rfl (fun K hK => ?_) AllReady.nil
                    go_simp
                    go_wp2_with fail
                    refine HESC.out.mono ?_
                    rintro e w5 ⟨rfl, hb5⟩
                    have y1 := cell_keep y1 hb5
                    have z0 := cell_keep z0 hb5
                    have HB5 := hide (HBD.out w5 hb5)
                    clear hb5
                    go_wp2_with fail
                    refine wpAny_at (i := 17) (v := .string (O2 ++ ⟨#[32]⟩ ++ XA ++ ⟨#[61, 34]⟩ ++ ES)) (a' := ?ax17q44) rfl (by kernel_rfl) (by kernel_rfl) (by kernel_rfl) (fun _ _ _ h => h) (Or.inl ⟨by rfl, ?yi⟩) ?ha ?_
                    case yi => intro w; go_simp; try omega
                    case ha => go_simp; exact rfl
                    refine wpAny_at (i := 18) (v := .string (O2 ++ ⟨#[32]⟩ ++ XA ++ ⟨#[61, 34]⟩ ++ ES ++ ⟨#[34]⟩)) (a' := ?ax18q45) rfl (by kernel_rfl) (by kernel_rfl) (by kernel_rfl) (fun _ _ _ h => h) (Or.inl ⟨by rfl, ?yi⟩) ?ha ?_
                    case yi => intro w; go_simp; try omega
                    case ha => go_simp; exact rfl
                    refine wpAny_at (i := 19) (v := .string (O2 ++ ⟨#[32]⟩ ++ XA ++ ⟨#[61, 34]⟩ ++ ES ++ ⟨#[34]⟩)) (a' := ?ax19q46) rfl (by kernel_rfl) (by kernel_rfl) (by kernel_rfl) (fun _ _ _ h => h) (Or.inl ⟨by rfl, ?yi⟩) ?ha ?_
                    case yi => intro w; go_simp; try omega
                    case ha => go_simp; exact rfl
                    refine wpAny_done (by kernel_rfl) ?_ _
                    go_wp2_with fail
                    go_roundg r2.length
                    case measure => simp only [List.length_cons]; omega
                    case rel => exact ⟨i + 1, a ++ [kv], r2, _, rfl, hai2, by omega, rfl, by first | rfl | simp, HDA2, HN3, HB5⟩
                  · go_simp
                    go_wp2_with fail
                    refine HESC.out.mono ?_
                    rintro e w5 ⟨rfl, hb5⟩
                    have y1 := cell_keep y1 hb5
                    have z0 := cell_keep z0 hb5
                    have HB5 := hide (HBD.out w5 hb5)
                    clear hb5
                    go_wp2_with fail
                    refine wpAny_ready (rs := [7]) (by kernel_rfl) (by simp) ?_
                    refine AllReady.cons rfl (fun K hK => ?_) AllReady.nil
                    go_simp
                    go_wp2_with fail
                    refine wpAny_at (i := 8) (v := .string (O2 ++ ⟨#[32]⟩ ++ XA)) (a' := ?ax8q47) rfl (by kernel_rfl) (by kernel_rfl) (by kernel_rfl) (fun _ _ _ h => h) (Or.inl ⟨by rfl, ?yi⟩) ?ha ?_
                    case yi => intro w; go_simp; try omega
                    case ha => go_simp; exact rfl
                    refine wpAny_at (i := 9) (v := .string (O2 ++ ⟨#[32]⟩ ++ XA ++ ⟨#[61, 34]⟩)) (a' := ?ax9q48) rfl (by kernel_rfl) (by kernel_rfl) (by kernel_rfl) (fun _ _ _ h => h) (Or.inl ⟨by rfl, ?yi⟩) ?ha ?_
                    case yi => intro w; go_simp; try omega
                    case ha => go_simp; exact rfl
                    refine wpAny_at (i := 17) (v := .string (O2 ++ ⟨#[32]⟩ ++ XA ++ ⟨#[61, 34]⟩ ++ ES)) (a' := ?ax17q49) rfl (by kernel_rfl) (by kernel_rfl) (by kernel_rfl) (fun _ _ _ h => h) (Or.inl ⟨by rfl, ?yi⟩) ?ha ?_
                    case yi => intro w; go_simp; try omega
                    case ha => go_simp; exact rfl
                    refine wpAny_at (i := 18) (v := .string (O2 ++ ⟨#[32]⟩ ++ XA ++ ⟨#[61, 34]⟩ ++ ES ++ ⟨#[34]⟩)) (a' := ?ax18q50) rfl (by kernel_rfl) (by kernel_rfl) (by kernel_rfl) (fun _ _ _ h => h) (Or.inl ⟨by rfl, ?yi⟩) ?ha ?_
                    case yi => intro w; go_simp; try omega
                    case ha => go_simp; exact rfl
                    refine wpAny_at (i := 19) (v := .string (O2 ++ ⟨#[32]⟩ ++ XA ++ ⟨#[61, 34]⟩ ++ ES ++ ⟨#[34]⟩)) (a' := ?ax19q51) rfl (by kernel_rfl) (by kernel_rfl) (by kernel_rfl) (fun _ _ _ h => h) (Or.inl ⟨by rfl, ?yi⟩) ?ha ?_
                    case yi => intro w; go_simp; try omega
                    case ha => go_simp; exact rfl
                    refine wpAny_done (by kernel_rfl) ?_ _
                    go_wp2_with fail
                    go_roundg r2.length
                    case measure => simp only [List.length_cons]; omega
                    case rel => exact ⟨i + 1, a ++ [kv], r2, _, rfl, hai2, by omega, rfl, by first | rfl | simp, HDA2, HN3, HB5⟩
              · go_simp
                go_wp2_with fail
                refine wpAny_ready (rs := [3, 16]) (by kernel_rfl) (by simp) ?_
                refine AllReady.cons rfl (fun K hK => ?_) (AllReady.cons rfl (fun K hK => ?_) AllReady.nil)
                · go_simp
                  go_wp2_with fail
                  refine wpAny_at (i := 5) (v := .pointer (some ⟨b, off2 + i * 2, none⟩)) (a' := ?ax5q52) rfl (by kernel_rfl) (by kernel_rfl) (by kernel_rfl) (fun _ _ _ h => h) (Or.inl ⟨by rfl, ?yi⟩) ?ha ?_
                  case yi => intro w; go_simp; try omega
                  case ha => go_simp; exact rfl
                  refine wpAny_at (i := 6) (v := .pointer (some ⟨b, off2 + i * 2, none⟩)) (a' := ?ax6q53) rfl (by kernel_rfl) (by kernel_rfl) (by kernel_rfl) (fun _ _ _ h => h) (Or.inl ⟨by rfl, ?yi⟩) ?ha ?_
                  case yi => intro w; go_simp; try omega
                  case ha => go_simp; exact rfl
                  refine wpAny_ready (rs := [7, 16]) (by kernel_rfl) (by simp) ?_
                  refine AllReady.cons rfl (fun K hK => ?_) (AllReady.cons rfl (fun K hK => ?_) AllReady.nil)
                  · go_simp
                    go_wp2_with fail
                    refine wpAny_at (i := 8) (v := .string (O2 ++ ⟨#[32]⟩ ++ XA)) (a' := ?ax8q54) rfl (by kernel_rfl) (by kernel_rfl) (by kernel_rfl) (fun _ _ _ h => h) (Or.inl ⟨by rfl, ?yi⟩) ?ha ?_
                    case yi => intro w; go_simp; try omega
                    case ha => go_simp; exact rfl
                    refine wpAny_at (i := 9) (v := .string (O2 ++ ⟨#[32]⟩ ++ XA ++ ⟨#[61, 34]⟩)) (a' := ?ax9q55) rfl (by kernel_rfl) (by kernel_rfl) (by kernel_rfl) (fun _ _ _ h => h) (Or.inl ⟨by rfl, ?yi⟩) ?ha ?_
                    case yi => intro w; go_simp; try omega
                    case ha => go_simp; exact rfl
                    refine wpAny_ready (rs := [16]) (by kernel_rfl) (by simp) ?_
                    refine AllReady.cons rfl (fun K hK => ?_) AllReady.nil
                    go_simp
                    go_wp2_with fail
                    refine HESC.out.mono ?_
                    rintro e w5 ⟨rfl, hb5⟩
                    have y1 := cell_keep y1 hb5
                    have z0 := cell_keep z0 hb5
                    have HB5 := hide (HBD.out w5 hb5)
                    clear hb5
                    go_wp2_with fail
                    refine wpAny_at (i := 17) (v := .string (O2 ++ ⟨#[32]⟩ ++ XA ++ ⟨#[61, 34]⟩ ++ ES)) (a' := ?ax17q56) rfl (by kernel_rfl) (by kernel_rfl) (by kernel_rfl) (fun _ _ _ h => h) (Or.inl ⟨by rfl, ?yi⟩) ?ha ?_
                    case yi => intro w; go_simp; try omega
                    case ha => go_simp; exact rfl
                    refine wpAny_at (i := 18) (v := .string (O2 ++ ⟨#[32]⟩ ++ XA ++ ⟨#[61, 34]⟩ ++ ES ++ ⟨#[34]⟩)) (a' := ?ax18q57) rfl (by kernel_rfl) (by kernel_rfl) (by kernel_rfl) (fun _ _ _ h => h) (Or.inl ⟨by rfl, ?yi⟩) ?ha ?_
                    case yi => intro w; go_simp; try omega
                    case ha => go_simp; exact rfl
                    refine wpAny_at (i := 19) (v := .string (O2 ++ ⟨#[32]⟩ ++ XA ++ ⟨#[61, 34]⟩ ++ ES ++ ⟨#[34]⟩)) (a' := ?ax19q58) rfl (by kernel_rfl) (by kernel_rfl) (by kernel_rfl) (fun _ _ _ h => h) (Or.inl ⟨by rfl, ?yi⟩) ?ha ?_
                    case yi => intro w; go_simp; try omega
                    case ha => go_simp; exact rfl
                    refine wpAny_done (by kernel_rfl) ?_ _
                    go_wp2_with fail
                    go_roundg r2.length
                    case measure => simp only [List.length_cons]; omega
                    case rel => exact ⟨i + 1, a ++ [kv], r2, _, rfl, hai2, by omega, rfl, by first | rfl | simp, HDA2, HN3, HB5⟩
                  · go_simp
                    go_wp2_with fail
                    refine HESC.out.mono ?_
                    rintro e w5 ⟨rfl, hb5⟩
                    have y1 := cell_keep y1 hb5
                    have z0 := cell_keep z0 hb5
                    have HB5 := hide (HBD.out w5 hb5)
                    clear hb5
                    go_wp2_with fail
                    refine wpAny_ready (rs := [7]) (by kernel_rfl) (by simp) ?_
                    refine AllReady.cons rfl (fun K hK => ?_) AllReady.nil
                    go_simp
                    go_wp2_with fail
                    refine wpAny_at (i := 8) (v := .string (O2 ++ ⟨#[32]⟩ ++ XA)) (a' := ?ax8q59) rfl (by kernel_rfl) (by kernel_rfl) (by kernel_rfl) (fun _ _ _ h => h) (Or.inl ⟨by rfl, ?yi⟩) ?ha ?_
                    case yi => intro w; go_simp; try omega
                    case ha => go_simp; exact rfl
                    refine wpAny_at (i := 9) (v := .string (O2 ++ ⟨#[32]⟩ ++ XA ++ ⟨#[61, 34]⟩)) (a' := ?ax9q60) rfl (by kernel_rfl) (by kernel_rfl) (by kernel_rfl) (fun _ _ _ h => h) (Or.inl ⟨by rfl, ?yi⟩) ?ha ?_
                    case yi => intro w; go_simp; try omega
                    case ha => go_simp; exact rfl
                    refine wpAny_at (i := 17) (v := .string (O2 ++ ⟨#[32]⟩ ++ XA ++ ⟨#[61, 34]⟩ ++ ES)) (a' := ?ax17q61) rfl (by kernel_rfl) (by kernel_rfl) (by kernel_rfl) (fun _ _ _ h => h) (Or.inl ⟨by rfl, ?yi⟩) ?ha ?_
                    case yi => intro w; go_simp; try omega
                    case ha => go_simp; exact rfl
                    refine wpAny_at (i := 18) (v := .string (O2 ++ ⟨#[32]⟩ ++ XA ++ ⟨#[61, 34]⟩ ++ ES ++ ⟨#[34]⟩)) (a' := ?ax18q62) rfl (by kernel_rfl) (by kernel_rfl) (by kernel_rfl) (fun _ _ _ h => h) (Or.inl ⟨by rfl, ?yi⟩) ?ha ?_
                    case yi => intro w; go_simp; try omega
                    case ha => go_simp; exact rfl
                    refine wpAny_at (i := 19) (v := .string (O2 ++ ⟨#[32]⟩ ++ XA ++ ⟨#[61, 34]⟩ ++ ES ++ ⟨#[34]⟩)) (a' := ?ax19q63) rfl (by kernel_rfl) (by kernel_rfl) (by kernel_rfl) (fun _ _ _ h => h) (Or.inl ⟨by rfl, ?yi⟩) ?ha ?_
                    case yi => intro w; go_simp; try omega
                    case ha => go_simp; exact rfl
                    refine wpAny_done (by kernel_rfl) ?_ _
                    go_wp2_with fail
                    go_roundg r2.length
                    case measure => simp only [List.length_cons]; omega
                    case rel => exact ⟨i + 1, a ++ [kv], r2, _, rfl, hai2, by omega, rfl, by first | rfl | simp, HDA2, HN3, HB5⟩
                · go_simp
                  go_wp2_with fail
                  refine HESC.out.mono ?_
                  rintro e w5 ⟨rfl, hb5⟩
                  have y1 := cell_keep y1 hb5
                  have z0 := cell_keep z0 hb5
                  have HB5 := hide (HBD.out w5 hb5)
                  clear hb5
                  go_wp2_with fail
                  refine wpAny_ready (rs := [3]) (by kernel_rfl) (by simp) ?_
                  refine AllReady.cons rfl (fun K hK => ?_) AllReady.nil
                  go_simp
                  go_wp2_with fail
                  refine wpAny_at (i := 5) (v := .pointer (some ⟨b, off2 + i * 2, none⟩)) (a' := ?ax5q64) rfl (by kernel_rfl) (by kernel_rfl) (by kernel_rfl) (fun _ _ _ h => h) (Or.inl ⟨by rfl, ?yi⟩) ?ha ?_
                  case yi => intro w; go_simp; try omega
                  case ha => go_simp; exact rfl
                  refine wpAny_at (i := 6) (v := .pointer (some ⟨b, off2 + i * 2, none⟩)) (a' := ?ax6q65) rfl (by kernel_rfl) (by kernel_rfl) (by kernel_rfl) (fun _ _ _ h => h) (Or.inl ⟨by rfl, ?yi⟩) ?ha ?_
                  case yi => intro w; go_simp; try omega
                  case ha => go_simp; exact rfl
                  refine wpAny_ready (rs := [7]) (by kernel_rfl) (by simp) ?_
                  refine AllReady.cons rfl (fun K hK => ?_) AllReady.nil
                  go_simp
                  go_wp2_with fail
                  refine wpAny_at (i := 8) (v := .string (O2 ++ ⟨#[32]⟩ ++ XA)) (a' := ?ax8q66) rfl (by kernel_rfl) (by kernel_rfl) (by kernel_rfl) (fun _ _ _ h => h) (Or.inl ⟨by rfl, ?yi⟩) ?ha ?_
                  case yi => intro w; go_simp; try omega
                  case ha => go_simp; exact rfl
                  refine wpAny_at (i := 9) (v := .string (O2 ++ ⟨#[32]⟩ ++ XA ++ ⟨#[61, 34]⟩)) (a' := ?ax9q67) rfl (by kernel_rfl) (by kernel_rfl) (by kernel_rfl) (fun _ _ _ h => h) (Or.inl ⟨by rfl, ?yi⟩) ?ha ?_
                  case yi => intro w; go_simp; try omega
                  case ha => go_simp; exact rfl
                  refine wpAny_at (i := 17) (v := .string (O2 ++ ⟨#[32]⟩ ++ XA ++ ⟨#[61, 34]⟩ ++ ES)) (a' := ?ax17q68) rfl (by kernel_rfl) (by kernel_rfl) (by kernel_rfl) (fun _ _ _ h => h) (Or.inl ⟨by rfl, ?yi⟩) ?ha ?_
                  case yi => intro w; go_simp; try omega
                  case ha => go_simp; exact rfl
                  refine wpAny_at (i := 18) (v := .string (O2 ++ ⟨#[32]⟩ ++ XA ++ ⟨#[61, 34]⟩ ++ ES ++ ⟨#[34]⟩)) (a' := ?ax18q69) rfl (by kernel_rfl) (by kernel_rfl) (by kernel_rfl) (fun _ _ _ h => h) (Or.inl ⟨by rfl, ?yi⟩) ?ha ?_
                  case yi => intro w; go_simp; try omega
                  case ha => go_simp; exact rfl
                  refine wpAny_at (i := 19) (v := .string (O2 ++ ⟨#[32]⟩ ++ XA ++ ⟨#[61, 34]⟩ ++ ES ++ ⟨#[34]⟩)) (a' := ?ax19q70) rfl (by kernel_rfl) (by kernel_rfl) (by kernel_rfl) (fun _ _ _ h => h) (Or.inl ⟨by rfl, ?yi⟩) ?ha ?_
                  case yi => intro w; go_simp; try omega
                  case ha => go_simp; exact rfl
                  refine wpAny_done (by kernel_rfl) ?_ _
                  go_wp2_with fail
                  go_roundg r2.length
                  case measure => simp only [List.length_cons]; omega
                  case rel => exact ⟨i + 1, a ++ [kv], r2, _, rfl, hai2, by omega, rfl, by first | rfl | simp, HDA2, HN3, HB5⟩
end Go.Proofs.Ytholfdfjapgfbaa
