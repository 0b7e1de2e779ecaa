/-
  The law TokTag, walked: it answers true at every name, attribute and text.
-/
import Derived.Test.YtjmgcdeinjamiaaDoorSm1
import Derived.Test.YtjmgcdeinjamiaaDoorS1
import Derived.Test.YtjmgcdeinjamiaaDoorP7
import Derived.BigQuiet
import Derived.Deep.Cut
namespace Go.Proofs.YtjmgcdeinjamiaaDoor
open Go.RowKit
open Utf1

theorem bl_cat (a b : ByteArray) : bl (a ++ b) = bl a ++ bl b := by
  show (a ++ b).data.toList = _
  rw [ByteArray.data_append, Array.toList_append]
theorem cell_keep {w w' : World} {a : Addr} {v : Value} (h : w.cell? a = some v) (hb : Below w.heap.size w w') : w'.cell? a = some v := by
  have hl := cell_lt h
  unfold World.cell? at h ⊢
  rw [hb.block _ hl]
  exact h

theorem two_of {l : List (Tk × Value)} {a b : Tk} (h : l.map Prod.fst = [a, b]) : ∃ x y, l = [(a, x), (b, y)] := by
  match l, h with
  | [(a', x), (b', y)], h =>
    simp at h
    obtain ⟨rfl, rfl⟩ := h
    exact ⟨x, y, rfl⟩
theorem three_of {l : List (Tk × Value)} {a b c : Tk} (h : l.map Prod.fst = [a, b, c]) : ∃ x y z, l = [(a, x), (b, y), (c, z)] := by
  match l, h with
  | [(a', x), (b', y), (c', z)], h =>
    simp at h
    obtain ⟨rfl, rfl, rfl⟩ := h
    exact ⟨x, y, z, rfl⟩
theorem eq_nil (s : ByteArray) : (s.toList != []) = !decide (bl s = []) := by
  rw [ByteArray.toList_eq]
  by_cases h : bl s = []
  · rw [decide_eq_true h]
    show (bl s != []) = _
    rw [h]
    rfl
  · rw [decide_eq_false h]
    exact bne_iff_ne.2 h
theorem bne_empty {l : List UInt8} {b : Bool} (h : (l != []) = b) : l.isEmpty = !b := by
  subst h
  cases l <;> rfl
theorem bel_drw {w w' : World} (h : Below w.drew.heap.size w.drew w') : Below w.heap.size w w' := ⟨h.os, h.tape, h.output, h.size, h.block⟩
theorem ToksAt.base {w : World} {b b' : Nat} {v : Value} {l : List (Tk × Value)} (h : ToksAt w b v l) (hb : b' ≤ b) : ToksAt w b' v l := ⟨own_base h.1 hb, fun p hp => own_base (h.2 p hp) hb⟩

set_option maxRecDepth 100000 in
set_option maxHeartbeats 16000000 in
theorem lawTag (name A V text : ByteArray) (w : World) (hg : Glob w) (hgm : GlobM w) (hmn : name.size ≤ maxLen) (hma : A.size ≤ maxLen) : Calls Tryd.prog 7 #[.string name, .agg #[.string A, .string V], .string text] w fun e w' => e = .returned (.bool true) ∧ Below w.heap.size w w' := by
  have HSN := hide (fun w => simple_any name w hmn)
  have HSA := hide (fun w => simple_any A w hma)
  obtain ⟨w0, hw0⟩ : ∃ w0, w0 = w.alloc (.cells #[.string A, .string V] 35) := ⟨_, rfl⟩
  have hb0 : Below w.heap.size w w0 := by
    rw [hw0]
    exact (Below.refl _ _).alloc (Nat.le_refl _) _
  have HA0 : Hid (w0.cell? ⟨w.heap.size, 0, none⟩ = some (.string A) ∧ w0.cell? ⟨w.heap.size, 1, none⟩ = some (.string V)) := hide (by rw [hw0]; exact ⟨by simp, by simp⟩)
  have HG := hide (And.intro (hg.below hb0) (hgm.below hb0))
  have HB0 := hide hb0
  clear hg hgm hmn hma hb0
  have hr := fun w => raw_any name w
  obtain ⟨b1, hb1⟩ : ∃ b1, b1 = (rawOf (bl name)).isSome := ⟨_, rfl⟩
  rw [← hb1] at hr
  generalize (rawOf (bl name)).getD false = b2 at hr
  have HR := hide hr
  have HRN : Hid (b1 = false → rawOf (bl name) = none) := hide (by
    intro h
    rw [h] at hb1
    cases hq : rawOf (bl name) with
    | none => rfl
    | some x =>
      rw [hq] at hb1
      cases hb1)
  clear hb1 hr
  go_enter Tryd.func7, Tryd.ntmps7
  go_wp2_with fail
  rw [← hw0]
  refine (awake_any _ HG.out.1 HG.out.2).mono ?_
  rintro e w1 ⟨rfl, hb1⟩
  have HB1 := hide hb1
  have cA := cell_keep HA0.out.1 hb1
  have cV := cell_keep HA0.out.2 hb1
  have HGG := hide (And.intro (HG.out.1.below hb1) (HG.out.2.below hb1))
  have HBW := hide (bel2 HB0.out hb1)
  clear hb1 hw0 HA0 HG HB0
  go_wp2_with fail
  refine (HSN.out _).mono ?_
  rintro e w2 ⟨sb, rfl, rfl, hsim⟩
  have HSMN := hide hsim
  clear hsim HSN
  go_wp2_with fail
  refine (HSA.out _).mono ?_
  rintro e w3 ⟨sa, rfl, rfl, hsim⟩
  have HSMA := hide hsim
  clear hsim HSA
  go_wp2_with fail
  refine (HR.out _).mono ?_
  rintro e w4 ⟨rfl, rfl⟩
  clear HR
  cases sb with
  | false =>
    go_wp2_with fail
    go_ret
    exact ⟨rfl, HBW.out⟩
  | true =>
  cases sa with
  | false =>
    go_wp2_with fail
    go_ret
    exact ⟨rfl, HBW.out⟩
  | true =>
  cases b1 with
  | true =>
    go_wp2_with fail
    go_ret
    exact ⟨rfl, HBW.out⟩
  | false =>
  have HN := hide (HSMN.out rfl)
  have HA := hide (HSMA.out rfl)
  have HRW := hide (HRN.out rfl)
  clear HSMN HSMA HRN
  by_cases h1 : 100 < name.size
  · go_wp2_with fail
    go_ret
    exact ⟨rfl, HBW.out⟩
  have h1 : name.size ≤ 100 := by omega
  by_cases h2 : 100 < A.size
  · go_wp2_with fail
    go_ret
    exact ⟨rfl, HBW.out⟩
  have h2 : A.size ≤ 100 := by omega
  by_cases h3 : 1000 < V.size
  · go_wp2_with fail
    go_ret
    exact ⟨rfl, HBW.out⟩
  have h3 : V.size ≤ 1000 := by omega
  by_cases h4 : 1000 < text.size
  · go_wp2_with fail
    go_ret
    exact ⟨rfl, HBW.out⟩
  have h4 : text.size ≤ 1000 := by omega
  have HE1 := hide (fun w => escape_any V true w (by omega))
  have HE2 := hide (fun w => escape_any text false w (by omega))
  obtain ⟨E1, hE1⟩ : ∃ t : ByteArray, t = ⟨(esc true (bl V)).toArray⟩ := ⟨_, rfl⟩
  obtain ⟨E2, hE2⟩ : ∃ t : ByteArray, t = ⟨(esc false (bl text)).toArray⟩ := ⟨_, rfl⟩
  rw [← hE1] at HE1
  rw [← hE2] at HE2
  have hbE1 : bl E1 = esc true (bl V) := by rw [hE1]
  have hbE2 : bl E2 = esc false (bl text) := by rw [hE2]
  have hs1 : E1.size ≤ 6000 := by
    have := (esc_lens true (bl V)).2
    rw [← hbE1, bl_len, bl_len] at this
    omega
  have hs2 : E2.size ≤ 6000 := by
    have := (esc_lens false (bl text)).2
    rw [← hbE2, bl_len, bl_len] at this
    omega
  obtain ⟨X, hX⟩ : ∃ X : ByteArray, X = ({ data := #[60] } : ByteArray) ++ name ++ { data := #[32] } ++ A ++ { data := #[61, 34] } ++ E1 ++ { data := #[34, 62] } ++ E2 ++ { data := #[60, 47] } ++ name ++ { data := #[62] } := ⟨_, rfl⟩
  have hbx : bl X = 60 :: (bl name ++ 32 :: (bl A ++ 61 :: 34 :: (bl E1 ++ 34 :: 62 :: (bl E2 ++ 60 :: 47 :: (bl name ++ [62]))))) := by
    rw [hX]
    simp only [bl_cat]
    show ((((((((([60] ++ bl name) ++ [32]) ++ bl A) ++ [61, 34]) ++ bl E1) ++ [34, 62]) ++ bl E2) ++ [60, 47]) ++ bl name) ++ [62] = _
    simp only [List.append_assoc, List.cons_append, List.nil_append]
  have hxs : X.size ≤ 20000 := by
    rw [← bl_len, hbx]
    simp only [List.length_cons, List.length_append, bl_len, List.length_nil]
    omega
  have hq := toks_tagged (bl name) (bl A) (bl V) (bl text) HN.out HA.out HRW.out
  rw [← hbE1, ← hbE2, ← hbx] at hq
  have ht := fun w hg hgm => tokens_any X w (by omega) hg hgm
  rw [hq] at ht
  subst hX
  have HT := hide ht
  clear ht hq hxs hbx hE1 hE2 hbE1 hbE2 HN HA HRW
  go_wp2_with fail
  go_cut [12] from 57 (fun c wx => ∃ l : List (Tk × Value), Hid (l.map Prod.fst = ⟨2, bl name, [(bl A, bl V)], false, []⟩ :: ((if bl text = [] then [] else [⟨1, [], [], false, bl text⟩]) ++ [⟨3, bl name, [], false, []⟩])) ∧ Hid (ToksAt wx w4.heap.size c l) ∧ Hid (Below w4.heap.size w4 wx))
  case first =>
    refine wp_region_any (by kernel_rfl) ?_
    try (change wpAny _ _ _ _ _ _ _ (World.drew _))
    refine wpAny_to (i := 0) (v := .string name) (a' := ?ax0q1) rfl (by kernel_rfl) (by kernel_rfl) (by kernel_rfl) (fun _ _ _ h => h) (Or.inl ⟨by rfl, ?yi⟩) ?ha ?_
    case yi => intro w; go_simp; try omega
    case ha => go_simp; exact rfl
    refine wpAny_to (i := 1) (v := .string (({ data := #[60] } : ByteArray) ++ name)) (a' := ?ax1q2) rfl (by kernel_rfl) (by kernel_rfl) (by kernel_rfl) (fun _ _ _ h => h) (Or.inl ⟨by rfl, ?yi⟩) ?ha ?_
    case yi => intro w; go_simp; try omega
    case ha => go_simp; exact rfl
    refine wpAny_to (i := 2) (v := .string (({ data := #[60] } : ByteArray) ++ name ++ { data := #[32] })) (a' := ?ax2q3) rfl (by kernel_rfl) (by kernel_rfl) (by kernel_rfl) (fun _ _ _ h => h) (Or.inl ⟨by rfl, ?yi⟩) ?ha ?_
    case yi => intro w; go_simp; try omega
    case ha => go_simp; exact rfl
    refine wpAny_to (i := 3) (v := .pointer (some ⟨w.heap.size, 0, none⟩)) (a' := ?ax3q4) rfl (by kernel_rfl) (by kernel_rfl) (by kernel_rfl) (fun _ _ _ h => h) (Or.inl ⟨by rfl, ?yi⟩) ?ha ?_
    case yi => intro w; go_simp; try omega
    case ha => go_simp; exact rfl
    refine wpAny_to (i := 7) (v := .pointer (some ⟨w.heap.size, 1, none⟩)) (a' := ?ax7q5) rfl (by kernel_rfl) (by kernel_rfl) (by kernel_rfl) (fun _ _ _ h => h) (Or.inl ⟨by rfl, ?yi⟩) ?ha ?_
    case yi => intro w; go_simp; try omega
    case ha => go_simp; exact rfl
    refine wpAny_to (i := 12) (v := .string text) (a' := ?ax12q6) rfl (by kernel_rfl) (by kernel_rfl) (by kernel_rfl) (fun _ _ _ h => h) (Or.inl ⟨by rfl, ?yi⟩) ?ha ?_
    case yi => intro w; go_simp; try omega
    case ha => go_simp; exact rfl
    refine wpAny_to (i := 16) (v := .string name) (a' := ?ax16q7) rfl (by kernel_rfl) (by kernel_rfl) (by kernel_rfl) (fun _ _ _ h => h) (Or.inl ⟨by rfl, ?yi⟩) ?ha ?_
    case yi => intro w; go_simp; try omega
    case ha => go_simp; exact rfl
    refine wpAny_ready (rs := [4, 8]) (by kernel_rfl) (by simp) ?_
    refine AllReady.cons rfl (fun K hK => ?_) (AllReady.cons rfl (fun K hK => ?_) AllReady.nil)
    · go_simp
      go_wp2_with fail
      refine wpAny_to (i := 5) (v := .string (({ data := #[60] } : ByteArray) ++ name ++ { data := #[32] } ++ A)) (a' := ?ax5q101) rfl (by kernel_rfl) (by kernel_rfl) (by kernel_rfl) (fun _ _ _ h => h) (Or.inl ⟨by rfl, ?yi⟩) ?ha ?_
      case yi => intro w; go_simp; try omega
      case ha => go_simp; exact rfl
      refine wpAny_to (i := 6) (v := .string (({ data := #[60] } : ByteArray) ++ name ++ { data := #[32] } ++ A ++ { data := #[61, 34] })) (a' := ?ax6q102) rfl (by kernel_rfl) (by kernel_rfl) (by kernel_rfl) (fun _ _ _ h => h) (Or.inl ⟨by rfl, ?yi⟩) ?ha ?_
      case yi => intro w; go_simp; try omega
      case ha => go_simp; exact rfl
      refine wpAny_ready (rs := [8]) (by kernel_rfl) (by simp) ?_
      refine AllReady.cons rfl (fun K hK => ?_) AllReady.nil
      go_simp
      go_wp2_with fail
      refine wpAny_ready (rs := [9]) (by kernel_rfl) (by simp) ?_
      refine AllReady.cons rfl (fun K hK => ?_) AllReady.nil
      go_simp
      go_wp2_with fail
      refine (HE1.out _).mono ?_
      rintro e w5 ⟨rfl, hbx⟩
      have HDw5 : Hid (Below w4.heap.size w4 w5) := hide (bel_drw hbx)
      have cAw5 := cell_keep cA HDw5.out
      have cVw5 := cell_keep cV HDw5.out
      clear hbx
      go_wp2_with fail
      refine wpAny_to (i := 10) (v := .string (({ data := #[60] } : ByteArray) ++ name ++ { data := #[32] } ++ A ++ { data := #[61, 34] } ++ E1)) (a' := ?ax10q103) rfl (by kernel_rfl) (by kernel_rfl) (by kernel_rfl) (fun _ _ _ h => h) (Or.inl ⟨by rfl, ?yi⟩) ?ha ?_
      case yi => intro w; go_simp; try omega
      case ha => go_simp; exact rfl
      refine wpAny_to (i := 11) (v := .string (({ data := #[60] } : ByteArray) ++ name ++ { data := #[32] } ++ A ++ { data := #[61, 34] } ++ E1 ++ { data := #[34, 62] })) (a' := ?ax11q104) rfl (by kernel_rfl) (by kernel_rfl) (by kernel_rfl) (fun _ _ _ h => h) (Or.inl ⟨by rfl, ?yi⟩) ?ha ?_
      case yi => intro w; go_simp; try omega
      case ha => go_simp; exact rfl
      refine wpAny_ready (rs := [13]) (by kernel_rfl) (by simp) ?_
      refine AllReady.cons rfl (fun K hK => ?_) AllReady.nil
      go_simp
      go_wp2_with fail
      refine (HE2.out _).mono ?_
      rintro e w6 ⟨rfl, hbx⟩
      have HDw6 : Hid (Below w4.heap.size w4 w6) := hide (bel2 HDw5.out hbx)
      have cAw6 := cell_keep cA HDw6.out
      have cVw6 := cell_keep cV HDw6.out
      clear hbx
      go_wp2_with fail
      refine wpAny_to (i := 14) (v := .string (({ data := #[60] } : ByteArray) ++ name ++ { data := #[32] } ++ A ++ { data := #[61, 34] } ++ E1 ++ { data := #[34, 62] } ++ E2)) (a' := ?ax14q105) rfl (by kernel_rfl) (by kernel_rfl) (by kernel_rfl) (fun _ _ _ h => h) (Or.inl ⟨by rfl, ?yi⟩) ?ha ?_
      case yi => intro w; go_simp; try omega
      case ha => go_simp; exact rfl
      refine wpAny_to (i := 15) (v := .string (({ data := #[60] } : ByteArray) ++ name ++ { data := #[32] } ++ A ++ { data := #[61, 34] } ++ E1 ++ { data := #[34, 62] } ++ E2 ++ { data := #[60, 47] })) (a' := ?ax15q106) rfl (by kernel_rfl) (by kernel_rfl) (by kernel_rfl) (fun _ _ _ h => h) (Or.inl ⟨by rfl, ?yi⟩) ?ha ?_
      case yi => intro w; go_simp; try omega
      case ha => go_simp; exact rfl
      refine wpAny_to (i := 17) (v := .string (({ data := #[60] } : ByteArray) ++ name ++ { data := #[32] } ++ A ++ { data := #[61, 34] } ++ E1 ++ { data := #[34, 62] } ++ E2 ++ { data := #[60, 47] } ++ name)) (a' := ?ax17q107) rfl (by kernel_rfl) (by kernel_rfl) (by kernel_rfl) (fun _ _ _ h => h) (Or.inl ⟨by rfl, ?yi⟩) ?ha ?_
      case yi => intro w; go_simp; try omega
      case ha => go_simp; exact rfl
      refine wpAny_to (i := 18) (v := .string (({ data := #[60] } : ByteArray) ++ name ++ { data := #[32] } ++ A ++ { data := #[61, 34] } ++ E1 ++ { data := #[34, 62] } ++ E2 ++ { data := #[60, 47] } ++ name ++ { data := #[62] })) (a' := ?ax18q108) rfl (by kernel_rfl) (by kernel_rfl) (by kernel_rfl) (fun _ _ _ h => h) (Or.inl ⟨by rfl, ?yi⟩) ?ha ?_
      case yi => intro w; go_simp; try omega
      case ha => go_simp; exact rfl
      refine wpAny_ready (rs := [19]) (by kernel_rfl) (by simp) ?_
      refine AllReady.cons rfl (fun K hK => ?_) AllReady.nil
      go_simp
      go_wp2_with fail
      refine (HT.out _ (HGG.out.1.below HDw6.out) (HGG.out.2.below HDw6.out)).mono ?_
      rintro e w7 ⟨v, l, rfl, hl, htk, hb7⟩
      obtain ⟨vp, vm, vc, rfl⟩ := own_slice htk.1
      have HFIN := hide (And.intro hl (And.intro htk (bel2 HDw6.out hb7)))
      have HLE : Hid (w4.heap.size ≤ w6.heap.size) := hide HDw6.out.size
      clear hl htk hb7
      go_wp2_with fail
      refine wpAny_to (i := 20) (v := .slice vp vm vc) (a' := ?ax20q109) rfl (by kernel_rfl) (by kernel_rfl) (by kernel_rfl) (fun _ _ _ h => h) (Or.inl ⟨by rfl, ?yi⟩) ?ha ?_
      case yi => intro w; go_simp; try omega
      case ha => go_simp; exact rfl
      refine wpAny_done (by kernel_rfl) ?_ _
      go_wp2_with fail
      go_meet
      exact ⟨l, hide HFIN.out.1, hide (HFIN.out.2.1.base HLE.out), hide HFIN.out.2.2⟩
    · go_simp
      go_wp2_with fail
      refine wpAny_ready (rs := [4, 9]) (by kernel_rfl) (by simp) ?_
      refine AllReady.cons rfl (fun K hK => ?_) (AllReady.cons rfl (fun K hK => ?_) AllReady.nil)
      · go_simp
        go_wp2_with fail
        refine wpAny_to (i := 5) (v := .string (({ data := #[60] } : ByteArray) ++ name ++ { data := #[32] } ++ A)) (a' := ?ax5q110) rfl (by kernel_rfl) (by kernel_rfl) (by kernel_rfl) (fun _ _ _ h => h) (Or.inl ⟨by rfl, ?yi⟩) ?ha ?_
        case yi => intro w; go_simp; try omega
        case ha => go_simp; exact rfl
        refine wpAny_to (i := 6) (v := .string (({ data := #[60] } : ByteArray) ++ name ++ { data := #[32] } ++ A ++ { data := #[61, 34] })) (a' := ?ax6q111) rfl (by kernel_rfl) (by kernel_rfl) (by kernel_rfl) (fun _ _ _ h => h) (Or.inl ⟨by rfl, ?yi⟩) ?ha ?_
        case yi => intro w; go_simp; try omega
        case ha => go_simp; exact rfl
        refine wpAny_ready (rs := [9]) (by kernel_rfl) (by simp) ?_
        refine AllReady.cons rfl (fun K hK => ?_) AllReady.nil
        go_simp
        go_wp2_with fail
        refine (HE1.out _).mono ?_
        rintro e w5 ⟨rfl, hbx⟩
        have HDw5 : Hid (Below w4.heap.size w4 w5) := hide (bel_drw hbx)
        have cAw5 := cell_keep cA HDw5.out
        have cVw5 := cell_keep cV HDw5.out
        clear hbx
        go_wp2_with fail
        refine wpAny_to (i := 10) (v := .string (({ data := #[60] } : ByteArray) ++ name ++ { data := #[32] } ++ A ++ { data := #[61, 34] } ++ E1)) (a' := ?ax10q112) rfl (by kernel_rfl) (by kernel_rfl) (by kernel_rfl) (fun _ _ _ h => h) (Or.inl ⟨by rfl, ?yi⟩) ?ha ?_
        case yi => intro w; go_simp; try omega
        case ha => go_simp; exact rfl
        refine wpAny_to (i := 11) (v := .string (({ data := #[60] } : ByteArray) ++ name ++ { data := #[32] } ++ A ++ { data := #[61, 34] } ++ E1 ++ { data := #[34, 62] })) (a' := ?ax11q113) rfl (by kernel_rfl) (by kernel_rfl) (by kernel_rfl) (fun _ _ _ h => h) (Or.inl ⟨by rfl, ?yi⟩) ?ha ?_
        case yi => intro w; go_simp; try omega
        case ha => go_simp; exact rfl
        refine wpAny_ready (rs := [13]) (by kernel_rfl) (by simp) ?_
        refine AllReady.cons rfl (fun K hK => ?_) AllReady.nil
        go_simp
        go_wp2_with fail
        refine (HE2.out _).mono ?_
        rintro e w6 ⟨rfl, hbx⟩
        have HDw6 : Hid (Below w4.heap.size w4 w6) := hide (bel2 HDw5.out hbx)
        have cAw6 := cell_keep cA HDw6.out
        have cVw6 := cell_keep cV HDw6.out
        clear hbx
        go_wp2_with fail
        refine wpAny_to (i := 14) (v := .string (({ data := #[60] } : ByteArray) ++ name ++ { data := #[32] } ++ A ++ { data := #[61, 34] } ++ E1 ++ { data := #[34, 62] } ++ E2)) (a' := ?ax14q114) rfl (by kernel_rfl) (by kernel_rfl) (by kernel_rfl) (fun _ _ _ h => h) (Or.inl ⟨by rfl, ?yi⟩) ?ha ?_
        case yi => intro w; go_simp; try omega
        case ha => go_simp; exact rfl
        refine wpAny_to (i := 15) (v := .string (({ data := #[60] } : ByteArray) ++ name ++ { data := #[32] } ++ A ++ { data := #[61, 34] } ++ E1 ++ { data := #[34, 62] } ++ E2 ++ { data := #[60, 47] })) (a' := ?ax15q115) rfl (by kernel_rfl) (by kernel_rfl) (by kernel_rfl) (fun _ _ _ h => h) (Or.inl ⟨by rfl, ?yi⟩) ?ha ?_
        case yi => intro w; go_simp; try omega
        case ha => go_simp; exact rfl
        refine wpAny_to (i := 17) (v := .string (({ data := #[60] } : ByteArray) ++ name ++ { data := #[32] } ++ A ++ { data := #[61, 34] } ++ E1 ++ { data := #[34, 62] } ++ E2 ++ { data := #[60, 47] } ++ name)) (a' := ?ax17q116) rfl (by kernel_rfl) (by kernel_rfl) (by kernel_rfl) (fun _ _ _ h => h) (Or.inl ⟨by rfl, ?yi⟩) ?ha ?_
        case yi => intro w; go_simp; try omega
        case ha => go_simp; exact rfl
        refine wpAny_to (i := 18) (v := .string (({ data := #[60] } : ByteArray) ++ name ++ { data := #[32] } ++ A ++ { data := #[61, 34] } ++ E1 ++ { data := #[34, 62] } ++ E2 ++ { data := #[60, 47] } ++ name ++ { data := #[62] })) (a' := ?ax18q117) rfl (by kernel_rfl) (by kernel_rfl) (by kernel_rfl) (fun _ _ _ h => h) (Or.inl ⟨by rfl, ?yi⟩) ?ha ?_
        case yi => intro w; go_simp; try omega
        case ha => go_simp; exact rfl
        refine wpAny_ready (rs := [19]) (by kernel_rfl) (by simp) ?_
        refine AllReady.cons rfl (fun K hK => ?_) AllReady.nil
        go_simp
        go_wp2_with fail
        refine (HT.out _ (HGG.out.1.below HDw6.out) (HGG.out.2.below HDw6.out)).mono ?_
        rintro e w7 ⟨v, l, rfl, hl, htk, hb7⟩
        obtain ⟨vp, vm, vc, rfl⟩ := own_slice htk.1
        have HFIN := hide (And.intro hl (And.intro htk (bel2 HDw6.out hb7)))
        have HLE : Hid (w4.heap.size ≤ w6.heap.size) := hide HDw6.out.size
        clear hl htk hb7
        go_wp2_with fail
        refine wpAny_to (i := 20) (v := .slice vp vm vc) (a' := ?ax20q118) rfl (by kernel_rfl) (by kernel_rfl) (by kernel_rfl) (fun _ _ _ h => h) (Or.inl ⟨by rfl, ?yi⟩) ?ha ?_
        case yi => intro w; go_simp; try omega
        case ha => go_simp; exact rfl
        refine wpAny_done (by kernel_rfl) ?_ _
        go_wp2_with fail
        go_meet
        exact ⟨l, hide HFIN.out.1, hide (HFIN.out.2.1.base HLE.out), hide HFIN.out.2.2⟩
      · go_simp
        go_wp2_with fail
        refine (HE1.out _).mono ?_
        rintro e w5 ⟨rfl, hbx⟩
        have HDw5 : Hid (Below w4.heap.size w4 w5) := hide (bel_drw hbx)
        have cAw5 := cell_keep cA HDw5.out
        have cVw5 := cell_keep cV HDw5.out
        clear hbx
        go_wp2_with fail
        refine wpAny_ready (rs := [4, 13]) (by kernel_rfl) (by simp) ?_
        refine AllReady.cons rfl (fun K hK => ?_) (AllReady.cons rfl (fun K hK => ?_) AllReady.nil)
        · go_simp
          go_wp2_with fail
          refine wpAny_to (i := 5) (v := .string (({ data := #[60] } : ByteArray) ++ name ++ { data := #[32] } ++ A)) (a' := ?ax5q119) rfl (by kernel_rfl) (by kernel_rfl) (by kernel_rfl) (fun _ _ _ h => h) (Or.inl ⟨by rfl, ?yi⟩) ?ha ?_
          case yi => intro w; go_simp; try omega
          case ha => go_simp; exact rfl
          refine wpAny_to (i := 6) (v := .string (({ data := #[60] } : ByteArray) ++ name ++ { data := #[32] } ++ A ++ { data := #[61, 34] })) (a' := ?ax6q120) rfl (by kernel_rfl) (by kernel_rfl) (by kernel_rfl) (fun _ _ _ h => h) (Or.inl ⟨by rfl, ?yi⟩) ?ha ?_
          case yi => intro w; go_simp; try omega
          case ha => go_simp; exact rfl
          refine wpAny_to (i := 10) (v := .string (({ data := #[60] } : ByteArray) ++ name ++ { data := #[32] } ++ A ++ { data := #[61, 34] } ++ E1)) (a' := ?ax10q121) rfl (by kernel_rfl) (by kernel_rfl) (by kernel_rfl) (fun _ _ _ h => h) (Or.inl ⟨by rfl, ?yi⟩) ?ha ?_
          case yi => intro w; go_simp; try omega
          case ha => go_simp; exact rfl
          refine wpAny_to (i := 11) (v := .string (({ data := #[60] } : ByteArray) ++ name ++ { data := #[32] } ++ A ++ { data := #[61, 34] } ++ E1 ++ { data := #[34, 62] })) (a' := ?ax11q122) rfl (by kernel_rfl) (by kernel_rfl) (by kernel_rfl) (fun _ _ _ h => h) (Or.inl ⟨by rfl, ?yi⟩) ?ha ?_
          case yi => intro w; go_simp; try omega
          case ha => go_simp; exact rfl
          refine wpAny_ready (rs := [13]) (by kernel_rfl) (by simp) ?_
          refine AllReady.cons rfl (fun K hK => ?_) AllReady.nil
          go_simp
          go_wp2_with fail
          refine (HE2.out _).mono ?_
          rintro e w6 ⟨rfl, hbx⟩
          have HDw6 : Hid (Below w4.heap.size w4 w6) := hide (bel2 HDw5.out hbx)
          have cAw6 := cell_keep cA HDw6.out
          have cVw6 := cell_keep cV HDw6.out
          clear hbx
          go_wp2_with fail
          refine wpAny_to (i := 14) (v := .string (({ data := #[60] } : ByteArray) ++ name ++ { data := #[32] } ++ A ++ { data := #[61, 34] } ++ E1 ++ { data := #[34, 62] } ++ E2)) (a' := ?ax14q123) rfl (by kernel_rfl) (by kernel_rfl) (by kernel_rfl) (fun _ _ _ h => h) (Or.inl ⟨by rfl, ?yi⟩) ?ha ?_
          case yi => intro w; go_simp; try omega
          case ha => go_simp; exact rfl
          refine wpAny_to (i := 15) (v := .string (({ data := #[60] } : ByteArray) ++ name ++ { data := #[32] } ++ A ++ { data := #[61, 34] } ++ E1 ++ { data := #[34, 62] } ++ E2 ++ { data := #[60, 47] })) (a' := ?ax15q124) rfl (by kernel_rfl) (by kernel_rfl) (by kernel_rfl) (fun _ _ _ h => h) (Or.inl ⟨by rfl, ?yi⟩) ?ha ?_
          case yi => intro w; go_simp; try omega
          case ha => go_simp; exact rfl
          refine wpAny_to (i := 17) (v := .string (({ data := #[60] } : ByteArray) ++ name ++ { data := #[32] } ++ A ++ { data := #[61, 34] } ++ E1 ++ { data := #[34, 62] } ++ E2 ++ { data := #[60, 47] } ++ name)) (a' := ?ax17q125) rfl (by kernel_rfl) (by kernel_rfl) (by kernel_rfl) (fun _ _ _ h => h) (Or.inl ⟨by rfl, ?yi⟩) ?ha ?_
          case yi => intro w; go_simp; try omega
          case ha => go_simp; exact rfl
          refine wpAny_to (i := 18) (v := .string (({ data := #[60] } : ByteArray) ++ name ++ { data := #[32] } ++ A ++ { data := #[61, 34] } ++ E1 ++ { data := #[34, 62] } ++ E2 ++ { data := #[60, 47] } ++ name ++ { data := #[62] })) (a' := ?ax18q126) rfl (by kernel_rfl) (by kernel_rfl) (by kernel_rfl) (fun _ _ _ h => h) (Or.inl ⟨by rfl, ?yi⟩) ?ha ?_
          case yi => intro w; go_simp; try omega
          case ha => go_simp; exact rfl
          refine wpAny_ready (rs := [19]) (by kernel_rfl) (by simp) ?_
          refine AllReady.cons rfl (fun K hK => ?_) AllReady.nil
          go_simp
          go_wp2_with fail
          refine (HT.out _ (HGG.out.1.below HDw6.out) (HGG.out.2.below HDw6.out)).mono ?_
          rintro e w7 ⟨v, l, rfl, hl, htk, hb7⟩
          obtain ⟨vp, vm, vc, rfl⟩ := own_slice htk.1
          have HFIN := hide (And.intro hl (And.intro htk (bel2 HDw6.out hb7)))
          have HLE : Hid (w4.heap.size ≤ w6.heap.size) := hide HDw6.out.size
          clear hl htk hb7
          go_wp2_with fail
          refine wpAny_to (i := 20) (v := .slice vp vm vc) (a' := ?ax20q127) rfl (by kernel_rfl) (by kernel_rfl) (by kernel_rfl) (fun _ _ _ h => h) (Or.inl ⟨by rfl, ?yi⟩) ?ha ?_
          case yi => intro w; go_simp; try omega
          case ha => go_simp; exact rfl
          refine wpAny_done (by kernel_rfl) ?_ _
          go_wp2_with fail
          go_meet
          exact ⟨l, hide HFIN.out.1, hide (HFIN.out.2.1.base HLE.out), hide HFIN.out.2.2⟩
        · go_simp
          go_wp2_with fail
          refine (HE2.out _).mono ?_
          rintro e w6 ⟨rfl, hbx⟩
          have HDw6 : Hid (Below w4.heap.size w4 w6) := hide (bel2 HDw5.out hbx)
          have cAw6 := cell_keep cA HDw6.out
          have cVw6 := cell_keep cV HDw6.out
          clear hbx
          go_wp2_with fail
          refine wpAny_ready (rs := [4]) (by kernel_rfl) (by simp) ?_
          refine AllReady.cons rfl (fun K hK => ?_) AllReady.nil
          go_simp
          go_wp2_with fail
          refine wpAny_to (i := 5) (v := .string (({ data := #[60] } : ByteArray) ++ name ++ { data := #[32] } ++ A)) (a' := ?ax5q128) rfl (by kernel_rfl) (by kernel_rfl) (by kernel_rfl) (fun _ _ _ h => h) (Or.inl ⟨by rfl, ?yi⟩) ?ha ?_
          case yi => intro w; go_simp; try omega
          case ha => go_simp; exact rfl
          refine wpAny_to (i := 6) (v := .string (({ data := #[60] } : ByteArray) ++ name ++ { data := #[32] } ++ A ++ { data := #[61, 34] })) (a' := ?ax6q129) rfl (by kernel_rfl) (by kernel_rfl) (by kernel_rfl) (fun _ _ _ h => h) (Or.inl ⟨by rfl, ?yi⟩) ?ha ?_
          case yi => intro w; go_simp; try omega
          case ha => go_simp; exact rfl
          refine wpAny_to (i := 10) (v := .string (({ data := #[60] } : ByteArray) ++ name ++ { data := #[32] } ++ A ++ { data := #[61, 34] } ++ E1)) (a' := ?ax10q130) rfl (by kernel_rfl) (by kernel_rfl) (by kernel_rfl) (fun _ _ _ h => h) (Or.inl ⟨by rfl, ?yi⟩) ?ha ?_
          case yi => intro w; go_simp; try omega
          case ha => go_simp; exact rfl
          refine wpAny_to (i := 11) (v := .string (({ data := #[60] } : ByteArray) ++ name ++ { data := #[32] } ++ A ++ { data := #[61, 34] } ++ E1 ++ { data := #[34, 62] })) (a' := ?ax11q131) rfl (by kernel_rfl) (by kernel_rfl) (by kernel_rfl) (fun _ _ _ h => h) (Or.inl ⟨by rfl, ?yi⟩) ?ha ?_
          case yi => intro w; go_simp; try omega
          case ha => go_simp; exact rfl
          refine wpAny_to (i := 14) (v := .string (({ data := #[60] } : ByteArray) ++ name ++ { data := #[32] } ++ A ++ { data := #[61, 34] } ++ E1 ++ { data := #[34, 62] } ++ E2)) (a' := ?ax14q132) rfl (by kernel_rfl) (by kernel_rfl) (by kernel_rfl) (fun _ _ _ h => h) (Or.inl ⟨by rfl, ?yi⟩) ?ha ?_
          case yi => intro w; go_simp; try omega
          case ha => go_simp; exact rfl
          refine wpAny_to (i := 15) (v := .string (({ data := #[60] } : ByteArray) ++ name ++ { data := #[32] } ++ A ++ { data := #[61, 34] } ++ E1 ++ { data := #[34, 62] } ++ E2 ++ { data := #[60, 47] })) (a' := ?ax15q133) rfl (by kernel_rfl) (by kernel_rfl) (by kernel_rfl) (fun _ _ _ h => h) (Or.inl ⟨by rfl, ?yi⟩) ?ha ?_
          case yi => intro w; go_simp; try omega
          case ha => go_simp; exact rfl
          refine wpAny_to (i := 17) (v := .string (({ data := #[60] } : ByteArray) ++ name ++ { data := #[32] } ++ A ++ { data := #[61, 34] } ++ E1 ++ { data := #[34, 62] } ++ E2 ++ { data := #[60, 47] } ++ name)) (a' := ?ax17q134) rfl (by kernel_rfl) (by kernel_rfl) (by kernel_rfl) (fun _ _ _ h => h) (Or.inl ⟨by rfl, ?yi⟩) ?ha ?_
          case yi => intro w; go_simp; try omega
          case ha => go_simp; exact rfl
          refine wpAny_to (i := 18) (v := .string (({ data := #[60] } : ByteArray) ++ name ++ { data := #[32] } ++ A ++ { data := #[61, 34] } ++ E1 ++ { data := #[34, 62] } ++ E2 ++ { data := #[60, 47] } ++ name ++ { data := #[62] })) (a' := ?ax18q135) rfl (by kernel_rfl) (by kernel_rfl) (by kernel_rfl) (fun _ _ _ h => h) (Or.inl ⟨by rfl, ?yi⟩) ?ha ?_
          case yi => intro w; go_simp; try omega
          case ha => go_simp; exact rfl
          refine wpAny_ready (rs := [19]) (by kernel_rfl) (by simp) ?_
          refine AllReady.cons rfl (fun K hK => ?_) AllReady.nil
          go_simp
          go_wp2_with fail
          refine (HT.out _ (HGG.out.1.below HDw6.out) (HGG.out.2.below HDw6.out)).mono ?_
          rintro e w7 ⟨v, l, rfl, hl, htk, hb7⟩
          obtain ⟨vp, vm, vc, rfl⟩ := own_slice htk.1
          have HFIN := hide (And.intro hl (And.intro htk (bel2 HDw6.out hb7)))
          have HLE : Hid (w4.heap.size ≤ w6.heap.size) := hide HDw6.out.size
          clear hl htk hb7
          go_wp2_with fail
          refine wpAny_to (i := 20) (v := .slice vp vm vc) (a' := ?ax20q136) rfl (by kernel_rfl) (by kernel_rfl) (by kernel_rfl) (fun _ _ _ h => h) (Or.inl ⟨by rfl, ?yi⟩) ?ha ?_
          case yi => intro w; go_simp; try omega
          case ha => go_simp; exact rfl
          refine wpAny_done (by kernel_rfl) ?_ _
          go_wp2_with fail
          go_meet
          exact ⟨l, hide HFIN.out.1, hide (HFIN.out.2.1.base HLE.out), hide HFIN.out.2.2⟩
  case rest =>
    obtain ⟨l, HL, HTK, HBC⟩ := hcut
    have cA2 := cell_keep cA HBC.out
    have cV2 := cell_keep cV HBC.out
    have HBO := hide (bel2 HBW.out HBC.out)
    have q0 := eq_nil text
    clear cA cV HT HE1 HE2 HGG HB1
    by_cases hte : bl text = []
    · rw [decide_eq_true hte] at q0
      have q0 : (text.toList != []) = false := q0
      have q0b : text.toList.isEmpty = true := bne_empty q0
      have hl : l.map Prod.fst = _ := HL.out
      rw [if_pos hte] at hl
      obtain ⟨x, y, rfl⟩ := two_of hl
      obtain ⟨g, cap, rfl, -⟩ := toks_slice HTK.out (by simp)
      obtain ⟨ga, ca, e, hat⟩ := own_at (HTK.out.2 (_, x) (List.mem_cons_self ..)) (by simp)
      have e : x = .slice (some ⟨ga, 0, none⟩) 1 ca := e
      subst e
      have a0 : wc.cell? ⟨ga, 0, none⟩ = some (.string ⟨(bl A).toArray⟩) := hat 0 (by simp)
      have a1 : wc.cell? ⟨ga, 1, none⟩ = some (.string ⟨(bl V).toArray⟩) := hat 1 (by simp)
      have c0 : wc.cell? ⟨g, 0, none⟩ = some (.int .i64 2) := tok_at HTK.out 0 _ rfl 0 (by decide)
      have c1 : wc.cell? ⟨g, 1, none⟩ = some (.string ⟨(bl name).toArray⟩) := tok_at HTK.out 0 _ rfl 1 (by decide)
      have c2 : wc.cell? ⟨g, 2, none⟩ = some (.slice (some ⟨ga, 0, none⟩) 1 ca) := tok_at HTK.out 0 _ rfl 2 (by decide)
      have c3 : wc.cell? ⟨g, 3, none⟩ = some (.bool false) := tok_at HTK.out 0 _ rfl 3 (by decide)
      have d0 : wc.cell? ⟨g, 5, none⟩ = some (.int .i64 3) := tok_at HTK.out 1 _ rfl 0 (by decide)
      have d1 : wc.cell? ⟨g, 6, none⟩ = some (.string ⟨(bl name).toArray⟩) := tok_at HTK.out 1 _ rfl 1 (by decide)
      rw [bl_eta] at a0 a1 c1 d1
      clear hl HL HTK hat hte
      go_wp2_with fail
      go_quiet (fail)
      go_wp2_with fail
      go_ret
      exact ⟨rfl, bel2 HBO.out (bel_drewN wc nq)⟩
    · rw [decide_eq_false hte] at q0
      have q0 : (text.toList != []) = true := q0
      have q0b : text.toList.isEmpty = false := bne_empty q0
      have hl : l.map Prod.fst = _ := HL.out
      rw [if_neg hte] at hl
      obtain ⟨x, y, z, rfl⟩ := three_of hl
      obtain ⟨g, cap, rfl, -⟩ := toks_slice HTK.out (by simp)
      obtain ⟨ga, ca, e, hat⟩ := own_at (HTK.out.2 (_, x) (List.mem_cons_self ..)) (by simp)
      have e : x = .slice (some ⟨ga, 0, none⟩) 1 ca := e
      subst e
      have a0 : wc.cell? ⟨ga, 0, none⟩ = some (.string ⟨(bl A).toArray⟩) := hat 0 (by simp)
      have a1 : wc.cell? ⟨ga, 1, none⟩ = some (.string ⟨(bl V).toArray⟩) := hat 1 (by simp)
      have c0 : wc.cell? ⟨g, 0, none⟩ = some (.int .i64 2) := tok_at HTK.out 0 _ rfl 0 (by decide)
      have c1 : wc.cell? ⟨g, 1, none⟩ = some (.string ⟨(bl name).toArray⟩) := tok_at HTK.out 0 _ rfl 1 (by decide)
      have c2 : wc.cell? ⟨g, 2, none⟩ = some (.slice (some ⟨ga, 0, none⟩) 1 ca) := tok_at HTK.out 0 _ rfl 2 (by decide)
      have c3 : wc.cell? ⟨g, 3, none⟩ = some (.bool false) := tok_at HTK.out 0 _ rfl 3 (by decide)
      have c5 : wc.cell? ⟨g, 5, none⟩ = some (.int .i64 1) := tok_at HTK.out 1 _ rfl 0 (by decide)
      have c9 : wc.cell? ⟨g, 9, none⟩ = some (.string ⟨(bl text).toArray⟩) := tok_at HTK.out 1 _ rfl 4 (by decide)
      rw [bl_eta] at c9
      have d0 : wc.cell? ⟨g, 10, none⟩ = some (.int .i64 3) := tok_at HTK.out 2 _ rfl 0 (by decide)
      have d1 : wc.cell? ⟨g, 11, none⟩ = some (.string ⟨(bl name).toArray⟩) := tok_at HTK.out 2 _ rfl 1 (by decide)
      rw [bl_eta] at a0 a1 c1 d1
      clear hl HL HTK hat hte
      go_wp2_with fail
      go_quiet (fail)
      go_wp2_with fail
      go_ret
      exact ⟨rfl, bel2 HBO.out (bel_drewN wc nq)⟩
end Go.Proofs.YtjmgcdeinjamiaaDoor
