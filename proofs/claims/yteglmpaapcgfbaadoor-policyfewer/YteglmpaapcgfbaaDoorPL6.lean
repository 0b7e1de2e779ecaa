/-
  The law PolicyFewer.
-/
import Derived.Test.YteglmpaapcgfbaaDoorWO
import Derived.Test.YteglmpaapcgfbaaDoorLW2
import Derived.Laws.Rows
namespace Pol8
theorem sub_erase (l : List L) (k : Nat) : ∀ x ∈ l.eraseIdx k, x ∈ l := fun _ h => List.mem_of_mem_eraseIdx h
theorem erase_nil {l : List L} (h : l = []) (k : Nat) : l.eraseIdx k = l := by subst h; simp
theorem not_sub {l : List L} {k : Nat} (hc : chain l = true) (hk : k < l.length) : ¬ ∀ x ∈ l, x ∈ l.eraseIdx k := fun h =>
  chain_gone l k l[k] hc (List.getElem?_eq_getElem hk) (h _ (List.getElem_mem hk))
theorem strict_false {p q : Pol} (h : ¬ Str p q) : stricter p q = false := by
  cases hs : stricter p q
  · rfl
  · exact absurd ((str_iff p q).1 hs) h
theorem fewer_sc {p : Pol} (h : Right p) (k : Nat) : right ⟨p.ep, p.el, p.at_, p.sc.eraseIdx k, p.cl, p.pr, p.dp, p.nd, p.bt⟩ = true ∧ stricter ⟨p.ep, p.el, p.at_, p.sc.eraseIdx k, p.cl, p.pr, p.dp, p.nd, p.bt⟩ p = true ∧ (p.sc = [] → stricter p ⟨p.ep, p.el, p.at_, p.sc.eraseIdx k, p.cl, p.pr, p.dp, p.nd, p.bt⟩ = true) ∧ (k < p.sc.length → stricter p ⟨p.ep, p.el, p.at_, p.sc.eraseIdx k, p.cl, p.pr, p.dp, p.nd, p.bt⟩ = false) := by
  refine ⟨(right_iff _).2 ⟨h.c, h.el, h.at_, words_erase k h.sc, h.cl, h.pr, h.nv, h.ao, h.ll, fun hm => h.ss.1 (sub_erase _ _ _ hm), fun hm => h.ss.2.1 (sub_erase _ _ _ hm), fun hm => h.ss.2.2 (sub_erase _ _ _ hm)⟩, (str_iff _ _).2 ⟨fun a ha => .inl ha, fun _ hx => hx, fun x hx => sub_erase _ _ x hx, fun _ hx => hx, fun _ hx => hx, Int.le_refl _, Int.le_refl _, Int.le_refl _⟩, fun he => ?_, fun hk => strict_false (fun hs => not_sub (words_chain h.sc) hk hs.sc)⟩
  rw [erase_nil he]
  exact (str_iff p p).2 (str_refl p)
theorem fewer_cl {p : Pol} (h : Right p) (k : Nat) : right ⟨p.ep, p.el, p.at_, p.sc, p.cl.eraseIdx k, p.pr, p.dp, p.nd, p.bt⟩ = true ∧ stricter ⟨p.ep, p.el, p.at_, p.sc, p.cl.eraseIdx k, p.pr, p.dp, p.nd, p.bt⟩ p = true ∧ (p.cl = [] → stricter p ⟨p.ep, p.el, p.at_, p.sc, p.cl.eraseIdx k, p.pr, p.dp, p.nd, p.bt⟩ = true) ∧ (k < p.cl.length → stricter p ⟨p.ep, p.el, p.at_, p.sc, p.cl.eraseIdx k, p.pr, p.dp, p.nd, p.bt⟩ = false) := by
  refine ⟨(right_iff _).2 ⟨h.c, h.el, h.at_, h.sc, words_erase k h.cl, h.pr, h.nv, h.ao, h.ll, h.ss⟩, (str_iff _ _).2 ⟨fun a ha => .inl ha, fun _ hx => hx, fun _ hx => hx, fun x hx => sub_erase _ _ x hx, fun _ hx => hx, Int.le_refl _, Int.le_refl _, Int.le_refl _⟩, fun he => ?_, fun hk => strict_false (fun hs => not_sub (words_chain h.cl) hk hs.cl)⟩
  rw [erase_nil he]
  exact (str_iff p p).2 (str_refl p)
theorem fewer_pr {p : Pol} (h : Right p) (k : Nat) : right ⟨p.ep, p.el, p.at_, p.sc, p.cl, p.pr.eraseIdx k, p.dp, p.nd, p.bt⟩ = true ∧ stricter ⟨p.ep, p.el, p.at_, p.sc, p.cl, p.pr.eraseIdx k, p.dp, p.nd, p.bt⟩ p = true ∧ (p.pr = [] → stricter p ⟨p.ep, p.el, p.at_, p.sc, p.cl, p.pr.eraseIdx k, p.dp, p.nd, p.bt⟩ = true) ∧ (k < p.pr.length → stricter p ⟨p.ep, p.el, p.at_, p.sc, p.cl, p.pr.eraseIdx k, p.dp, p.nd, p.bt⟩ = false) := by
  refine ⟨(right_iff _).2 ⟨h.c, h.el, h.at_, h.sc, h.cl, words_erase k h.pr, h.nv, h.ao, h.ll, h.ss⟩, (str_iff _ _).2 ⟨fun a ha => .inl ha, fun _ hx => hx, fun _ hx => hx, fun _ hx => hx, fun x hx => sub_erase _ _ x hx, Int.le_refl _, Int.le_refl _, Int.le_refl _⟩, fun he => ?_, fun hk => strict_false (fun hs => not_sub (words_chain h.pr) hk hs.pr)⟩
  rw [erase_nil he]
  exact (str_iff p p).2 (str_refl p)
theorem fewer_bt {p : Pol} (h : Right p) : right ⟨p.ep, p.el, p.at_, p.sc, p.cl, p.pr, p.dp, p.nd, max (p.bt - 1) 1⟩ = true ∧ stricter ⟨p.ep, p.el, p.at_, p.sc, p.cl, p.pr, p.dp, p.nd, max (p.bt - 1) 1⟩ p = true ∧ (¬ 1 < p.bt → stricter p ⟨p.ep, p.el, p.at_, p.sc, p.cl, p.pr, p.dp, p.nd, max (p.bt - 1) 1⟩ = true) ∧ (1 < p.bt → stricter p ⟨p.ep, p.el, p.at_, p.sc, p.cl, p.pr, p.dp, p.nd, max (p.bt - 1) 1⟩ = false) := by
  have hc := h.c
  refine ⟨(right_iff _).2 ⟨⟨hc.1, hc.2.1, hc.2.2.1, by show 1 ≤ max (p.bt - 1) 1 ∧ max (p.bt - 1) 1 ≤ 16384; omega⟩, h.el, h.at_, h.sc, h.cl, h.pr, h.nv, h.ao, h.ll, h.ss⟩, (str_iff _ _).2 ⟨fun a ha => .inl ha, fun _ hx => hx, fun _ hx => hx, fun _ hx => hx, fun _ hx => hx, by show p.dp ≤ p.dp ∧ p.nd ≤ p.nd ∧ max (p.bt - 1) 1 ≤ p.bt; omega⟩, fun hb => (str_iff _ _).2 ⟨fun a ha => .inl ha, fun _ hx => hx, fun _ hx => hx, fun _ hx => hx, fun _ hx => hx, by show p.dp ≤ p.dp ∧ p.nd ≤ p.nd ∧ p.bt ≤ max (p.bt - 1) 1; omega⟩, fun hb => strict_false (fun hs => ?_)⟩
  have h3 : p.bt ≤ max (p.bt - 1) 1 := hs.c.2.2
  omega
end Pol8
namespace Go.Proofs.YteglmpaapcgfbaaDoor
open Go.RowKit
open Utf1 Pol8

theorem fits_er3 {p : Pol} (hf : fits p) (k : Nat) : fits ⟨p.ep, p.el, p.at_, p.sc.eraseIdx k, p.cl, p.pr, p.dp, p.nd, p.bt⟩ := by
  intro l hl
  simp only [List.mem_cons, List.not_mem_nil, or_false] at hl
  rcases hl with rfl | rfl | rfl | rfl | rfl
  · exact hf p.el (by simp)
  · exact hf p.at_ (by simp)
  · exact ⟨Nat.le_trans (List.length_eraseIdx_le _ _) (hf p.sc (by simp)).1, fun x hx => (hf p.sc (by simp)).2 x (sub_erase _ _ x hx)⟩
  · exact hf p.cl (by simp)
  · exact hf p.pr (by simp)
theorem fits_er4 {p : Pol} (hf : fits p) (k : Nat) : fits ⟨p.ep, p.el, p.at_, p.sc, p.cl.eraseIdx k, p.pr, p.dp, p.nd, p.bt⟩ := by
  intro l hl
  simp only [List.mem_cons, List.not_mem_nil, or_false] at hl
  rcases hl with rfl | rfl | rfl | rfl | rfl
  · exact hf p.el (by simp)
  · exact hf p.at_ (by simp)
  · exact hf p.sc (by simp)
  · exact ⟨Nat.le_trans (List.length_eraseIdx_le _ _) (hf p.cl (by simp)).1, fun x hx => (hf p.cl (by simp)).2 x (sub_erase _ _ x hx)⟩
  · exact hf p.pr (by simp)
theorem fits_er5 {p : Pol} (hf : fits p) (k : Nat) : fits ⟨p.ep, p.el, p.at_, p.sc, p.cl, p.pr.eraseIdx k, p.dp, p.nd, p.bt⟩ := by
  intro l hl
  simp only [List.mem_cons, List.not_mem_nil, or_false] at hl
  rcases hl with rfl | rfl | rfl | rfl | rfl
  · exact hf p.el (by simp)
  · exact hf p.at_ (by simp)
  · exact hf p.sc (by simp)
  · exact hf p.cl (by simp)
  · exact ⟨Nat.le_trans (List.length_eraseIdx_le _ _) (hf p.pr (by simp)).1, fun x hx => (hf p.pr (by simp)).2 x (sub_erase _ _ x hx)⟩

set_option maxRecDepth 100000 in
set_option maxHeartbeats 32000000 in
theorem lawFewer_walk (hT : TextC) (hR : RightC) (hA : AttrC) (v1 v2 v3 v4 v5 : Value) (p : Pol) (l1 l2 l3 l4 l5 : List ByteArray) (hS : StricterC) (wh at_ : Int) (w : World) (hv : PolV w v1 v2 v3 v4 v5 p l1 l2 l3 l4 l5) (k3 : CapOk v3) (k4 : CapOk v4) (k5 : CapOk v5) :
    Calls Tryd.prog 8 #[pval p v1 v2 v3 v4 v5, .int .i64 wh, .int .i64 at_] w fun e w' => e = .returned (.bool true) ∧ Below w.heap.size w w' := by
  obtain ⟨q1, d1, rfl, -, -⟩ := id hv.s1
  obtain ⟨q2, d2, rfl, -, -⟩ := id hv.s2
  obtain ⟨q3, d3, rfl, -, -⟩ := id hv.s3
  obtain ⟨q4, d4, rfl, -, -⟩ := id hv.s4
  obtain ⟨q5, d5, rfl, -, -⟩ := id hv.s5
  have HL3 : Hid ((l3.length = 0 ↔ p.sc = []) ∧ l3.length = p.sc.length) := hide (by rw [← hv.e3, List.length_map]; exact ⟨by rw [List.map_eq_nil_iff, List.length_eq_zero_iff], rfl⟩)
  have HL4 : Hid ((l4.length = 0 ↔ p.cl = []) ∧ l4.length = p.cl.length) := hide (by rw [← hv.e4, List.length_map]; exact ⟨by rw [List.map_eq_nil_iff, List.length_eq_zero_iff], rfl⟩)
  have HL5 : Hid ((l5.length = 0 ↔ p.pr = []) ∧ l5.length = p.pr.length) := hide (by rw [← hv.e5, List.length_map]; exact ⟨by rw [List.map_eq_nil_iff, List.length_eq_zero_iff], rfl⟩)
  generalize l1.length = n1 at hv ⊢
  generalize l2.length = n2 at hv ⊢
  generalize hn3 : l3.length = n3 at hv k3 HL3 ⊢
  have HN3 := hide hn3
  clear hn3
  have HK3 := hide k3
  clear k3
  generalize hn4 : l4.length = n4 at hv k4 HL4 ⊢
  have HN4 := hide hn4
  clear hn4
  have HK4 := hide k4
  clear k4
  generalize hn5 : l5.length = n5 at hv k5 HL5 ⊢
  have HN5 := hide hn5
  clear hn5
  have HK5 := hide k5
  clear k5
  obtain ⟨A, hAA⟩ : ∃ A : Array Value, A = #[.int .i64 p.ep, .slice q1 n1 d1, .slice q2 n2 d2, .slice q3 n3 d3, .slice q4 n4 d4, .slice q5 n5 d5, .int .i64 p.dp, .int .i64 p.nd, .int .i64 p.bt] := ⟨_, rfl⟩
  obtain ⟨w1, hw1⟩ : ∃ w1, w1 = w.alloc (.cells A 24) := ⟨_, rfl⟩
  have HN : Hid (BoxP w A w1) := hide (by rw [hw1]; exact ⟨new_block _ _ _, bel_alloc (Below.refl _ _) _⟩)
  have HV := hide hv
  have CW : Hid (∀ wx, BoxP w A wx → Calls Tryd.prog 9 #[] wx fun e w' => e = .returned (.bool true) ∧ BoxP w A w') := hide (fun wx h => (awake_any hT hR hA wx (hv.below h.2).g).mono fun e w' ⟨h1, h2⟩ => ⟨h1, h.keep h2⟩)
  have CL : Hid (∀ wx, BoxP w A wx → Calls Tryd.prog 10 #[pval p (.slice q1 n1 d1) (.slice q2 n2 d2) (.slice q3 n3 d3) (.slice q4 n4 d4) (.slice q5 n5 d5)] wx fun e w' => (∃ b : Bool, e = .returned (.bool b) ∧ (b = true → light p)) ∧ BoxP w A w') := hide (fun wx h => (rlight_any (.slice q1 n1 d1) (.slice q2 n2 d2) (.slice q3 n3 d3) (.slice q4 n4 d4) (.slice q5 n5 d5) p l1 l2 l3 l4 l5 wx (hv.below h.2)).mono fun e w' ⟨h1, h2⟩ => ⟨h1, h.keep h2⟩)
  have CR : Hid (fits p → ∀ wx, BoxP w A wx → Calls Tryd.prog 13 #[pval p (.slice q1 n1 d1) (.slice q2 n2 d2) (.slice q3 n3 d3) (.slice q4 n4 d4) (.slice q5 n5 d5)] wx fun e w' => e = .returned (.bool (right p)) ∧ BoxP w A w') := hide (fun hf wx h => (hR (.slice q1 n1 d1) (.slice q2 n2 d2) (.slice q3 n3 d3) (.slice q4 n4 d4) (.slice q5 n5 d5) p l1 l2 l3 l4 l5 wx (hv.below h.2) hf).mono fun e w' ⟨h1, h2⟩ => ⟨h1, h.keep h2⟩)
  have SK : Hid (∀ wx, BoxP w A wx → wx.cell? ⟨w.heap.size, 0, none⟩ = some (.int .i64 p.ep) ∧ wx.cell? ⟨w.heap.size, 1, none⟩ = some (.slice q1 n1 d1) ∧ wx.cell? ⟨w.heap.size, 2, none⟩ = some (.slice q2 n2 d2) ∧ wx.cell? ⟨w.heap.size, 3, none⟩ = some (.slice q3 n3 d3) ∧ wx.cell? ⟨w.heap.size, 4, none⟩ = some (.slice q4 n4 d4) ∧ wx.cell? ⟨w.heap.size, 5, none⟩ = some (.slice q5 n5 d5) ∧ wx.cell? ⟨w.heap.size, 6, none⟩ = some (.int .i64 p.dp) ∧ wx.cell? ⟨w.heap.size, 7, none⟩ = some (.int .i64 p.nd) ∧ wx.cell? ⟨w.heap.size, 8, none⟩ = some (.int .i64 p.bt)) := hide (fun wx h => ⟨h.cell 0 _ (by rw [hAA]; rfl), h.cell 1 _ (by rw [hAA]; rfl), h.cell 2 _ (by rw [hAA]; rfl), h.cell 3 _ (by rw [hAA]; rfl), h.cell 4 _ (by rw [hAA]; rfl), h.cell 5 _ (by rw [hAA]; rfl), h.cell 6 _ (by rw [hAA]; rfl), h.cell 7 _ (by rw [hAA]; rfl), h.cell 8 _ (by rw [hAA]; rfl)⟩)
  have HT := hide hT
  have HR := hide hR
  have HA := hide hAA
  rw [hAA] at hw1
  have HST := hide hS
  clear hT hR hA hv hAA hS
  go_enter Tryd.func8, Tryd.ntmps8
  go_upto_region 1 with fail
  rw [← hw1]
  clear hw1
  go_wp2_with fail
  refine (CW.out _ HN.out).mono ?_
  rintro e w2 ⟨rfl, h2⟩
  have H2 := hide h2
  clear h2 CW HN
  obtain ⟨y0, y1, y2, y3, y4, y5, y6, y7, y8⟩ := SK.out w2 H2.out
  go_wp2_with fail
  refine (CL.out _ H2.out).mono ?_
  rintro e w3 ⟨⟨b, rfl, hlight⟩, h3⟩
  have H3 := hide h3
  have HLI := hide hlight
  clear h3 hlight CL H2 y0 y1 y2 y3 y4 y5 y6 y7 y8
  cases b with
  | false =>
    clear CR HR HT SK
    go_wp2_with fail
    go_ret
    exact ⟨rfl, H3.out.2⟩
  | true =>
    have HF := hide (light_fits (HLI.out rfl))
    obtain ⟨y0, y1, y2, y3, y4, y5, y6, y7, y8⟩ := SK.out w3 H3.out
    cases hr : right p with
    | false =>
      rw [hr] at CR
      go_wp2_with fail
      refine (CR.out HF.out _ H3.out).mono ?_
      rintro e w4 ⟨rfl, h4⟩
      have H4 := hide h4
      clear h4 CR H3 y0 y1 y2 y3 y4 y5 y6 y7 y8 HR HT SK hr
      go_wp2_with fail
      go_ret
      exact ⟨rfl, H4.out.2⟩
    | true =>
      rw [hr] at CR
      have HRT := hide hr
      clear hr
      by_cases hneg : at_ < 0
      · go_wp2_with fail
        refine (CR.out HF.out _ H3.out).mono ?_
        rintro e w4 ⟨rfl, h4⟩
        have H4 := hide h4
        clear h4 CR H3 y0 y1 y2 y3 y4 y5 y6 y7 y8 HR HT SK HST
        go_wp2_with fail
        go_ret
        exact ⟨rfl, H4.out.2⟩
      go_wp2_with fail
      refine (CR.out HF.out _ H3.out).mono ?_
      rintro e w4 ⟨rfl, h4⟩
      have H4 := hide h4
      clear h4 CR H3 y0 y1 y2 y3 y4 y5 y6 y7 y8
      obtain ⟨y0, y1, y2, y3, y4, y5, y6, y7, y8⟩ := SK.out w4 H4.out
      obtain ⟨N, hN⟩ : ∃ N, N = w4.heap.size := ⟨_, rfl⟩
      obtain ⟨w5, hw5⟩ : ∃ w5, w5 = w4.alloc (.cells #[.int .i64 p.ep, .slice q1 n1 d1, .slice q2 n2 d2, .slice q3 n3 d3, .slice q4 n4 d4, .slice q5 n5 d5, .int .i64 p.dp, .int .i64 p.nd, .int .i64 p.bt] 24) := ⟨_, rfl⟩
      have HB5 : Hid (Below w4.heap.size w4 w5) := hide (by rw [hw5]; exact bel_alloc (Below.refl _ _) _)
      have HQ5 : Hid (w5.heap[N]? = some (.cells #[.int .i64 p.ep, .slice q1 n1 d1, .slice q2 n2 d2, .slice q3 n3 d3, .slice q4 n4 d4, .slice q5 n5 d5, .int .i64 p.dp, .int .i64 p.nd, .int .i64 p.bt] 24 (0, 0))) := hide (by rw [hN, hw5]; exact new_block _ _ _)
      have H5 := hide (H4.out.keep HB5.out)
      have HNW : Hid (w.heap.size < N) := hide (by rw [hN]; exact (Array.getElem?_eq_some_iff.1 H4.out.1).1)
      have HPV : Hid (∀ wx, Below w.heap.size w wx → PolV wx (.slice q1 n1 d1) (.slice q2 n2 d2) (.slice q3 n3 d3) (.slice q4 n4 d4) (.slice q5 n5 d5) p l1 l2 l3 l4 l5) := hide (fun wx h => HV.out.below h)
      have HRP := hide ((Pol8.right_iff p).1 HRT.out)
      go_upto_region 7 with fail
      rw [← hw5, ← hN]
      clear hw5 hN y0 y1 y2 y3 y4 y5 y6 y7 y8 H4 HB5 HT HLI HV HRT
      obtain ⟨y0, y1, y2, y3, y4, y5, y6, y7, y8⟩ := SK.out w5 H5.out
      by_cases w0 : wh = 0
      · subst w0
        have CWO : Hid (Calls Tryd.prog 24 #[.slice q3 n3 d3, .int .i64 at_] w5 fun e w' => (∃ pq c ls, e = .returned (.slice pq (List.length ls) c) ∧ StrArg w' (.slice pq ls.length c) ls ∧ ls.map bl = p.sc.eraseIdx (at_.toNat % n3) ∧ ∀ b off, pq = some ⟨b, off, none⟩ → w5.heap.size ≤ b) ∧ Below w5.heap.size w5 w') := hide (by
          have hpv := HPV.out w5 H5.out.2
          have := without_st (.slice q3 n3 d3) l3 at_ (by omega) (fits_of HF.out (by simp) hpv.e3).1 w5 hpv.s3 HK3.out
          rw [hpv.e3, HN3.out] at this
          exact this)
        by_cases hn : n3 = 0
        · have g0 : decide (0 < n3) = false := decide_eq_false (by omega)
          have HMQ : Hid (right ⟨p.ep, p.el, p.at_, p.sc.eraseIdx (at_.toNat % n3), p.cl, p.pr, p.dp, p.nd, p.bt⟩ = true ∧ stricter ⟨p.ep, p.el, p.at_, p.sc.eraseIdx (at_.toNat % n3), p.cl, p.pr, p.dp, p.nd, p.bt⟩ p = true ∧ stricter p ⟨p.ep, p.el, p.at_, p.sc.eraseIdx (at_.toNat % n3), p.cl, p.pr, p.dp, p.nd, p.bt⟩ = true) := hide ⟨(fewer_sc HRP.out _).1, (fewer_sc HRP.out _).2.1, (fewer_sc HRP.out _).2.2.1 (HL3.out.1.1 hn)⟩
          clear hn
          go_wp2_with fail
          refine CWO.out.mono ?_
          rintro e w6 ⟨⟨pp, cc, ls, rfl, hsa, hls, hoff⟩, hb6⟩
          have HLS := hide hls
          have HQ6 := hide ((hb6.block N (Array.getElem?_eq_some_iff.1 HQ5.out).1).trans HQ5.out)
          have H6 := hide (H5.out.keep hb6)
          have ZN := hide (Array.getElem?_eq_some_iff.1 HQ5.out).1
          have cF := tag_cell HQ6.out 3 _ rfl
          have zF := Go.Joins.unfrozen_of_block HQ6.out 3
          obtain ⟨w7, hw7⟩ : ∃ w7, w7 = w6.setCell ⟨N, 3, none⟩ (.slice pp (List.length ls) cc) := ⟨_, rfl⟩
          have HQ7 : Hid (w7.heap[N]? = some (.cells #[.int .i64 p.ep, .slice q1 n1 d1, .slice q2 n2 d2, .slice pp (List.length ls) cc, .slice q4 n4 d4, .slice q5 n5 d5, .int .i64 p.dp, .int .i64 p.nd, .int .i64 p.bt] 24 (0, 0))) := hide (by rw [hw7]; exact heap_setCell_same _ N 3 _ _ _ HQ6.out)
          have H7 : Hid (BoxP w A w7) := hide (by
            rw [hw7]
            exact ⟨(Below.heap_setCell _ _ _ _ (by show w.heap.size ≠ N; have := HNW.out; omega)).trans H6.out.1, H6.out.2.setCell (by show w.heap.size ≤ N; have := HNW.out; omega) _⟩)
          have HSA : Hid (StrArg w7 (.slice pp ls.length cc) ls) := hide (by
            rw [hw7]
            exact strArg_setCell hsa (fun b off e => by have h1 := hoff b off e; have h2 := ZN.out; show b ≠ N; omega) _)
          clear hsa hls hoff hb6 CWO HQ5 H5 y0 y1 y2 y3 y4 y5 y6 y7 y8
          go_upto_region 21 with fail
          rw [← hw7]
          clear hw7 cF zF HQ6 H6
          obtain ⟨qp, hqp⟩ : ∃ qp : Pol, qp = ⟨p.ep, p.el, p.at_, p.sc.eraseIdx (at_.toNat % n3), p.cl, p.pr, p.dp, p.nd, p.bt⟩ := ⟨_, rfl⟩
          have FQ : Hid (fits qp) := hide (by rw [hqp]; exact fits_er3 HF.out _)
          have MR : Hid (right qp = true ∧ stricter qp p = true ∧ stricter p qp = true) := hide (by rw [hqp]; exact ⟨HMQ.out.1, HMQ.out.2.1, HMQ.out.2.2⟩)
          have PQ : Hid (∀ wx, Below w7.heap.size w7 wx → PolV wx (.slice q1 n1 d1) (.slice q2 n2 d2) (.slice pp ls.length cc) (.slice q4 n4 d4) (.slice q5 n5 d5) qp l1 l2 ls l4 l5) := hide (fun wx hx => by
            have hpv := HPV.out w7 H7.out.2
            have h0 : PolV w7 (.slice q1 n1 d1) (.slice q2 n2 d2) (.slice pp ls.length cc) (.slice q4 n4 d4) (.slice q5 n5 d5) qp l1 l2 ls l4 l5 := by rw [hqp]; exact ⟨hpv.s1, hpv.s2, HSA.out, hpv.s4, hpv.s5, hpv.e1, hpv.e2, HLS.out, hpv.e4, hpv.e5, hpv.g⟩
            exact h0.below hx)
          have SP : Hid (∀ wx, Below w7.heap.size w7 wx → wx.cell? ⟨w.heap.size, 0, none⟩ = some (.int .i64 p.ep) ∧ wx.cell? ⟨w.heap.size, 1, none⟩ = some (.slice q1 n1 d1) ∧ wx.cell? ⟨w.heap.size, 2, none⟩ = some (.slice q2 n2 d2) ∧ wx.cell? ⟨w.heap.size, 3, none⟩ = some (.slice q3 n3 d3) ∧ wx.cell? ⟨w.heap.size, 4, none⟩ = some (.slice q4 n4 d4) ∧ wx.cell? ⟨w.heap.size, 5, none⟩ = some (.slice q5 n5 d5) ∧ wx.cell? ⟨w.heap.size, 6, none⟩ = some (.int .i64 p.dp) ∧ wx.cell? ⟨w.heap.size, 7, none⟩ = some (.int .i64 p.nd) ∧ wx.cell? ⟨w.heap.size, 8, none⟩ = some (.int .i64 p.bt)) := hide (fun wx hx => SK.out wx (H7.out.keep hx))
          have SQ : Hid (∀ wx, Below w7.heap.size w7 wx → wx.heap[N]? = some (.cells #[.int .i64 p.ep, .slice q1 n1 d1, .slice q2 n2 d2, .slice pp (List.length ls) cc, .slice q4 n4 d4, .slice q5 n5 d5, .int .i64 p.dp, .int .i64 p.nd, .int .i64 p.bt] 24 (0, 0))) := hide (fun wx hx => (hx.block N (Array.getElem?_eq_some_iff.1 HQ7.out).1).trans HQ7.out)
          have D1 : Hid (∀ wx, Below w7.heap.size w7 wx → Calls Tryd.prog 13 #[.agg #[.int .i64 p.ep, .slice q1 n1 d1, .slice q2 n2 d2, .slice pp (List.length ls) cc, .slice q4 n4 d4, .slice q5 n5 d5, .int .i64 p.dp, .int .i64 p.nd, .int .i64 p.bt]] wx fun e w' => e = .returned (.bool true) ∧ Below w7.heap.size w7 w') := hide (fun wx hx => by
            have := HR.out _ _ _ _ _ qp _ _ _ _ _ wx (PQ.out wx hx) FQ.out
            rw [MR.out.1] at this
            rw [hqp] at this
            exact this.mono fun _ _ ⟨h1, h2⟩ => ⟨h1, bel2 hx h2⟩)
          have D2 : Hid (∀ wx, Below w7.heap.size w7 wx → Calls Tryd.prog 22 #[.agg #[.int .i64 p.ep, .slice q1 n1 d1, .slice q2 n2 d2, .slice pp (List.length ls) cc, .slice q4 n4 d4, .slice q5 n5 d5, .int .i64 p.dp, .int .i64 p.nd, .int .i64 p.bt], .agg #[.int .i64 p.ep, .slice q1 n1 d1, .slice q2 n2 d2, .slice q3 n3 d3, .slice q4 n4 d4, .slice q5 n5 d5, .int .i64 p.dp, .int .i64 p.nd, .int .i64 p.bt]] wx fun e w' => e = .returned (.bool true) ∧ Below w7.heap.size w7 w') := hide (fun wx hx => by
            have := HST.out _ _ _ _ _ _ _ _ _ _ qp p _ _ _ _ _ _ _ _ _ _ wx (PQ.out wx hx) (HPV.out wx (H7.out.keep hx).2) FQ.out HF.out
            rw [MR.out.2.1] at this
            rw [hqp] at this
            exact this.mono fun _ _ ⟨h1, h2⟩ => ⟨h1, bel2 hx h2⟩)
          have D3 : Hid (∀ wx, Below w7.heap.size w7 wx → Calls Tryd.prog 22 #[.agg #[.int .i64 p.ep, .slice q1 n1 d1, .slice q2 n2 d2, .slice q3 n3 d3, .slice q4 n4 d4, .slice q5 n5 d5, .int .i64 p.dp, .int .i64 p.nd, .int .i64 p.bt], .agg #[.int .i64 p.ep, .slice q1 n1 d1, .slice q2 n2 d2, .slice pp (List.length ls) cc, .slice q4 n4 d4, .slice q5 n5 d5, .int .i64 p.dp, .int .i64 p.nd, .int .i64 p.bt]] wx fun e w' => e = .returned (.bool true) ∧ Below w7.heap.size w7 w') := hide (fun wx hx => by
            have := HST.out _ _ _ _ _ _ _ _ _ _ p qp _ _ _ _ _ _ _ _ _ _ wx (HPV.out wx (H7.out.keep hx).2) (PQ.out wx hx) HF.out FQ.out
            rw [MR.out.2.2] at this
            rw [hqp] at this
            exact this.mono fun _ _ ⟨h1, h2⟩ => ⟨h1, bel2 hx h2⟩)
          clear MR PQ FQ hqp HR HST HPV SK
          have hq0 := SQ.out _ (Below.refl w7.heap.size w7)
          have c0 := tag_cell hq0 0 _ rfl
          have c1 := tag_cell hq0 1 _ rfl
          have c2 := tag_cell hq0 2 _ rfl
          have c3 := tag_cell hq0 3 _ rfl
          have c4 := tag_cell hq0 4 _ rfl
          have c5 := tag_cell hq0 5 _ rfl
          have c6 := tag_cell hq0 6 _ rfl
          have c7 := tag_cell hq0 7 _ rfl
          have c8 := tag_cell hq0 8 _ rfl
          clear hq0
          go_wp2_with fail
          refine (D1.out _ (Below.refl w7.heap.size w7)).mono ?_
          rintro e x1 ⟨rfl, j1⟩
          have J1 := hide j1
          clear j1 D1 c0 c1 c2 c3 c4 c5 c6 c7 c8
          have hq0 := SQ.out _ J1.out
          have c0 := tag_cell hq0 0 _ rfl
          have c1 := tag_cell hq0 1 _ rfl
          have c2 := tag_cell hq0 2 _ rfl
          have c3 := tag_cell hq0 3 _ rfl
          have c4 := tag_cell hq0 4 _ rfl
          have c5 := tag_cell hq0 5 _ rfl
          have c6 := tag_cell hq0 6 _ rfl
          have c7 := tag_cell hq0 7 _ rfl
          have c8 := tag_cell hq0 8 _ rfl
          clear hq0
          obtain ⟨y0, y1, y2, y3, y4, y5, y6, y7, y8⟩ := SP.out _ J1.out
          go_wp2_with fail
          refine (D2.out _ J1.out).mono ?_
          rintro e x2 ⟨rfl, j2⟩
          have J2 := hide j2
          clear j2 D2 J1 c0 c1 c2 c3 c4 c5 c6 c7 c8 y0 y1 y2 y3 y4 y5 y6 y7 y8
          have hq0 := SQ.out _ J2.out
          have c0 := tag_cell hq0 0 _ rfl
          have c1 := tag_cell hq0 1 _ rfl
          have c2 := tag_cell hq0 2 _ rfl
          have c3 := tag_cell hq0 3 _ rfl
          have c4 := tag_cell hq0 4 _ rfl
          have c5 := tag_cell hq0 5 _ rfl
          have c6 := tag_cell hq0 6 _ rfl
          have c7 := tag_cell hq0 7 _ rfl
          have c8 := tag_cell hq0 8 _ rfl
          clear hq0
          obtain ⟨y0, y1, y2, y3, y4, y5, y6, y7, y8⟩ := SP.out _ J2.out
          go_wp2_with fail
          refine (D3.out _ J2.out).mono ?_
          rintro e x3 ⟨rfl, j3⟩
          have J3 := hide j3
          clear j3 D3 J2 c0 c1 c2 c3 c4 c5 c6 c7 c8 y0 y1 y2 y3 y4 y5 y6 y7 y8 SP SQ
          go_wp2_with fail
          go_ret
          exact ⟨rfl, bel2 H7.out.2 J3.out⟩
        · have g0 : decide (0 < n3) = true := decide_eq_true (by omega)
          have HMQ : Hid (right ⟨p.ep, p.el, p.at_, p.sc.eraseIdx (at_.toNat % n3), p.cl, p.pr, p.dp, p.nd, p.bt⟩ = true ∧ stricter ⟨p.ep, p.el, p.at_, p.sc.eraseIdx (at_.toNat % n3), p.cl, p.pr, p.dp, p.nd, p.bt⟩ p = true ∧ stricter p ⟨p.ep, p.el, p.at_, p.sc.eraseIdx (at_.toNat % n3), p.cl, p.pr, p.dp, p.nd, p.bt⟩ = false) := hide ⟨(fewer_sc HRP.out _).1, (fewer_sc HRP.out _).2.1, (fewer_sc HRP.out _).2.2.2 (by rw [← HL3.out.2]; exact Nat.mod_lt _ (by omega))⟩
          clear hn
          go_wp2_with fail
          refine CWO.out.mono ?_
          rintro e w6 ⟨⟨pp, cc, ls, rfl, hsa, hls, hoff⟩, hb6⟩
          have HLS := hide hls
          have HQ6 := hide ((hb6.block N (Array.getElem?_eq_some_iff.1 HQ5.out).1).trans HQ5.out)
          have H6 := hide (H5.out.keep hb6)
          have ZN := hide (Array.getElem?_eq_some_iff.1 HQ5.out).1
          have cF := tag_cell HQ6.out 3 _ rfl
          have zF := Go.Joins.unfrozen_of_block HQ6.out 3
          obtain ⟨w7, hw7⟩ : ∃ w7, w7 = w6.setCell ⟨N, 3, none⟩ (.slice pp (List.length ls) cc) := ⟨_, rfl⟩
          have HQ7 : Hid (w7.heap[N]? = some (.cells #[.int .i64 p.ep, .slice q1 n1 d1, .slice q2 n2 d2, .slice pp (List.length ls) cc, .slice q4 n4 d4, .slice q5 n5 d5, .int .i64 p.dp, .int .i64 p.nd, .int .i64 p.bt] 24 (0, 0))) := hide (by rw [hw7]; exact heap_setCell_same _ N 3 _ _ _ HQ6.out)
          have H7 : Hid (BoxP w A w7) := hide (by
            rw [hw7]
            exact ⟨(Below.heap_setCell _ _ _ _ (by show w.heap.size ≠ N; have := HNW.out; omega)).trans H6.out.1, H6.out.2.setCell (by show w.heap.size ≤ N; have := HNW.out; omega) _⟩)
          have HSA : Hid (StrArg w7 (.slice pp ls.length cc) ls) := hide (by
            rw [hw7]
            exact strArg_setCell hsa (fun b off e => by have h1 := hoff b off e; have h2 := ZN.out; show b ≠ N; omega) _)
          clear hsa hls hoff hb6 CWO HQ5 H5 y0 y1 y2 y3 y4 y5 y6 y7 y8
          go_upto_region 21 with fail
          rw [← hw7]
          clear hw7 cF zF HQ6 H6
          obtain ⟨qp, hqp⟩ : ∃ qp : Pol, qp = ⟨p.ep, p.el, p.at_, p.sc.eraseIdx (at_.toNat % n3), p.cl, p.pr, p.dp, p.nd, p.bt⟩ := ⟨_, rfl⟩
          have FQ : Hid (fits qp) := hide (by rw [hqp]; exact fits_er3 HF.out _)
          have MR : Hid (right qp = true ∧ stricter qp p = true ∧ stricter p qp = false) := hide (by rw [hqp]; exact ⟨HMQ.out.1, HMQ.out.2.1, HMQ.out.2.2⟩)
          have PQ : Hid (∀ wx, Below w7.heap.size w7 wx → PolV wx (.slice q1 n1 d1) (.slice q2 n2 d2) (.slice pp ls.length cc) (.slice q4 n4 d4) (.slice q5 n5 d5) qp l1 l2 ls l4 l5) := hide (fun wx hx => by
            have hpv := HPV.out w7 H7.out.2
            have h0 : PolV w7 (.slice q1 n1 d1) (.slice q2 n2 d2) (.slice pp ls.length cc) (.slice q4 n4 d4) (.slice q5 n5 d5) qp l1 l2 ls l4 l5 := by rw [hqp]; exact ⟨hpv.s1, hpv.s2, HSA.out, hpv.s4, hpv.s5, hpv.e1, hpv.e2, HLS.out, hpv.e4, hpv.e5, hpv.g⟩
            exact h0.below hx)
          have SP : Hid (∀ wx, Below w7.heap.size w7 wx → wx.cell? ⟨w.heap.size, 0, none⟩ = some (.int .i64 p.ep) ∧ wx.cell? ⟨w.heap.size, 1, none⟩ = some (.slice q1 n1 d1) ∧ wx.cell? ⟨w.heap.size, 2, none⟩ = some (.slice q2 n2 d2) ∧ wx.cell? ⟨w.heap.size, 3, none⟩ = some (.slice q3 n3 d3) ∧ wx.cell? ⟨w.heap.size, 4, none⟩ = some (.slice q4 n4 d4) ∧ wx.cell? ⟨w.heap.size, 5, none⟩ = some (.slice q5 n5 d5) ∧ wx.cell? ⟨w.heap.size, 6, none⟩ = some (.int .i64 p.dp) ∧ wx.cell? ⟨w.heap.size, 7, none⟩ = some (.int .i64 p.nd) ∧ wx.cell? ⟨w.heap.size, 8, none⟩ = some (.int .i64 p.bt)) := hide (fun wx hx => SK.out wx (H7.out.keep hx))
          have SQ : Hid (∀ wx, Below w7.heap.size w7 wx → wx.heap[N]? = some (.cells #[.int .i64 p.ep, .slice q1 n1 d1, .slice q2 n2 d2, .slice pp (List.length ls) cc, .slice q4 n4 d4, .slice q5 n5 d5, .int .i64 p.dp, .int .i64 p.nd, .int .i64 p.bt] 24 (0, 0))) := hide (fun wx hx => (hx.block N (Array.getElem?_eq_some_iff.1 HQ7.out).1).trans HQ7.out)
          have D1 : Hid (∀ wx, Below w7.heap.size w7 wx → Calls Tryd.prog 13 #[.agg #[.int .i64 p.ep, .slice q1 n1 d1, .slice q2 n2 d2, .slice pp (List.length ls) cc, .slice q4 n4 d4, .slice q5 n5 d5, .int .i64 p.dp, .int .i64 p.nd, .int .i64 p.bt]] wx fun e w' => e = .returned (.bool true) ∧ Below w7.heap.size w7 w') := hide (fun wx hx => by
            have := HR.out _ _ _ _ _ qp _ _ _ _ _ wx (PQ.out wx hx) FQ.out
            rw [MR.out.1] at this
            rw [hqp] at this
            exact this.mono fun _ _ ⟨h1, h2⟩ => ⟨h1, bel2 hx h2⟩)
          have D2 : Hid (∀ wx, Below w7.heap.size w7 wx → Calls Tryd.prog 22 #[.agg #[.int .i64 p.ep, .slice q1 n1 d1, .slice q2 n2 d2, .slice pp (List.length ls) cc, .slice q4 n4 d4, .slice q5 n5 d5, .int .i64 p.dp, .int .i64 p.nd, .int .i64 p.bt], .agg #[.int .i64 p.ep, .slice q1 n1 d1, .slice q2 n2 d2, .slice q3 n3 d3, .slice q4 n4 d4, .slice q5 n5 d5, .int .i64 p.dp, .int .i64 p.nd, .int .i64 p.bt]] wx fun e w' => e = .returned (.bool true) ∧ Below w7.heap.size w7 w') := hide (fun wx hx => by
            have := HST.out _ _ _ _ _ _ _ _ _ _ qp p _ _ _ _ _ _ _ _ _ _ wx (PQ.out wx hx) (HPV.out wx (H7.out.keep hx).2) FQ.out HF.out
            rw [MR.out.2.1] at this
            rw [hqp] at this
            exact this.mono fun _ _ ⟨h1, h2⟩ => ⟨h1, bel2 hx h2⟩)
          have D3 : Hid (∀ wx, Below w7.heap.size w7 wx → Calls Tryd.prog 22 #[.agg #[.int .i64 p.ep, .slice q1 n1 d1, .slice q2 n2 d2, .slice q3 n3 d3, .slice q4 n4 d4, .slice q5 n5 d5, .int .i64 p.dp, .int .i64 p.nd, .int .i64 p.bt], .agg #[.int .i64 p.ep, .slice q1 n1 d1, .slice q2 n2 d2, .slice pp (List.length ls) cc, .slice q4 n4 d4, .slice q5 n5 d5, .int .i64 p.dp, .int .i64 p.nd, .int .i64 p.bt]] wx fun e w' => e = .returned (.bool false) ∧ Below w7.heap.size w7 w') := hide (fun wx hx => by
            have := HST.out _ _ _ _ _ _ _ _ _ _ p qp _ _ _ _ _ _ _ _ _ _ wx (HPV.out wx (H7.out.keep hx).2) (PQ.out wx hx) HF.out FQ.out
            rw [MR.out.2.2] at this
            rw [hqp] at this
            exact this.mono fun _ _ ⟨h1, h2⟩ => ⟨h1, bel2 hx h2⟩)
          clear MR PQ FQ hqp HR HST HPV SK
          have hq0 := SQ.out _ (Below.refl w7.heap.size w7)
          have c0 := tag_cell hq0 0 _ rfl
          have c1 := tag_cell hq0 1 _ rfl
          have c2 := tag_cell hq0 2 _ rfl
          have c3 := tag_cell hq0 3 _ rfl
          have c4 := tag_cell hq0 4 _ rfl
          have c5 := tag_cell hq0 5 _ rfl
          have c6 := tag_cell hq0 6 _ rfl
          have c7 := tag_cell hq0 7 _ rfl
          have c8 := tag_cell hq0 8 _ rfl
          clear hq0
          go_wp2_with fail
          refine (D1.out _ (Below.refl w7.heap.size w7)).mono ?_
          rintro e x1 ⟨rfl, j1⟩
          have J1 := hide j1
          clear j1 D1 c0 c1 c2 c3 c4 c5 c6 c7 c8
          have hq0 := SQ.out _ J1.out
          have c0 := tag_cell hq0 0 _ rfl
          have c1 := tag_cell hq0 1 _ rfl
          have c2 := tag_cell hq0 2 _ rfl
          have c3 := tag_cell hq0 3 _ rfl
          have c4 := tag_cell hq0 4 _ rfl
          have c5 := tag_cell hq0 5 _ rfl
          have c6 := tag_cell hq0 6 _ rfl
          have c7 := tag_cell hq0 7 _ rfl
          have c8 := tag_cell hq0 8 _ rfl
          clear hq0
          obtain ⟨y0, y1, y2, y3, y4, y5, y6, y7, y8⟩ := SP.out _ J1.out
          go_wp2_with fail
          refine (D2.out _ J1.out).mono ?_
          rintro e x2 ⟨rfl, j2⟩
          have J2 := hide j2
          clear j2 D2 J1 c0 c1 c2 c3 c4 c5 c6 c7 c8 y0 y1 y2 y3 y4 y5 y6 y7 y8
          have hq0 := SQ.out _ J2.out
          have c0 := tag_cell hq0 0 _ rfl
          have c1 := tag_cell hq0 1 _ rfl
          have c2 := tag_cell hq0 2 _ rfl
          have c3 := tag_cell hq0 3 _ rfl
          have c4 := tag_cell hq0 4 _ rfl
          have c5 := tag_cell hq0 5 _ rfl
          have c6 := tag_cell hq0 6 _ rfl
          have c7 := tag_cell hq0 7 _ rfl
          have c8 := tag_cell hq0 8 _ rfl
          clear hq0
          obtain ⟨y0, y1, y2, y3, y4, y5, y6, y7, y8⟩ := SP.out _ J2.out
          go_wp2_with fail
          refine (D3.out _ J2.out).mono ?_
          rintro e x3 ⟨rfl, j3⟩
          have J3 := hide j3
          clear j3 D3 J2 c0 c1 c2 c3 c4 c5 c6 c7 c8 y0 y1 y2 y3 y4 y5 y6 y7 y8 SP SQ
          go_wp2_with fail
          go_ret
          exact ⟨rfl, bel2 H7.out.2 J3.out⟩
      by_cases w1 : wh = 1
      · subst w1
        have CWO : Hid (Calls Tryd.prog 24 #[.slice q4 n4 d4, .int .i64 at_] w5 fun e w' => (∃ pq c ls, e = .returned (.slice pq (List.length ls) c) ∧ StrArg w' (.slice pq ls.length c) ls ∧ ls.map bl = p.cl.eraseIdx (at_.toNat % n4) ∧ ∀ b off, pq = some ⟨b, off, none⟩ → w5.heap.size ≤ b) ∧ Below w5.heap.size w5 w') := hide (by
          have hpv := HPV.out w5 H5.out.2
          have := without_st (.slice q4 n4 d4) l4 at_ (by omega) (fits_of HF.out (by simp) hpv.e4).1 w5 hpv.s4 HK4.out
          rw [hpv.e4, HN4.out] at this
          exact this)
        by_cases hn : n4 = 0
        · have g0 : decide (0 < n4) = false := decide_eq_false (by omega)
          have HMQ : Hid (right ⟨p.ep, p.el, p.at_, p.sc, p.cl.eraseIdx (at_.toNat % n4), p.pr, p.dp, p.nd, p.bt⟩ = true ∧ stricter ⟨p.ep, p.el, p.at_, p.sc, p.cl.eraseIdx (at_.toNat % n4), p.pr, p.dp, p.nd, p.bt⟩ p = true ∧ stricter p ⟨p.ep, p.el, p.at_, p.sc, p.cl.eraseIdx (at_.toNat % n4), p.pr, p.dp, p.nd, p.bt⟩ = true) := hide ⟨(fewer_cl HRP.out _).1, (fewer_cl HRP.out _).2.1, (fewer_cl HRP.out _).2.2.1 (HL4.out.1.1 hn)⟩
          clear hn
          go_wp2_with fail
          refine CWO.out.mono ?_
          rintro e w6 ⟨⟨pp, cc, ls, rfl, hsa, hls, hoff⟩, hb6⟩
          have HLS := hide hls
          have HQ6 := hide ((hb6.block N (Array.getElem?_eq_some_iff.1 HQ5.out).1).trans HQ5.out)
          have H6 := hide (H5.out.keep hb6)
          have ZN := hide (Array.getElem?_eq_some_iff.1 HQ5.out).1
          have cF := tag_cell HQ6.out 4 _ rfl
          have zF := Go.Joins.unfrozen_of_block HQ6.out 4
          obtain ⟨w7, hw7⟩ : ∃ w7, w7 = w6.setCell ⟨N, 4, none⟩ (.slice pp (List.length ls) cc) := ⟨_, rfl⟩
          have HQ7 : Hid (w7.heap[N]? = some (.cells #[.int .i64 p.ep, .slice q1 n1 d1, .slice q2 n2 d2, .slice q3 n3 d3, .slice pp (List.length ls) cc, .slice q5 n5 d5, .int .i64 p.dp, .int .i64 p.nd, .int .i64 p.bt] 24 (0, 0))) := hide (by rw [hw7]; exact heap_setCell_same _ N 4 _ _ _ HQ6.out)
          have H7 : Hid (BoxP w A w7) := hide (by
            rw [hw7]
            exact ⟨(Below.heap_setCell _ _ _ _ (by show w.heap.size ≠ N; have := HNW.out; omega)).trans H6.out.1, H6.out.2.setCell (by show w.heap.size ≤ N; have := HNW.out; omega) _⟩)
          have HSA : Hid (StrArg w7 (.slice pp ls.length cc) ls) := hide (by
            rw [hw7]
            exact strArg_setCell hsa (fun b off e => by have h1 := hoff b off e; have h2 := ZN.out; show b ≠ N; omega) _)
          clear hsa hls hoff hb6 CWO HQ5 H5 y0 y1 y2 y3 y4 y5 y6 y7 y8
          go_upto_region 21 with fail
          rw [← hw7]
          clear hw7 cF zF HQ6 H6
          obtain ⟨qp, hqp⟩ : ∃ qp : Pol, qp = ⟨p.ep, p.el, p.at_, p.sc, p.cl.eraseIdx (at_.toNat % n4), p.pr, p.dp, p.nd, p.bt⟩ := ⟨_, rfl⟩
          have FQ : Hid (fits qp) := hide (by rw [hqp]; exact fits_er4 HF.out _)
          have MR : Hid (right qp = true ∧ stricter qp p = true ∧ stricter p qp = true) := hide (by rw [hqp]; exact ⟨HMQ.out.1, HMQ.out.2.1, HMQ.out.2.2⟩)
          have PQ : Hid (∀ wx, Below w7.heap.size w7 wx → PolV wx (.slice q1 n1 d1) (.slice q2 n2 d2) (.slice q3 n3 d3) (.slice pp ls.length cc) (.slice q5 n5 d5) qp l1 l2 l3 ls l5) := hide (fun wx hx => by
            have hpv := HPV.out w7 H7.out.2
            have h0 : PolV w7 (.slice q1 n1 d1) (.slice q2 n2 d2) (.slice q3 n3 d3) (.slice pp ls.length cc) (.slice q5 n5 d5) qp l1 l2 l3 ls l5 := by rw [hqp]; exact ⟨hpv.s1, hpv.s2, hpv.s3, HSA.out, hpv.s5, hpv.e1, hpv.e2, hpv.e3, HLS.out, hpv.e5, hpv.g⟩
            exact h0.below hx)
          have SP : Hid (∀ wx, Below w7.heap.size w7 wx → wx.cell? ⟨w.heap.size, 0, none⟩ = some (.int .i64 p.ep) ∧ wx.cell? ⟨w.heap.size, 1, none⟩ = some (.slice q1 n1 d1) ∧ wx.cell? ⟨w.heap.size, 2, none⟩ = some (.slice q2 n2 d2) ∧ wx.cell? ⟨w.heap.size, 3, none⟩ = some (.slice q3 n3 d3) ∧ wx.cell? ⟨w.heap.size, 4, none⟩ = some (.slice q4 n4 d4) ∧ wx.cell? ⟨w.heap.size, 5, none⟩ = some (.slice q5 n5 d5) ∧ wx.cell? ⟨w.heap.size, 6, none⟩ = some (.int .i64 p.dp) ∧ wx.cell? ⟨w.heap.size, 7, none⟩ = some (.int .i64 p.nd) ∧ wx.cell? ⟨w.heap.size, 8, none⟩ = some (.int .i64 p.bt)) := hide (fun wx hx => SK.out wx (H7.out.keep hx))
          have SQ : Hid (∀ wx, Below w7.heap.size w7 wx → wx.heap[N]? = some (.cells #[.int .i64 p.ep, .slice q1 n1 d1, .slice q2 n2 d2, .slice q3 n3 d3, .slice pp (List.length ls) cc, .slice q5 n5 d5, .int .i64 p.dp, .int .i64 p.nd, .int .i64 p.bt] 24 (0, 0))) := hide (fun wx hx => (hx.block N (Array.getElem?_eq_some_iff.1 HQ7.out).1).trans HQ7.out)
          have D1 : Hid (∀ wx, Below w7.heap.size w7 wx → Calls Tryd.prog 13 #[.agg #[.int .i64 p.ep, .slice q1 n1 d1, .slice q2 n2 d2, .slice q3 n3 d3, .slice pp (List.length ls) cc, .slice q5 n5 d5, .int .i64 p.dp, .int .i64 p.nd, .int .i64 p.bt]] wx fun e w' => e = .returned (.bool true) ∧ Below w7.heap.size w7 w') := hide (fun wx hx => by
            have := HR.out _ _ _ _ _ qp _ _ _ _ _ wx (PQ.out wx hx) FQ.out
            rw [MR.out.1] at this
            rw [hqp] at this
            exact this.mono fun _ _ ⟨h1, h2⟩ => ⟨h1, bel2 hx h2⟩)
          have D2 : Hid (∀ wx, Below w7.heap.size w7 wx → Calls Tryd.prog 22 #[.agg #[.int .i64 p.ep, .slice q1 n1 d1, .slice q2 n2 d2, .slice q3 n3 d3, .slice pp (List.length ls) cc, .slice q5 n5 d5, .int .i64 p.dp, .int .i64 p.nd, .int .i64 p.bt], .agg #[.int .i64 p.ep, .slice q1 n1 d1, .slice q2 n2 d2, .slice q3 n3 d3, .slice q4 n4 d4, .slice q5 n5 d5, .int .i64 p.dp, .int .i64 p.nd, .int .i64 p.bt]] wx fun e w' => e = .returned (.bool true) ∧ Below w7.heap.size w7 w') := hide (fun wx hx => by
            have := HST.out _ _ _ _ _ _ _ _ _ _ qp p _ _ _ _ _ _ _ _ _ _ wx (PQ.out wx hx) (HPV.out wx (H7.out.keep hx).2) FQ.out HF.out
            rw [MR.out.2.1] at this
            rw [hqp] at this
            exact this.mono fun _ _ ⟨h1, h2⟩ => ⟨h1, bel2 hx h2⟩)
          have D3 : Hid (∀ wx, Below w7.heap.size w7 wx → Calls Tryd.prog 22 #[.agg #[.int .i64 p.ep, .slice q1 n1 d1, .slice q2 n2 d2, .slice q3 n3 d3, .slice q4 n4 d4, .slice q5 n5 d5, .int .i64 p.dp, .int .i64 p.nd, .int .i64 p.bt], .agg #[.int .i64 p.ep, .slice q1 n1 d1, .slice q2 n2 d2, .slice q3 n3 d3, .slice pp (List.length ls) cc, .slice q5 n5 d5, .int .i64 p.dp, .int .i64 p.nd, .int .i64 p.bt]] wx fun e w' => e = .returned (.bool true) ∧ Below w7.heap.size w7 w') := hide (fun wx hx => by
            have := HST.out _ _ _ _ _ _ _ _ _ _ p qp _ _ _ _ _ _ _ _ _ _ wx (HPV.out wx (H7.out.keep hx).2) (PQ.out wx hx) HF.out FQ.out
            rw [MR.out.2.2] at this
            rw [hqp] at this
            exact this.mono fun _ _ ⟨h1, h2⟩ => ⟨h1, bel2 hx h2⟩)
          clear MR PQ FQ hqp HR HST HPV SK
          have hq0 := SQ.out _ (Below.refl w7.heap.size w7)
          have c0 := tag_cell hq0 0 _ rfl
          have c1 := tag_cell hq0 1 _ rfl
          have c2 := tag_cell hq0 2 _ rfl
          have c3 := tag_cell hq0 3 _ rfl
          have c4 := tag_cell hq0 4 _ rfl
          have c5 := tag_cell hq0 5 _ rfl
          have c6 := tag_cell hq0 6 _ rfl
          have c7 := tag_cell hq0 7 _ rfl
          have c8 := tag_cell hq0 8 _ rfl
          clear hq0
          go_wp2_with fail
          refine (D1.out _ (Below.refl w7.heap.size w7)).mono ?_
          rintro e x1 ⟨rfl, j1⟩
          have J1 := hide j1
          clear j1 D1 c0 c1 c2 c3 c4 c5 c6 c7 c8
          have hq0 := SQ.out _ J1.out
          have c0 := tag_cell hq0 0 _ rfl
          have c1 := tag_cell hq0 1 _ rfl
          have c2 := tag_cell hq0 2 _ rfl
          have c3 := tag_cell hq0 3 _ rfl
          have c4 := tag_cell hq0 4 _ rfl
          have c5 := tag_cell hq0 5 _ rfl
          have c6 := tag_cell hq0 6 _ rfl
          have c7 := tag_cell hq0 7 _ rfl
          have c8 := tag_cell hq0 8 _ rfl
          clear hq0
          obtain ⟨y0, y1, y2, y3, y4, y5, y6, y7, y8⟩ := SP.out _ J1.out
          go_wp2_with fail
          refine (D2.out _ J1.out).mono ?_
          rintro e x2 ⟨rfl, j2⟩
          have J2 := hide j2
          clear j2 D2 J1 c0 c1 c2 c3 c4 c5 c6 c7 c8 y0 y1 y2 y3 y4 y5 y6 y7 y8
          have hq0 := SQ.out _ J2.out
          have c0 := tag_cell hq0 0 _ rfl
          have c1 := tag_cell hq0 1 _ rfl
          have c2 := tag_cell hq0 2 _ rfl
          have c3 := tag_cell hq0 3 _ rfl
          have c4 := tag_cell hq0 4 _ rfl
          have c5 := tag_cell hq0 5 _ rfl
          have c6 := tag_cell hq0 6 _ rfl
          have c7 := tag_cell hq0 7 _ rfl
          have c8 := tag_cell hq0 8 _ rfl
          clear hq0
          obtain ⟨y0, y1, y2, y3, y4, y5, y6, y7, y8⟩ := SP.out _ J2.out
          go_wp2_with fail
          refine (D3.out _ J2.out).mono ?_
          rintro e x3 ⟨rfl, j3⟩
          have J3 := hide j3
          clear j3 D3 J2 c0 c1 c2 c3 c4 c5 c6 c7 c8 y0 y1 y2 y3 y4 y5 y6 y7 y8 SP SQ
          go_wp2_with fail
          go_ret
          exact ⟨rfl, bel2 H7.out.2 J3.out⟩
        · have g0 : decide (0 < n4) = true := decide_eq_true (by omega)
          have HMQ : Hid (right ⟨p.ep, p.el, p.at_, p.sc, p.cl.eraseIdx (at_.toNat % n4), p.pr, p.dp, p.nd, p.bt⟩ = true ∧ stricter ⟨p.ep, p.el, p.at_, p.sc, p.cl.eraseIdx (at_.toNat % n4), p.pr, p.dp, p.nd, p.bt⟩ p = true ∧ stricter p ⟨p.ep, p.el, p.at_, p.sc, p.cl.eraseIdx (at_.toNat % n4), p.pr, p.dp, p.nd, p.bt⟩ = false) := hide ⟨(fewer_cl HRP.out _).1, (fewer_cl HRP.out _).2.1, (fewer_cl HRP.out _).2.2.2 (by rw [← HL4.out.2]; exact Nat.mod_lt _ (by omega))⟩
          clear hn
          go_wp2_with fail
          refine CWO.out.mono ?_
          rintro e w6 ⟨⟨pp, cc, ls, rfl, hsa, hls, hoff⟩, hb6⟩
          have HLS := hide hls
          have HQ6 := hide ((hb6.block N (Array.getElem?_eq_some_iff.1 HQ5.out).1).trans HQ5.out)
          have H6 := hide (H5.out.keep hb6)
          have ZN := hide (Array.getElem?_eq_some_iff.1 HQ5.out).1
          have cF := tag_cell HQ6.out 4 _ rfl
          have zF := Go.Joins.unfrozen_of_block HQ6.out 4
          obtain ⟨w7, hw7⟩ : ∃ w7, w7 = w6.setCell ⟨N, 4, none⟩ (.slice pp (List.length ls) cc) := ⟨_, rfl⟩
          have HQ7 : Hid (w7.heap[N]? = some (.cells #[.int .i64 p.ep, .slice q1 n1 d1, .slice q2 n2 d2, .slice q3 n3 d3, .slice pp (List.length ls) cc, .slice q5 n5 d5, .int .i64 p.dp, .int .i64 p.nd, .int .i64 p.bt] 24 (0, 0))) := hide (by rw [hw7]; exact heap_setCell_same _ N 4 _ _ _ HQ6.out)
          have H7 : Hid (BoxP w A w7) := hide (by
            rw [hw7]
            exact ⟨(Below.heap_setCell _ _ _ _ (by show w.heap.size ≠ N; have := HNW.out; omega)).trans H6.out.1, H6.out.2.setCell (by show w.heap.size ≤ N; have := HNW.out; omega) _⟩)
          have HSA : Hid (StrArg w7 (.slice pp ls.length cc) ls) := hide (by
            rw [hw7]
            exact strArg_setCell hsa (fun b off e => by have h1 := hoff b off e; have h2 := ZN.out; show b ≠ N; omega) _)
          clear hsa hls hoff hb6 CWO HQ5 H5 y0 y1 y2 y3 y4 y5 y6 y7 y8
          go_upto_region 21 with fail
          rw [← hw7]
          clear hw7 cF zF HQ6 H6
          obtain ⟨qp, hqp⟩ : ∃ qp : Pol, qp = ⟨p.ep, p.el, p.at_, p.sc, p.cl.eraseIdx (at_.toNat % n4), p.pr, p.dp, p.nd, p.bt⟩ := ⟨_, rfl⟩
          have FQ : Hid (fits qp) := hide (by rw [hqp]; exact fits_er4 HF.out _)
          have MR : Hid (right qp = true ∧ stricter qp p = true ∧ stricter p qp = false) := hide (by rw [hqp]; exact ⟨HMQ.out.1, HMQ.out.2.1, HMQ.out.2.2⟩)
          have PQ : Hid (∀ wx, Below w7.heap.size w7 wx → PolV wx (.slice q1 n1 d1) (.slice q2 n2 d2) (.slice q3 n3 d3) (.slice pp ls.length cc) (.slice q5 n5 d5) qp l1 l2 l3 ls l5) := hide (fun wx hx => by
            have hpv := HPV.out w7 H7.out.2
            have h0 : PolV w7 (.slice q1 n1 d1) (.slice q2 n2 d2) (.slice q3 n3 d3) (.slice pp ls.length cc) (.slice q5 n5 d5) qp l1 l2 l3 ls l5 := by rw [hqp]; exact ⟨hpv.s1, hpv.s2, hpv.s3, HSA.out, hpv.s5, hpv.e1, hpv.e2, hpv.e3, HLS.out, hpv.e5, hpv.g⟩
            exact h0.below hx)
          have SP : Hid (∀ wx, Below w7.heap.size w7 wx → wx.cell? ⟨w.heap.size, 0, none⟩ = some (.int .i64 p.ep) ∧ wx.cell? ⟨w.heap.size, 1, none⟩ = some (.slice q1 n1 d1) ∧ wx.cell? ⟨w.heap.size, 2, none⟩ = some (.slice q2 n2 d2) ∧ wx.cell? ⟨w.heap.size, 3, none⟩ = some (.slice q3 n3 d3) ∧ wx.cell? ⟨w.heap.size, 4, none⟩ = some (.slice q4 n4 d4) ∧ wx.cell? ⟨w.heap.size, 5, none⟩ = some (.slice q5 n5 d5) ∧ wx.cell? ⟨w.heap.size, 6, none⟩ = some (.int .i64 p.dp) ∧ wx.cell? ⟨w.heap.size, 7, none⟩ = some (.int .i64 p.nd) ∧ wx.cell? ⟨w.heap.size, 8, none⟩ = some (.int .i64 p.bt)) := hide (fun wx hx => SK.out wx (H7.out.keep hx))
          have SQ : Hid (∀ wx, Below w7.heap.size w7 wx → wx.heap[N]? = some (.cells #[.int .i64 p.ep, .slice q1 n1 d1, .slice q2 n2 d2, .slice q3 n3 d3, .slice pp (List.length ls) cc, .slice q5 n5 d5, .int .i64 p.dp, .int .i64 p.nd, .int .i64 p.bt] 24 (0, 0))) := hide (fun wx hx => (hx.block N (Array.getElem?_eq_some_iff.1 HQ7.out).1).trans HQ7.out)
          have D1 : Hid (∀ wx, Below w7.heap.size w7 wx → Calls Tryd.prog 13 #[.agg #[.int .i64 p.ep, .slice q1 n1 d1, .slice q2 n2 d2, .slice q3 n3 d3, .slice pp (List.length ls) cc, .slice q5 n5 d5, .int .i64 p.dp, .int .i64 p.nd, .int .i64 p.bt]] wx fun e w' => e = .returned (.bool true) ∧ Below w7.heap.size w7 w') := hide (fun wx hx => by
            have := HR.out _ _ _ _ _ qp _ _ _ _ _ wx (PQ.out wx hx) FQ.out
            rw [MR.out.1] at this
            rw [hqp] at this
            exact this.mono fun _ _ ⟨h1, h2⟩ => ⟨h1, bel2 hx h2⟩)
          have D2 : Hid (∀ wx, Below w7.heap.size w7 wx → Calls Tryd.prog 22 #[.agg #[.int .i64 p.ep, .slice q1 n1 d1, .slice q2 n2 d2, .slice q3 n3 d3, .slice pp (List.length ls) cc, .slice q5 n5 d5, .int .i64 p.dp, .int .i64 p.nd, .int .i64 p.bt], .agg #[.int .i64 p.ep, .slice q1 n1 d1, .slice q2 n2 d2, .slice q3 n3 d3, .slice q4 n4 d4, .slice q5 n5 d5, .int .i64 p.dp, .int .i64 p.nd, .int .i64 p.bt]] wx fun e w' => e = .returned (.bool true) ∧ Below w7.heap.size w7 w') := hide (fun wx hx => by
            have := HST.out _ _ _ _ _ _ _ _ _ _ qp p _ _ _ _ _ _ _ _ _ _ wx (PQ.out wx hx) (HPV.out wx (H7.out.keep hx).2) FQ.out HF.out
            rw [MR.out.2.1] at this
            rw [hqp] at this
            exact this.mono fun _ _ ⟨h1, h2⟩ => ⟨h1, bel2 hx h2⟩)
          have D3 : Hid (∀ wx, Below w7.heap.size w7 wx → Calls Tryd.prog 22 #[.agg #[.int .i64 p.ep, .slice q1 n1 d1, .slice q2 n2 d2, .slice q3 n3 d3, .slice q4 n4 d4, .slice q5 n5 d5, .int .i64 p.dp, .int .i64 p.nd, .int .i64 p.bt], .agg #[.int .i64 p.ep, .slice q1 n1 d1, .slice q2 n2 d2, .slice q3 n3 d3, .slice pp (List.length ls) cc, .slice q5 n5 d5, .int .i64 p.dp, .int .i64 p.nd, .int .i64 p.bt]] wx fun e w' => e = .returned (.bool false) ∧ Below w7.heap.size w7 w') := hide (fun wx hx => by
            have := HST.out _ _ _ _ _ _ _ _ _ _ p qp _ _ _ _ _ _ _ _ _ _ wx (HPV.out wx (H7.out.keep hx).2) (PQ.out wx hx) HF.out FQ.out
            rw [MR.out.2.2] at this
            rw [hqp] at this
            exact this.mono fun _ _ ⟨h1, h2⟩ => ⟨h1, bel2 hx h2⟩)
          clear MR PQ FQ hqp HR HST HPV SK
          have hq0 := SQ.out _ (Below.refl w7.heap.size w7)
          have c0 := tag_cell hq0 0 _ rfl
          have c1 := tag_cell hq0 1 _ rfl
          have c2 := tag_cell hq0 2 _ rfl
          have c3 := tag_cell hq0 3 _ rfl
          have c4 := tag_cell hq0 4 _ rfl
          have c5 := tag_cell hq0 5 _ rfl
          have c6 := tag_cell hq0 6 _ rfl
          have c7 := tag_cell hq0 7 _ rfl
          have c8 := tag_cell hq0 8 _ rfl
          clear hq0
          go_wp2_with fail
          refine (D1.out _ (Below.refl w7.heap.size w7)).mono ?_
          rintro e x1 ⟨rfl, j1⟩
          have J1 := hide j1
          clear j1 D1 c0 c1 c2 c3 c4 c5 c6 c7 c8
          have hq0 := SQ.out _ J1.out
          have c0 := tag_cell hq0 0 _ rfl
          have c1 := tag_cell hq0 1 _ rfl
          have c2 := tag_cell hq0 2 _ rfl
          have c3 := tag_cell hq0 3 _ rfl
          have c4 := tag_cell hq0 4 _ rfl
          have c5 := tag_cell hq0 5 _ rfl
          have c6 := tag_cell hq0 6 _ rfl
          have c7 := tag_cell hq0 7 _ rfl
          have c8 := tag_cell hq0 8 _ rfl
          clear hq0
          obtain ⟨y0, y1, y2, y3, y4, y5, y6, y7, y8⟩ := SP.out _ J1.out
          go_wp2_with fail
          refine (D2.out _ J1.out).mono ?_
          rintro e x2 ⟨rfl, j2⟩
          have J2 := hide j2
          clear j2 D2 J1 c0 c1 c2 c3 c4 c5 c6 c7 c8 y0 y1 y2 y3 y4 y5 y6 y7 y8
          have hq0 := SQ.out _ J2.out
          have c0 := tag_cell hq0 0 _ rfl
          have c1 := tag_cell hq0 1 _ rfl
          have c2 := tag_cell hq0 2 _ rfl
          have c3 := tag_cell hq0 3 _ rfl
          have c4 := tag_cell hq0 4 _ rfl
          have c5 := tag_cell hq0 5 _ rfl
          have c6 := tag_cell hq0 6 _ rfl
          have c7 := tag_cell hq0 7 _ rfl
          have c8 := tag_cell hq0 8 _ rfl
          clear hq0
          obtain ⟨y0, y1, y2, y3, y4, y5, y6, y7, y8⟩ := SP.out _ J2.out
          go_wp2_with fail
          refine (D3.out _ J2.out).mono ?_
          rintro e x3 ⟨rfl, j3⟩
          have J3 := hide j3
          clear j3 D3 J2 c0 c1 c2 c3 c4 c5 c6 c7 c8 y0 y1 y2 y3 y4 y5 y6 y7 y8 SP SQ
          go_wp2_with fail
          go_ret
          exact ⟨rfl, bel2 H7.out.2 J3.out⟩
      by_cases w2 : wh = 2
      · subst w2
        have CWO : Hid (Calls Tryd.prog 24 #[.slice q5 n5 d5, .int .i64 at_] w5 fun e w' => (∃ pq c ls, e = .returned (.slice pq (List.length ls) c) ∧ StrArg w' (.slice pq ls.length c) ls ∧ ls.map bl = p.pr.eraseIdx (at_.toNat % n5) ∧ ∀ b off, pq = some ⟨b, off, none⟩ → w5.heap.size ≤ b) ∧ Below w5.heap.size w5 w') := hide (by
          have hpv := HPV.out w5 H5.out.2
          have := without_st (.slice q5 n5 d5) l5 at_ (by omega) (fits_of HF.out (by simp) hpv.e5).1 w5 hpv.s5 HK5.out
          rw [hpv.e5, HN5.out] at this
          exact this)
        by_cases hn : n5 = 0
        · have g0 : decide (0 < n5) = false := decide_eq_false (by omega)
          have HMQ : Hid (right ⟨p.ep, p.el, p.at_, p.sc, p.cl, p.pr.eraseIdx (at_.toNat % n5), p.dp, p.nd, p.bt⟩ = true ∧ stricter ⟨p.ep, p.el, p.at_, p.sc, p.cl, p.pr.eraseIdx (at_.toNat % n5), p.dp, p.nd, p.bt⟩ p = true ∧ stricter p ⟨p.ep, p.el, p.at_, p.sc, p.cl, p.pr.eraseIdx (at_.toNat % n5), p.dp, p.nd, p.bt⟩ = true) := hide ⟨(fewer_pr HRP.out _).1, (fewer_pr HRP.out _).2.1, (fewer_pr HRP.out _).2.2.1 (HL5.out.1.1 hn)⟩
          clear hn
          go_wp2_with fail
          refine CWO.out.mono ?_
          rintro e w6 ⟨⟨pp, cc, ls, rfl, hsa, hls, hoff⟩, hb6⟩
          have HLS := hide hls
          have HQ6 := hide ((hb6.block N (Array.getElem?_eq_some_iff.1 HQ5.out).1).trans HQ5.out)
          have H6 := hide (H5.out.keep hb6)
          have ZN := hide (Array.getElem?_eq_some_iff.1 HQ5.out).1
          have cF := tag_cell HQ6.out 5 _ rfl
          have zF := Go.Joins.unfrozen_of_block HQ6.out 5
          obtain ⟨w7, hw7⟩ : ∃ w7, w7 = w6.setCell ⟨N, 5, none⟩ (.slice pp (List.length ls) cc) := ⟨_, rfl⟩
          have HQ7 : Hid (w7.heap[N]? = some (.cells #[.int .i64 p.ep, .slice q1 n1 d1, .slice q2 n2 d2, .slice q3 n3 d3, .slice q4 n4 d4, .slice pp (List.length ls) cc, .int .i64 p.dp, .int .i64 p.nd, .int .i64 p.bt] 24 (0, 0))) := hide (by rw [hw7]; exact heap_setCell_same _ N 5 _ _ _ HQ6.out)
          have H7 : Hid (BoxP w A w7) := hide (by
            rw [hw7]
            exact ⟨(Below.heap_setCell _ _ _ _ (by show w.heap.size ≠ N; have := HNW.out; omega)).trans H6.out.1, H6.out.2.setCell (by show w.heap.size ≤ N; have := HNW.out; omega) _⟩)
          have HSA : Hid (StrArg w7 (.slice pp ls.length cc) ls) := hide (by
            rw [hw7]
            exact strArg_setCell hsa (fun b off e => by have h1 := hoff b off e; have h2 := ZN.out; show b ≠ N; omega) _)
          clear hsa hls hoff hb6 CWO HQ5 H5 y0 y1 y2 y3 y4 y5 y6 y7 y8
          go_upto_region 21 with fail
          rw [← hw7]
          clear hw7 cF zF HQ6 H6
          obtain ⟨qp, hqp⟩ : ∃ qp : Pol, qp = ⟨p.ep, p.el, p.at_, p.sc, p.cl, p.pr.eraseIdx (at_.toNat % n5), p.dp, p.nd, p.bt⟩ := ⟨_, rfl⟩
          have FQ : Hid (fits qp) := hide (by rw [hqp]; exact fits_er5 HF.out _)
          have MR : Hid (right qp = true ∧ stricter qp p = true ∧ stricter p qp = true) := hide (by rw [hqp]; exact ⟨HMQ.out.1, HMQ.out.2.1, HMQ.out.2.2⟩)
          have PQ : Hid (∀ wx, Below w7.heap.size w7 wx → PolV wx (.slice q1 n1 d1) (.slice q2 n2 d2) (.slice q3 n3 d3) (.slice q4 n4 d4) (.slice pp ls.length cc) qp l1 l2 l3 l4 ls) := hide (fun wx hx => by
            have hpv := HPV.out w7 H7.out.2
            have h0 : PolV w7 (.slice q1 n1 d1) (.slice q2 n2 d2) (.slice q3 n3 d3) (.slice q4 n4 d4) (.slice pp ls.length cc) qp l1 l2 l3 l4 ls := by rw [hqp]; exact ⟨hpv.s1, hpv.s2, hpv.s3, hpv.s4, HSA.out, hpv.e1, hpv.e2, hpv.e3, hpv.e4, HLS.out, hpv.g⟩
            exact h0.below hx)
          have SP : Hid (∀ wx, Below w7.heap.size w7 wx → wx.cell? ⟨w.heap.size, 0, none⟩ = some (.int .i64 p.ep) ∧ wx.cell? ⟨w.heap.size, 1, none⟩ = some (.slice q1 n1 d1) ∧ wx.cell? ⟨w.heap.size, 2, none⟩ = some (.slice q2 n2 d2) ∧ wx.cell? ⟨w.heap.size, 3, none⟩ = some (.slice q3 n3 d3) ∧ wx.cell? ⟨w.heap.size, 4, none⟩ = some (.slice q4 n4 d4) ∧ wx.cell? ⟨w.heap.size, 5, none⟩ = some (.slice q5 n5 d5) ∧ wx.cell? ⟨w.heap.size, 6, none⟩ = some (.int .i64 p.dp) ∧ wx.cell? ⟨w.heap.size, 7, none⟩ = some (.int .i64 p.nd) ∧ wx.cell? ⟨w.heap.size, 8, none⟩ = some (.int .i64 p.bt)) := hide (fun wx hx => SK.out wx (H7.out.keep hx))
          have SQ : Hid (∀ wx, Below w7.heap.size w7 wx → wx.heap[N]? = some (.cells #[.int .i64 p.ep, .slice q1 n1 d1, .slice q2 n2 d2, .slice q3 n3 d3, .slice q4 n4 d4, .slice pp (List.length ls) cc, .int .i64 p.dp, .int .i64 p.nd, .int .i64 p.bt] 24 (0, 0))) := hide (fun wx hx => (hx.block N (Array.getElem?_eq_some_iff.1 HQ7.out).1).trans HQ7.out)
          have D1 : Hid (∀ wx, Below w7.heap.size w7 wx → Calls Tryd.prog 13 #[.agg #[.int .i64 p.ep, .slice q1 n1 d1, .slice q2 n2 d2, .slice q3 n3 d3, .slice q4 n4 d4, .slice pp (List.length ls) cc, .int .i64 p.dp, .int .i64 p.nd, .int .i64 p.bt]] wx fun e w' => e = .returned (.bool true) ∧ Below w7.heap.size w7 w') := hide (fun wx hx => by
            have := HR.out _ _ _ _ _ qp _ _ _ _ _ wx (PQ.out wx hx) FQ.out
            rw [MR.out.1] at this
            rw [hqp] at this
            exact this.mono fun _ _ ⟨h1, h2⟩ => ⟨h1, bel2 hx h2⟩)
          have D2 : Hid (∀ wx, Below w7.heap.size w7 wx → Calls Tryd.prog 22 #[.agg #[.int .i64 p.ep, .slice q1 n1 d1, .slice q2 n2 d2, .slice q3 n3 d3, .slice q4 n4 d4, .slice pp (List.length ls) cc, .int .i64 p.dp, .int .i64 p.nd, .int .i64 p.bt], .agg #[.int .i64 p.ep, .slice q1 n1 d1, .slice q2 n2 d2, .slice q3 n3 d3, .slice q4 n4 d4, .slice q5 n5 d5, .int .i64 p.dp, .int .i64 p.nd, .int .i64 p.bt]] wx fun e w' => e = .returned (.bool true) ∧ Below w7.heap.size w7 w') := hide (fun wx hx => by
            have := HST.out _ _ _ _ _ _ _ _ _ _ qp p _ _ _ _ _ _ _ _ _ _ wx (PQ.out wx hx) (HPV.out wx (H7.out.keep hx).2) FQ.out HF.out
            rw [MR.out.2.1] at this
            rw [hqp] at this
            exact this.mono fun _ _ ⟨h1, h2⟩ => ⟨h1, bel2 hx h2⟩)
          have D3 : Hid (∀ wx, Below w7.heap.size w7 wx → Calls Tryd.prog 22 #[.agg #[.int .i64 p.ep, .slice q1 n1 d1, .slice q2 n2 d2, .slice q3 n3 d3, .slice q4 n4 d4, .slice q5 n5 d5, .int .i64 p.dp, .int .i64 p.nd, .int .i64 p.bt], .agg #[.int .i64 p.ep, .slice q1 n1 d1, .slice q2 n2 d2, .slice q3 n3 d3, .slice q4 n4 d4, .slice pp (List.length ls) cc, .int .i64 p.dp, .int .i64 p.nd, .int .i64 p.bt]] wx fun e w' => e = .returned (.bool true) ∧ Below w7.heap.size w7 w') := hide (fun wx hx => by
            have := HST.out _ _ _ _ _ _ _ _ _ _ p qp _ _ _ _ _ _ _ _ _ _ wx (HPV.out wx (H7.out.keep hx).2) (PQ.out wx hx) HF.out FQ.out
            rw [MR.out.2.2] at this
            rw [hqp] at this
            exact this.mono fun _ _ ⟨h1, h2⟩ => ⟨h1, bel2 hx h2⟩)
          clear MR PQ FQ hqp HR HST HPV SK
          have hq0 := SQ.out _ (Below.refl w7.heap.size w7)
          have c0 := tag_cell hq0 0 _ rfl
          have c1 := tag_cell hq0 1 _ rfl
          have c2 := tag_cell hq0 2 _ rfl
          have c3 := tag_cell hq0 3 _ rfl
          have c4 := tag_cell hq0 4 _ rfl
          have c5 := tag_cell hq0 5 _ rfl
          have c6 := tag_cell hq0 6 _ rfl
          have c7 := tag_cell hq0 7 _ rfl
          have c8 := tag_cell hq0 8 _ rfl
          clear hq0
          go_wp2_with fail
          refine (D1.out _ (Below.refl w7.heap.size w7)).mono ?_
          rintro e x1 ⟨rfl, j1⟩
          have J1 := hide j1
          clear j1 D1 c0 c1 c2 c3 c4 c5 c6 c7 c8
          have hq0 := SQ.out _ J1.out
          have c0 := tag_cell hq0 0 _ rfl
          have c1 := tag_cell hq0 1 _ rfl
          have c2 := tag_cell hq0 2 _ rfl
          have c3 := tag_cell hq0 3 _ rfl
          have c4 := tag_cell hq0 4 _ rfl
          have c5 := tag_cell hq0 5 _ rfl
          have c6 := tag_cell hq0 6 _ rfl
          have c7 := tag_cell hq0 7 _ rfl
          have c8 := tag_cell hq0 8 _ rfl
          clear hq0
          obtain ⟨y0, y1, y2, y3, y4, y5, y6, y7, y8⟩ := SP.out _ J1.out
          go_wp2_with fail
          refine (D2.out _ J1.out).mono ?_
          rintro e x2 ⟨rfl, j2⟩
          have J2 := hide j2
          clear j2 D2 J1 c0 c1 c2 c3 c4 c5 c6 c7 c8 y0 y1 y2 y3 y4 y5 y6 y7 y8
          have hq0 := SQ.out _ J2.out
          have c0 := tag_cell hq0 0 _ rfl
          have c1 := tag_cell hq0 1 _ rfl
          have c2 := tag_cell hq0 2 _ rfl
          have c3 := tag_cell hq0 3 _ rfl
          have c4 := tag_cell hq0 4 _ rfl
          have c5 := tag_cell hq0 5 _ rfl
          have c6 := tag_cell hq0 6 _ rfl
          have c7 := tag_cell hq0 7 _ rfl
          have c8 := tag_cell hq0 8 _ rfl
          clear hq0
          obtain ⟨y0, y1, y2, y3, y4, y5, y6, y7, y8⟩ := SP.out _ J2.out
          go_wp2_with fail
          refine (D3.out _ J2.out).mono ?_
          rintro e x3 ⟨rfl, j3⟩
          have J3 := hide j3
          clear j3 D3 J2 c0 c1 c2 c3 c4 c5 c6 c7 c8 y0 y1 y2 y3 y4 y5 y6 y7 y8 SP SQ
          go_wp2_with fail
          go_ret
          exact ⟨rfl, bel2 H7.out.2 J3.out⟩
        · have g0 : decide (0 < n5) = true := decide_eq_true (by omega)
          have HMQ : Hid (right ⟨p.ep, p.el, p.at_, p.sc, p.cl, p.pr.eraseIdx (at_.toNat % n5), p.dp, p.nd, p.bt⟩ = true ∧ stricter ⟨p.ep, p.el, p.at_, p.sc, p.cl, p.pr.eraseIdx (at_.toNat % n5), p.dp, p.nd, p.bt⟩ p = true ∧ stricter p ⟨p.ep, p.el, p.at_, p.sc, p.cl, p.pr.eraseIdx (at_.toNat % n5), p.dp, p.nd, p.bt⟩ = false) := hide ⟨(fewer_pr HRP.out _).1, (fewer_pr HRP.out _).2.1, (fewer_pr HRP.out _).2.2.2 (by rw [← HL5.out.2]; exact Nat.mod_lt _ (by omega))⟩
          clear hn
          go_wp2_with fail
          refine CWO.out.mono ?_
          rintro e w6 ⟨⟨pp, cc, ls, rfl, hsa, hls, hoff⟩, hb6⟩
          have HLS := hide hls
          have HQ6 := hide ((hb6.block N (Array.getElem?_eq_some_iff.1 HQ5.out).1).trans HQ5.out)
          have H6 := hide (H5.out.keep hb6)
          have ZN := hide (Array.getElem?_eq_some_iff.1 HQ5.out).1
          have cF := tag_cell HQ6.out 5 _ rfl
          have zF := Go.Joins.unfrozen_of_block HQ6.out 5
          obtain ⟨w7, hw7⟩ : ∃ w7, w7 = w6.setCell ⟨N, 5, none⟩ (.slice pp (List.length ls) cc) := ⟨_, rfl⟩
          have HQ7 : Hid (w7.heap[N]? = some (.cells #[.int .i64 p.ep, .slice q1 n1 d1, .slice q2 n2 d2, .slice q3 n3 d3, .slice q4 n4 d4, .slice pp (List.length ls) cc, .int .i64 p.dp, .int .i64 p.nd, .int .i64 p.bt] 24 (0, 0))) := hide (by rw [hw7]; exact heap_setCell_same _ N 5 _ _ _ HQ6.out)
          have H7 : Hid (BoxP w A w7) := hide (by
            rw [hw7]
            exact ⟨(Below.heap_setCell _ _ _ _ (by show w.heap.size ≠ N; have := HNW.out; omega)).trans H6.out.1, H6.out.2.setCell (by show w.heap.size ≤ N; have := HNW.out; omega) _⟩)
          have HSA : Hid (StrArg w7 (.slice pp ls.length cc) ls) := hide (by
            rw [hw7]
            exact strArg_setCell hsa (fun b off e => by have h1 := hoff b off e; have h2 := ZN.out; show b ≠ N; omega) _)
          clear hsa hls hoff hb6 CWO HQ5 H5 y0 y1 y2 y3 y4 y5 y6 y7 y8
          go_upto_region 21 with fail
          rw [← hw7]
          clear hw7 cF zF HQ6 H6
          obtain ⟨qp, hqp⟩ : ∃ qp : Pol, qp = ⟨p.ep, p.el, p.at_, p.sc, p.cl, p.pr.eraseIdx (at_.toNat % n5), p.dp, p.nd, p.bt⟩ := ⟨_, rfl⟩
          have FQ : Hid (fits qp) := hide (by rw [hqp]; exact fits_er5 HF.out _)
          have MR : Hid (right qp = true ∧ stricter qp p = true ∧ stricter p qp = false) := hide (by rw [hqp]; exact ⟨HMQ.out.1, HMQ.out.2.1, HMQ.out.2.2⟩)
          have PQ : Hid (∀ wx, Below w7.heap.size w7 wx → PolV wx (.slice q1 n1 d1) (.slice q2 n2 d2) (.slice q3 n3 d3) (.slice q4 n4 d4) (.slice pp ls.length cc) qp l1 l2 l3 l4 ls) := hide (fun wx hx => by
            have hpv := HPV.out w7 H7.out.2
            have h0 : PolV w7 (.slice q1 n1 d1) (.slice q2 n2 d2) (.slice q3 n3 d3) (.slice q4 n4 d4) (.slice pp ls.length cc) qp l1 l2 l3 l4 ls := by rw [hqp]; exact ⟨hpv.s1, hpv.s2, hpv.s3, hpv.s4, HSA.out, hpv.e1, hpv.e2, hpv.e3, hpv.e4, HLS.out, hpv.g⟩
            exact h0.below hx)
          have SP : Hid (∀ wx, Below w7.heap.size w7 wx → wx.cell? ⟨w.heap.size, 0, none⟩ = some (.int .i64 p.ep) ∧ wx.cell? ⟨w.heap.size, 1, none⟩ = some (.slice q1 n1 d1) ∧ wx.cell? ⟨w.heap.size, 2, none⟩ = some (.slice q2 n2 d2) ∧ wx.cell? ⟨w.heap.size, 3, none⟩ = some (.slice q3 n3 d3) ∧ wx.cell? ⟨w.heap.size, 4, none⟩ = some (.slice q4 n4 d4) ∧ wx.cell? ⟨w.heap.size, 5, none⟩ = some (.slice q5 n5 d5) ∧ wx.cell? ⟨w.heap.size, 6, none⟩ = some (.int .i64 p.dp) ∧ wx.cell? ⟨w.heap.size, 7, none⟩ = some (.int .i64 p.nd) ∧ wx.cell? ⟨w.heap.size, 8, none⟩ = some (.int .i64 p.bt)) := hide (fun wx hx => SK.out wx (H7.out.keep hx))
          have SQ : Hid (∀ wx, Below w7.heap.size w7 wx → wx.heap[N]? = some (.cells #[.int .i64 p.ep, .slice q1 n1 d1, .slice q2 n2 d2, .slice q3 n3 d3, .slice q4 n4 d4, .slice pp (List.length ls) cc, .int .i64 p.dp, .int .i64 p.nd, .int .i64 p.bt] 24 (0, 0))) := hide (fun wx hx => (hx.block N (Array.getElem?_eq_some_iff.1 HQ7.out).1).trans HQ7.out)
          have D1 : Hid (∀ wx, Below w7.heap.size w7 wx → Calls Tryd.prog 13 #[.agg #[.int .i64 p.ep, .slice q1 n1 d1, .slice q2 n2 d2, .slice q3 n3 d3, .slice q4 n4 d4, .slice pp (List.length ls) cc, .int .i64 p.dp, .int .i64 p.nd, .int .i64 p.bt]] wx fun e w' => e = .returned (.bool true) ∧ Below w7.heap.size w7 w') := hide (fun wx hx => by
            have := HR.out _ _ _ _ _ qp _ _ _ _ _ wx (PQ.out wx hx) FQ.out
            rw [MR.out.1] at this
            rw [hqp] at this
            exact this.mono fun _ _ ⟨h1, h2⟩ => ⟨h1, bel2 hx h2⟩)
          have D2 : Hid (∀ wx, Below w7.heap.size w7 wx → Calls Tryd.prog 22 #[.agg #[.int .i64 p.ep, .slice q1 n1 d1, .slice q2 n2 d2, .slice q3 n3 d3, .slice q4 n4 d4, .slice pp (List.length ls) cc, .int .i64 p.dp, .int .i64 p.nd, .int .i64 p.bt], .agg #[.int .i64 p.ep, .slice q1 n1 d1, .slice q2 n2 d2, .slice q3 n3 d3, .slice q4 n4 d4, .slice q5 n5 d5, .int .i64 p.dp, .int .i64 p.nd, .int .i64 p.bt]] wx fun e w' => e = .returned (.bool true) ∧ Below w7.heap.size w7 w') := hide (fun wx hx => by
            have := HST.out _ _ _ _ _ _ _ _ _ _ qp p _ _ _ _ _ _ _ _ _ _ wx (PQ.out wx hx) (HPV.out wx (H7.out.keep hx).2) FQ.out HF.out
            rw [MR.out.2.1] at this
            rw [hqp] at this
            exact this.mono fun _ _ ⟨h1, h2⟩ => ⟨h1, bel2 hx h2⟩)
          have D3 : Hid (∀ wx, Below w7.heap.size w7 wx → Calls Tryd.prog 22 #[.agg #[.int .i64 p.ep, .slice q1 n1 d1, .slice q2 n2 d2, .slice q3 n3 d3, .slice q4 n4 d4, .slice q5 n5 d5, .int .i64 p.dp, .int .i64 p.nd, .int .i64 p.bt], .agg #[.int .i64 p.ep, .slice q1 n1 d1, .slice q2 n2 d2, .slice q3 n3 d3, .slice q4 n4 d4, .slice pp (List.length ls) cc, .int .i64 p.dp, .int .i64 p.nd, .int .i64 p.bt]] wx fun e w' => e = .returned (.bool false) ∧ Below w7.heap.size w7 w') := hide (fun wx hx => by
            have := HST.out _ _ _ _ _ _ _ _ _ _ p qp _ _ _ _ _ _ _ _ _ _ wx (HPV.out wx (H7.out.keep hx).2) (PQ.out wx hx) HF.out FQ.out
            rw [MR.out.2.2] at this
            rw [hqp] at this
            exact this.mono fun _ _ ⟨h1, h2⟩ => ⟨h1, bel2 hx h2⟩)
          clear MR PQ FQ hqp HR HST HPV SK
          have hq0 := SQ.out _ (Below.refl w7.heap.size w7)
          have c0 := tag_cell hq0 0 _ rfl
          have c1 := tag_cell hq0 1 _ rfl
          have c2 := tag_cell hq0 2 _ rfl
          have c3 := tag_cell hq0 3 _ rfl
          have c4 := tag_cell hq0 4 _ rfl
          have c5 := tag_cell hq0 5 _ rfl
          have c6 := tag_cell hq0 6 _ rfl
          have c7 := tag_cell hq0 7 _ rfl
          have c8 := tag_cell hq0 8 _ rfl
          clear hq0
          go_wp2_with fail
          refine (D1.out _ (Below.refl w7.heap.size w7)).mono ?_
          rintro e x1 ⟨rfl, j1⟩
          have J1 := hide j1
          clear j1 D1 c0 c1 c2 c3 c4 c5 c6 c7 c8
          have hq0 := SQ.out _ J1.out
          have c0 := tag_cell hq0 0 _ rfl
          have c1 := tag_cell hq0 1 _ rfl
          have c2 := tag_cell hq0 2 _ rfl
          have c3 := tag_cell hq0 3 _ rfl
          have c4 := tag_cell hq0 4 _ rfl
          have c5 := tag_cell hq0 5 _ rfl
          have c6 := tag_cell hq0 6 _ rfl
          have c7 := tag_cell hq0 7 _ rfl
          have c8 := tag_cell hq0 8 _ rfl
          clear hq0
          obtain ⟨y0, y1, y2, y3, y4, y5, y6, y7, y8⟩ := SP.out _ J1.out
          go_wp2_with fail
          refine (D2.out _ J1.out).mono ?_
          rintro e x2 ⟨rfl, j2⟩
          have J2 := hide j2
          clear j2 D2 J1 c0 c1 c2 c3 c4 c5 c6 c7 c8 y0 y1 y2 y3 y4 y5 y6 y7 y8
          have hq0 := SQ.out _ J2.out
          have c0 := tag_cell hq0 0 _ rfl
          have c1 := tag_cell hq0 1 _ rfl
          have c2 := tag_cell hq0 2 _ rfl
          have c3 := tag_cell hq0 3 _ rfl
          have c4 := tag_cell hq0 4 _ rfl
          have c5 := tag_cell hq0 5 _ rfl
          have c6 := tag_cell hq0 6 _ rfl
          have c7 := tag_cell hq0 7 _ rfl
          have c8 := tag_cell hq0 8 _ rfl
          clear hq0
          obtain ⟨y0, y1, y2, y3, y4, y5, y6, y7, y8⟩ := SP.out _ J2.out
          go_wp2_with fail
          refine (D3.out _ J2.out).mono ?_
          rintro e x3 ⟨rfl, j3⟩
          have J3 := hide j3
          clear j3 D3 J2 c0 c1 c2 c3 c4 c5 c6 c7 c8 y0 y1 y2 y3 y4 y5 y6 y7 y8 SP SQ
          go_wp2_with fail
          go_ret
          exact ⟨rfl, bel2 H7.out.2 J3.out⟩
      by_cases w3 : wh = 3
      · subst w3
        obtain ⟨bt1, bt2⟩ := HRP.out.c.2.2.2
        by_cases hn : ¬ 1 < p.bt
        · have g0 : decide ((1 : Int) < p.bt) = false := decide_eq_false hn
          have HMQ : Hid (right ⟨p.ep, p.el, p.at_, p.sc, p.cl, p.pr, p.dp, p.nd, max (p.bt - 1) 1⟩ = true ∧ stricter ⟨p.ep, p.el, p.at_, p.sc, p.cl, p.pr, p.dp, p.nd, max (p.bt - 1) 1⟩ p = true ∧ stricter p ⟨p.ep, p.el, p.at_, p.sc, p.cl, p.pr, p.dp, p.nd, max (p.bt - 1) 1⟩ = true) := hide ⟨(fewer_bt HRP.out).1, (fewer_bt HRP.out).2.1, (fewer_bt HRP.out).2.2.1 hn⟩
          have cF := tag_cell HQ5.out 8 _ rfl
          have zF := Go.Joins.unfrozen_of_block HQ5.out 8
          obtain ⟨w7, hw7⟩ : ∃ w7, w7 = w5.setCell ⟨N, 8, none⟩ (.int .i64 (max (p.bt - 1) 1)) := ⟨_, rfl⟩
          have HQ7 : Hid (w7.heap[N]? = some (.cells #[.int .i64 p.ep, .slice q1 n1 d1, .slice q2 n2 d2, .slice q3 n3 d3, .slice q4 n4 d4, .slice q5 n5 d5, .int .i64 p.dp, .int .i64 p.nd, .int .i64 (max (p.bt - 1) 1)] 24 (0, 0))) := hide (by rw [hw7]; exact heap_setCell_same _ N 8 _ _ _ HQ5.out)
          have H7 : Hid (BoxP w A w7) := hide (by
            rw [hw7]
            exact ⟨(Below.heap_setCell _ _ _ _ (by show w.heap.size ≠ N; have := HNW.out; omega)).trans H5.out.1, H5.out.2.setCell (by show w.heap.size ≤ N; have := HNW.out; omega) _⟩)
          clear hn
          go_upto_region 21 with fail
          rw [← hw7]
          clear hw7 cF zF HQ5 H5 y0 y1 y2 y3 y4 y5 y6 y7 y8
          obtain ⟨qp, hqp⟩ : ∃ qp : Pol, qp = ⟨p.ep, p.el, p.at_, p.sc, p.cl, p.pr, p.dp, p.nd, max (p.bt - 1) 1⟩ := ⟨_, rfl⟩
          have FQ : Hid (fits qp) := hide (by rw [hqp]; exact (fun l hl => HF.out l hl))
          have MR : Hid (right qp = true ∧ stricter qp p = true ∧ stricter p qp = true) := hide (by rw [hqp]; exact ⟨HMQ.out.1, HMQ.out.2.1, HMQ.out.2.2⟩)
          have PQ : Hid (∀ wx, Below w7.heap.size w7 wx → PolV wx (.slice q1 n1 d1) (.slice q2 n2 d2) (.slice q3 n3 d3) (.slice q4 n4 d4) (.slice q5 n5 d5) qp l1 l2 l3 l4 l5) := hide (fun wx hx => by
            have hpv := HPV.out w7 H7.out.2
            have h0 : PolV w7 (.slice q1 n1 d1) (.slice q2 n2 d2) (.slice q3 n3 d3) (.slice q4 n4 d4) (.slice q5 n5 d5) qp l1 l2 l3 l4 l5 := by rw [hqp]; exact ⟨hpv.s1, hpv.s2, hpv.s3, hpv.s4, hpv.s5, hpv.e1, hpv.e2, hpv.e3, hpv.e4, hpv.e5, hpv.g⟩
            exact h0.below hx)
          have SP : Hid (∀ wx, Below w7.heap.size w7 wx → wx.cell? ⟨w.heap.size, 0, none⟩ = some (.int .i64 p.ep) ∧ wx.cell? ⟨w.heap.size, 1, none⟩ = some (.slice q1 n1 d1) ∧ wx.cell? ⟨w.heap.size, 2, none⟩ = some (.slice q2 n2 d2) ∧ wx.cell? ⟨w.heap.size, 3, none⟩ = some (.slice q3 n3 d3) ∧ wx.cell? ⟨w.heap.size, 4, none⟩ = some (.slice q4 n4 d4) ∧ wx.cell? ⟨w.heap.size, 5, none⟩ = some (.slice q5 n5 d5) ∧ wx.cell? ⟨w.heap.size, 6, none⟩ = some (.int .i64 p.dp) ∧ wx.cell? ⟨w.heap.size, 7, none⟩ = some (.int .i64 p.nd) ∧ wx.cell? ⟨w.heap.size, 8, none⟩ = some (.int .i64 p.bt)) := hide (fun wx hx => SK.out wx (H7.out.keep hx))
          have SQ : Hid (∀ wx, Below w7.heap.size w7 wx → wx.heap[N]? = some (.cells #[.int .i64 p.ep, .slice q1 n1 d1, .slice q2 n2 d2, .slice q3 n3 d3, .slice q4 n4 d4, .slice q5 n5 d5, .int .i64 p.dp, .int .i64 p.nd, .int .i64 (max (p.bt - 1) 1)] 24 (0, 0))) := hide (fun wx hx => (hx.block N (Array.getElem?_eq_some_iff.1 HQ7.out).1).trans HQ7.out)
          have D1 : Hid (∀ wx, Below w7.heap.size w7 wx → Calls Tryd.prog 13 #[.agg #[.int .i64 p.ep, .slice q1 n1 d1, .slice q2 n2 d2, .slice q3 n3 d3, .slice q4 n4 d4, .slice q5 n5 d5, .int .i64 p.dp, .int .i64 p.nd, .int .i64 (max (p.bt - 1) 1)]] wx fun e w' => e = .returned (.bool true) ∧ Below w7.heap.size w7 w') := hide (fun wx hx => by
            have := HR.out _ _ _ _ _ qp _ _ _ _ _ wx (PQ.out wx hx) FQ.out
            rw [MR.out.1] at this
            rw [hqp] at this
            exact this.mono fun _ _ ⟨h1, h2⟩ => ⟨h1, bel2 hx h2⟩)
          have D2 : Hid (∀ wx, Below w7.heap.size w7 wx → Calls Tryd.prog 22 #[.agg #[.int .i64 p.ep, .slice q1 n1 d1, .slice q2 n2 d2, .slice q3 n3 d3, .slice q4 n4 d4, .slice q5 n5 d5, .int .i64 p.dp, .int .i64 p.nd, .int .i64 (max (p.bt - 1) 1)], .agg #[.int .i64 p.ep, .slice q1 n1 d1, .slice q2 n2 d2, .slice q3 n3 d3, .slice q4 n4 d4, .slice q5 n5 d5, .int .i64 p.dp, .int .i64 p.nd, .int .i64 p.bt]] wx fun e w' => e = .returned (.bool true) ∧ Below w7.heap.size w7 w') := hide (fun wx hx => by
            have := HST.out _ _ _ _ _ _ _ _ _ _ qp p _ _ _ _ _ _ _ _ _ _ wx (PQ.out wx hx) (HPV.out wx (H7.out.keep hx).2) FQ.out HF.out
            rw [MR.out.2.1] at this
            rw [hqp] at this
            exact this.mono fun _ _ ⟨h1, h2⟩ => ⟨h1, bel2 hx h2⟩)
          have D3 : Hid (∀ wx, Below w7.heap.size w7 wx → Calls Tryd.prog 22 #[.agg #[.int .i64 p.ep, .slice q1 n1 d1, .slice q2 n2 d2, .slice q3 n3 d3, .slice q4 n4 d4, .slice q5 n5 d5, .int .i64 p.dp, .int .i64 p.nd, .int .i64 p.bt], .agg #[.int .i64 p.ep, .slice q1 n1 d1, .slice q2 n2 d2, .slice q3 n3 d3, .slice q4 n4 d4, .slice q5 n5 d5, .int .i64 p.dp, .int .i64 p.nd, .int .i64 (max (p.bt - 1) 1)]] wx fun e w' => e = .returned (.bool true) ∧ Below w7.heap.size w7 w') := hide (fun wx hx => by
            have := HST.out _ _ _ _ _ _ _ _ _ _ p qp _ _ _ _ _ _ _ _ _ _ wx (HPV.out wx (H7.out.keep hx).2) (PQ.out wx hx) HF.out FQ.out
            rw [MR.out.2.2] at this
            rw [hqp] at this
            exact this.mono fun _ _ ⟨h1, h2⟩ => ⟨h1, bel2 hx h2⟩)
          clear MR PQ FQ hqp HR HST HPV SK
          have hq0 := SQ.out _ (Below.refl w7.heap.size w7)
          have c0 := tag_cell hq0 0 _ rfl
          have c1 := tag_cell hq0 1 _ rfl
          have c2 := tag_cell hq0 2 _ rfl
          have c3 := tag_cell hq0 3 _ rfl
          have c4 := tag_cell hq0 4 _ rfl
          have c5 := tag_cell hq0 5 _ rfl
          have c6 := tag_cell hq0 6 _ rfl
          have c7 := tag_cell hq0 7 _ rfl
          have c8 := tag_cell hq0 8 _ rfl
          clear hq0
          go_wp2_with fail
          refine (D1.out _ (Below.refl w7.heap.size w7)).mono ?_
          rintro e x1 ⟨rfl, j1⟩
          have J1 := hide j1
          clear j1 D1 c0 c1 c2 c3 c4 c5 c6 c7 c8
          have hq0 := SQ.out _ J1.out
          have c0 := tag_cell hq0 0 _ rfl
          have c1 := tag_cell hq0 1 _ rfl
          have c2 := tag_cell hq0 2 _ rfl
          have c3 := tag_cell hq0 3 _ rfl
          have c4 := tag_cell hq0 4 _ rfl
          have c5 := tag_cell hq0 5 _ rfl
          have c6 := tag_cell hq0 6 _ rfl
          have c7 := tag_cell hq0 7 _ rfl
          have c8 := tag_cell hq0 8 _ rfl
          clear hq0
          obtain ⟨y0, y1, y2, y3, y4, y5, y6, y7, y8⟩ := SP.out _ J1.out
          go_wp2_with fail
          refine (D2.out _ J1.out).mono ?_
          rintro e x2 ⟨rfl, j2⟩
          have J2 := hide j2
          clear j2 D2 J1 c0 c1 c2 c3 c4 c5 c6 c7 c8 y0 y1 y2 y3 y4 y5 y6 y7 y8
          have hq0 := SQ.out _ J2.out
          have c0 := tag_cell hq0 0 _ rfl
          have c1 := tag_cell hq0 1 _ rfl
          have c2 := tag_cell hq0 2 _ rfl
          have c3 := tag_cell hq0 3 _ rfl
          have c4 := tag_cell hq0 4 _ rfl
          have c5 := tag_cell hq0 5 _ rfl
          have c6 := tag_cell hq0 6 _ rfl
          have c7 := tag_cell hq0 7 _ rfl
          have c8 := tag_cell hq0 8 _ rfl
          clear hq0
          obtain ⟨y0, y1, y2, y3, y4, y5, y6, y7, y8⟩ := SP.out _ J2.out
          go_wp2_with fail
          refine (D3.out _ J2.out).mono ?_
          rintro e x3 ⟨rfl, j3⟩
          have J3 := hide j3
          clear j3 D3 J2 c0 c1 c2 c3 c4 c5 c6 c7 c8 y0 y1 y2 y3 y4 y5 y6 y7 y8 SP SQ
          go_wp2_with fail
          go_ret
          exact ⟨rfl, bel2 H7.out.2 J3.out⟩
        · have hn : 1 < p.bt := Classical.not_not.1 hn
          have g0 : decide ((1 : Int) < p.bt) = true := decide_eq_true hn
          have HMQ : Hid (right ⟨p.ep, p.el, p.at_, p.sc, p.cl, p.pr, p.dp, p.nd, max (p.bt - 1) 1⟩ = true ∧ stricter ⟨p.ep, p.el, p.at_, p.sc, p.cl, p.pr, p.dp, p.nd, max (p.bt - 1) 1⟩ p = true ∧ stricter p ⟨p.ep, p.el, p.at_, p.sc, p.cl, p.pr, p.dp, p.nd, max (p.bt - 1) 1⟩ = false) := hide ⟨(fewer_bt HRP.out).1, (fewer_bt HRP.out).2.1, (fewer_bt HRP.out).2.2.2 hn⟩
          have cF := tag_cell HQ5.out 8 _ rfl
          have zF := Go.Joins.unfrozen_of_block HQ5.out 8
          obtain ⟨w7, hw7⟩ : ∃ w7, w7 = w5.setCell ⟨N, 8, none⟩ (.int .i64 (max (p.bt - 1) 1)) := ⟨_, rfl⟩
          have HQ7 : Hid (w7.heap[N]? = some (.cells #[.int .i64 p.ep, .slice q1 n1 d1, .slice q2 n2 d2, .slice q3 n3 d3, .slice q4 n4 d4, .slice q5 n5 d5, .int .i64 p.dp, .int .i64 p.nd, .int .i64 (max (p.bt - 1) 1)] 24 (0, 0))) := hide (by rw [hw7]; exact heap_setCell_same _ N 8 _ _ _ HQ5.out)
          have H7 : Hid (BoxP w A w7) := hide (by
            rw [hw7]
            exact ⟨(Below.heap_setCell _ _ _ _ (by show w.heap.size ≠ N; have := HNW.out; omega)).trans H5.out.1, H5.out.2.setCell (by show w.heap.size ≤ N; have := HNW.out; omega) _⟩)
          clear hn
          go_upto_region 21 with fail
          rw [← hw7]
          clear hw7 cF zF HQ5 H5 y0 y1 y2 y3 y4 y5 y6 y7 y8
          obtain ⟨qp, hqp⟩ : ∃ qp : Pol, qp = ⟨p.ep, p.el, p.at_, p.sc, p.cl, p.pr, p.dp, p.nd, max (p.bt - 1) 1⟩ := ⟨_, rfl⟩
          have FQ : Hid (fits qp) := hide (by rw [hqp]; exact (fun l hl => HF.out l hl))
          have MR : Hid (right qp = true ∧ stricter qp p = true ∧ stricter p qp = false) := hide (by rw [hqp]; exact ⟨HMQ.out.1, HMQ.out.2.1, HMQ.out.2.2⟩)
          have PQ : Hid (∀ wx, Below w7.heap.size w7 wx → PolV wx (.slice q1 n1 d1) (.slice q2 n2 d2) (.slice q3 n3 d3) (.slice q4 n4 d4) (.slice q5 n5 d5) qp l1 l2 l3 l4 l5) := hide (fun wx hx => by
            have hpv := HPV.out w7 H7.out.2
            have h0 : PolV w7 (.slice q1 n1 d1) (.slice q2 n2 d2) (.slice q3 n3 d3) (.slice q4 n4 d4) (.slice q5 n5 d5) qp l1 l2 l3 l4 l5 := by rw [hqp]; exact ⟨hpv.s1, hpv.s2, hpv.s3, hpv.s4, hpv.s5, hpv.e1, hpv.e2, hpv.e3, hpv.e4, hpv.e5, hpv.g⟩
            exact h0.below hx)
          have SP : Hid (∀ wx, Below w7.heap.size w7 wx → wx.cell? ⟨w.heap.size, 0, none⟩ = some (.int .i64 p.ep) ∧ wx.cell? ⟨w.heap.size, 1, none⟩ = some (.slice q1 n1 d1) ∧ wx.cell? ⟨w.heap.size, 2, none⟩ = some (.slice q2 n2 d2) ∧ wx.cell? ⟨w.heap.size, 3, none⟩ = some (.slice q3 n3 d3) ∧ wx.cell? ⟨w.heap.size, 4, none⟩ = some (.slice q4 n4 d4) ∧ wx.cell? ⟨w.heap.size, 5, none⟩ = some (.slice q5 n5 d5) ∧ wx.cell? ⟨w.heap.size, 6, none⟩ = some (.int .i64 p.dp) ∧ wx.cell? ⟨w.heap.size, 7, none⟩ = some (.int .i64 p.nd) ∧ wx.cell? ⟨w.heap.size, 8, none⟩ = some (.int .i64 p.bt)) := hide (fun wx hx => SK.out wx (H7.out.keep hx))
          have SQ : Hid (∀ wx, Below w7.heap.size w7 wx → wx.heap[N]? = some (.cells #[.int .i64 p.ep, .slice q1 n1 d1, .slice q2 n2 d2, .slice q3 n3 d3, .slice q4 n4 d4, .slice q5 n5 d5, .int .i64 p.dp, .int .i64 p.nd, .int .i64 (max (p.bt - 1) 1)] 24 (0, 0))) := hide (fun wx hx => (hx.block N (Array.getElem?_eq_some_iff.1 HQ7.out).1).trans HQ7.out)
          have D1 : Hid (∀ wx, Below w7.heap.size w7 wx → Calls Tryd.prog 13 #[.agg #[.int .i64 p.ep, .slice q1 n1 d1, .slice q2 n2 d2, .slice q3 n3 d3, .slice q4 n4 d4, .slice q5 n5 d5, .int .i64 p.dp, .int .i64 p.nd, .int .i64 (max (p.bt - 1) 1)]] wx fun e w' => e = .returned (.bool true) ∧ Below w7.heap.size w7 w') := hide (fun wx hx => by
            have := HR.out _ _ _ _ _ qp _ _ _ _ _ wx (PQ.out wx hx) FQ.out
            rw [MR.out.1] at this
            rw [hqp] at this
            exact this.mono fun _ _ ⟨h1, h2⟩ => ⟨h1, bel2 hx h2⟩)
          have D2 : Hid (∀ wx, Below w7.heap.size w7 wx → Calls Tryd.prog 22 #[.agg #[.int .i64 p.ep, .slice q1 n1 d1, .slice q2 n2 d2, .slice q3 n3 d3, .slice q4 n4 d4, .slice q5 n5 d5, .int .i64 p.dp, .int .i64 p.nd, .int .i64 (max (p.bt - 1) 1)], .agg #[.int .i64 p.ep, .slice q1 n1 d1, .slice q2 n2 d2, .slice q3 n3 d3, .slice q4 n4 d4, .slice q5 n5 d5, .int .i64 p.dp, .int .i64 p.nd, .int .i64 p.bt]] wx fun e w' => e = .returned (.bool true) ∧ Below w7.heap.size w7 w') := hide (fun wx hx => by
            have := HST.out _ _ _ _ _ _ _ _ _ _ qp p _ _ _ _ _ _ _ _ _ _ wx (PQ.out wx hx) (HPV.out wx (H7.out.keep hx).2) FQ.out HF.out
            rw [MR.out.2.1] at this
            rw [hqp] at this
            exact this.mono fun _ _ ⟨h1, h2⟩ => ⟨h1, bel2 hx h2⟩)
          have D3 : Hid (∀ wx, Below w7.heap.size w7 wx → Calls Tryd.prog 22 #[.agg #[.int .i64 p.ep, .slice q1 n1 d1, .slice q2 n2 d2, .slice q3 n3 d3, .slice q4 n4 d4, .slice q5 n5 d5, .int .i64 p.dp, .int .i64 p.nd, .int .i64 p.bt], .agg #[.int .i64 p.ep, .slice q1 n1 d1, .slice q2 n2 d2, .slice q3 n3 d3, .slice q4 n4 d4, .slice q5 n5 d5, .int .i64 p.dp, .int .i64 p.nd, .int .i64 (max (p.bt - 1) 1)]] wx fun e w' => e = .returned (.bool false) ∧ Below w7.heap.size w7 w') := hide (fun wx hx => by
            have := HST.out _ _ _ _ _ _ _ _ _ _ p qp _ _ _ _ _ _ _ _ _ _ wx (HPV.out wx (H7.out.keep hx).2) (PQ.out wx hx) HF.out FQ.out
            rw [MR.out.2.2] at this
            rw [hqp] at this
            exact this.mono fun _ _ ⟨h1, h2⟩ => ⟨h1, bel2 hx h2⟩)
          clear MR PQ FQ hqp HR HST HPV SK
          have hq0 := SQ.out _ (Below.refl w7.heap.size w7)
          have c0 := tag_cell hq0 0 _ rfl
          have c1 := tag_cell hq0 1 _ rfl
          have c2 := tag_cell hq0 2 _ rfl
          have c3 := tag_cell hq0 3 _ rfl
          have c4 := tag_cell hq0 4 _ rfl
          have c5 := tag_cell hq0 5 _ rfl
          have c6 := tag_cell hq0 6 _ rfl
          have c7 := tag_cell hq0 7 _ rfl
          have c8 := tag_cell hq0 8 _ rfl
          clear hq0
          go_wp2_with fail
          refine (D1.out _ (Below.refl w7.heap.size w7)).mono ?_
          rintro e x1 ⟨rfl, j1⟩
          have J1 := hide j1
          clear j1 D1 c0 c1 c2 c3 c4 c5 c6 c7 c8
          have hq0 := SQ.out _ J1.out
          have c0 := tag_cell hq0 0 _ rfl
          have c1 := tag_cell hq0 1 _ rfl
          have c2 := tag_cell hq0 2 _ rfl
          have c3 := tag_cell hq0 3 _ rfl
          have c4 := tag_cell hq0 4 _ rfl
          have c5 := tag_cell hq0 5 _ rfl
          have c6 := tag_cell hq0 6 _ rfl
          have c7 := tag_cell hq0 7 _ rfl
          have c8 := tag_cell hq0 8 _ rfl
          clear hq0
          obtain ⟨y0, y1, y2, y3, y4, y5, y6, y7, y8⟩ := SP.out _ J1.out
          go_wp2_with fail
          refine (D2.out _ J1.out).mono ?_
          rintro e x2 ⟨rfl, j2⟩
          have J2 := hide j2
          clear j2 D2 J1 c0 c1 c2 c3 c4 c5 c6 c7 c8 y0 y1 y2 y3 y4 y5 y6 y7 y8
          have hq0 := SQ.out _ J2.out
          have c0 := tag_cell hq0 0 _ rfl
          have c1 := tag_cell hq0 1 _ rfl
          have c2 := tag_cell hq0 2 _ rfl
          have c3 := tag_cell hq0 3 _ rfl
          have c4 := tag_cell hq0 4 _ rfl
          have c5 := tag_cell hq0 5 _ rfl
          have c6 := tag_cell hq0 6 _ rfl
          have c7 := tag_cell hq0 7 _ rfl
          have c8 := tag_cell hq0 8 _ rfl
          clear hq0
          obtain ⟨y0, y1, y2, y3, y4, y5, y6, y7, y8⟩ := SP.out _ J2.out
          go_wp2_with fail
          refine (D3.out _ J2.out).mono ?_
          rintro e x3 ⟨rfl, j3⟩
          have J3 := hide j3
          clear j3 D3 J2 c0 c1 c2 c3 c4 c5 c6 c7 c8 y0 y1 y2 y3 y4 y5 y6 y7 y8 SP SQ
          go_wp2_with fail
          go_ret
          exact ⟨rfl, bel2 H7.out.2 J3.out⟩
      have f0 : (wh == 0) = false := beq_eq_false_iff_ne.2 w0
      have f1 : (wh == 1) = false := beq_eq_false_iff_ne.2 w1
      have f2 : (wh == 2) = false := beq_eq_false_iff_ne.2 w2
      have f3 : (wh == 3) = false := beq_eq_false_iff_ne.2 w3
      have HMQ : Hid (right p = true ∧ stricter p p = true ∧ stricter p p = true) := hide ⟨(Pol8.right_iff p).2 HRP.out, (str_iff p p).2 (str_refl p), (str_iff p p).2 (str_refl p)⟩
      clear w0 w1 w2 w3
      go_upto_region 21 with fail
      clear y0 y1 y2 y3 y4 y5 y6 y7 y8
      obtain ⟨qp, hqp⟩ : ∃ qp : Pol, qp = p := ⟨_, rfl⟩
      have FQ : Hid (fits qp) := hide (by rw [hqp]; exact HF.out)
      have MR : Hid (right qp = true ∧ stricter qp p = true ∧ stricter p qp = true) := hide (by rw [hqp]; exact ⟨HMQ.out.1, HMQ.out.2.1, HMQ.out.2.2⟩)
      have PQ : Hid (∀ wx, Below w5.heap.size w5 wx → PolV wx (.slice q1 n1 d1) (.slice q2 n2 d2) (.slice q3 n3 d3) (.slice q4 n4 d4) (.slice q5 n5 d5) qp l1 l2 l3 l4 l5) := hide (fun wx hx => by
        have hpv := HPV.out w5 H5.out.2
        have h0 : PolV w5 (.slice q1 n1 d1) (.slice q2 n2 d2) (.slice q3 n3 d3) (.slice q4 n4 d4) (.slice q5 n5 d5) qp l1 l2 l3 l4 l5 := by rw [hqp]; exact hpv
        exact h0.below hx)
      have SP : Hid (∀ wx, Below w5.heap.size w5 wx → wx.cell? ⟨w.heap.size, 0, none⟩ = some (.int .i64 p.ep) ∧ wx.cell? ⟨w.heap.size, 1, none⟩ = some (.slice q1 n1 d1) ∧ wx.cell? ⟨w.heap.size, 2, none⟩ = some (.slice q2 n2 d2) ∧ wx.cell? ⟨w.heap.size, 3, none⟩ = some (.slice q3 n3 d3) ∧ wx.cell? ⟨w.heap.size, 4, none⟩ = some (.slice q4 n4 d4) ∧ wx.cell? ⟨w.heap.size, 5, none⟩ = some (.slice q5 n5 d5) ∧ wx.cell? ⟨w.heap.size, 6, none⟩ = some (.int .i64 p.dp) ∧ wx.cell? ⟨w.heap.size, 7, none⟩ = some (.int .i64 p.nd) ∧ wx.cell? ⟨w.heap.size, 8, none⟩ = some (.int .i64 p.bt)) := hide (fun wx hx => SK.out wx (H5.out.keep hx))
      have SQ : Hid (∀ wx, Below w5.heap.size w5 wx → wx.heap[N]? = some (.cells #[.int .i64 p.ep, .slice q1 n1 d1, .slice q2 n2 d2, .slice q3 n3 d3, .slice q4 n4 d4, .slice q5 n5 d5, .int .i64 p.dp, .int .i64 p.nd, .int .i64 p.bt] 24 (0, 0))) := hide (fun wx hx => (hx.block N (Array.getElem?_eq_some_iff.1 HQ5.out).1).trans HQ5.out)
      have D1 : Hid (∀ wx, Below w5.heap.size w5 wx → Calls Tryd.prog 13 #[.agg #[.int .i64 p.ep, .slice q1 n1 d1, .slice q2 n2 d2, .slice q3 n3 d3, .slice q4 n4 d4, .slice q5 n5 d5, .int .i64 p.dp, .int .i64 p.nd, .int .i64 p.bt]] wx fun e w' => e = .returned (.bool true) ∧ Below w5.heap.size w5 w') := hide (fun wx hx => by
        have := HR.out _ _ _ _ _ qp _ _ _ _ _ wx (PQ.out wx hx) FQ.out
        rw [MR.out.1] at this
        rw [hqp] at this
        exact this.mono fun _ _ ⟨h1, h2⟩ => ⟨h1, bel2 hx h2⟩)
      have D2 : Hid (∀ wx, Below w5.heap.size w5 wx → Calls Tryd.prog 22 #[.agg #[.int .i64 p.ep, .slice q1 n1 d1, .slice q2 n2 d2, .slice q3 n3 d3, .slice q4 n4 d4, .slice q5 n5 d5, .int .i64 p.dp, .int .i64 p.nd, .int .i64 p.bt], .agg #[.int .i64 p.ep, .slice q1 n1 d1, .slice q2 n2 d2, .slice q3 n3 d3, .slice q4 n4 d4, .slice q5 n5 d5, .int .i64 p.dp, .int .i64 p.nd, .int .i64 p.bt]] wx fun e w' => e = .returned (.bool true) ∧ Below w5.heap.size w5 w') := hide (fun wx hx => by
        have := HST.out _ _ _ _ _ _ _ _ _ _ qp p _ _ _ _ _ _ _ _ _ _ wx (PQ.out wx hx) (HPV.out wx (H5.out.keep hx).2) FQ.out HF.out
        rw [MR.out.2.1] at this
        rw [hqp] at this
        exact this.mono fun _ _ ⟨h1, h2⟩ => ⟨h1, bel2 hx h2⟩)
      have D3 : Hid (∀ wx, Below w5.heap.size w5 wx → Calls Tryd.prog 22 #[.agg #[.int .i64 p.ep, .slice q1 n1 d1, .slice q2 n2 d2, .slice q3 n3 d3, .slice q4 n4 d4, .slice q5 n5 d5, .int .i64 p.dp, .int .i64 p.nd, .int .i64 p.bt], .agg #[.int .i64 p.ep, .slice q1 n1 d1, .slice q2 n2 d2, .slice q3 n3 d3, .slice q4 n4 d4, .slice q5 n5 d5, .int .i64 p.dp, .int .i64 p.nd, .int .i64 p.bt]] wx fun e w' => e = .returned (.bool true) ∧ Below w5.heap.size w5 w') := hide (fun wx hx => by
        have := HST.out _ _ _ _ _ _ _ _ _ _ p qp _ _ _ _ _ _ _ _ _ _ wx (HPV.out wx (H5.out.keep hx).2) (PQ.out wx hx) HF.out FQ.out
        rw [MR.out.2.2] at this
        rw [hqp] at this
        exact this.mono fun _ _ ⟨h1, h2⟩ => ⟨h1, bel2 hx h2⟩)
      clear MR PQ FQ hqp HR HST HPV SK
      have hq0 := SQ.out _ (Below.refl w5.heap.size w5)
      have c0 := tag_cell hq0 0 _ rfl
      have c1 := tag_cell hq0 1 _ rfl
      have c2 := tag_cell hq0 2 _ rfl
      have c3 := tag_cell hq0 3 _ rfl
      have c4 := tag_cell hq0 4 _ rfl
      have c5 := tag_cell hq0 5 _ rfl
      have c6 := tag_cell hq0 6 _ rfl
      have c7 := tag_cell hq0 7 _ rfl
      have c8 := tag_cell hq0 8 _ rfl
      clear hq0
      go_wp2_with fail
      refine (D1.out _ (Below.refl w5.heap.size w5)).mono ?_
      rintro e x1 ⟨rfl, j1⟩
      have J1 := hide j1
      clear j1 D1 c0 c1 c2 c3 c4 c5 c6 c7 c8
      have hq0 := SQ.out _ J1.out
      have c0 := tag_cell hq0 0 _ rfl
      have c1 := tag_cell hq0 1 _ rfl
      have c2 := tag_cell hq0 2 _ rfl
      have c3 := tag_cell hq0 3 _ rfl
      have c4 := tag_cell hq0 4 _ rfl
      have c5 := tag_cell hq0 5 _ rfl
      have c6 := tag_cell hq0 6 _ rfl
      have c7 := tag_cell hq0 7 _ rfl
      have c8 := tag_cell hq0 8 _ rfl
      clear hq0
      obtain ⟨y0, y1, y2, y3, y4, y5, y6, y7, y8⟩ := SP.out _ J1.out
      go_wp2_with fail
      refine (D2.out _ J1.out).mono ?_
      rintro e x2 ⟨rfl, j2⟩
      have J2 := hide j2
      clear j2 D2 J1 c0 c1 c2 c3 c4 c5 c6 c7 c8 y0 y1 y2 y3 y4 y5 y6 y7 y8
      have hq0 := SQ.out _ J2.out
      have c0 := tag_cell hq0 0 _ rfl
      have c1 := tag_cell hq0 1 _ rfl
      have c2 := tag_cell hq0 2 _ rfl
      have c3 := tag_cell hq0 3 _ rfl
      have c4 := tag_cell hq0 4 _ rfl
      have c5 := tag_cell hq0 5 _ rfl
      have c6 := tag_cell hq0 6 _ rfl
      have c7 := tag_cell hq0 7 _ rfl
      have c8 := tag_cell hq0 8 _ rfl
      clear hq0
      obtain ⟨y0, y1, y2, y3, y4, y5, y6, y7, y8⟩ := SP.out _ J2.out
      go_wp2_with fail
      refine (D3.out _ J2.out).mono ?_
      rintro e x3 ⟨rfl, j3⟩
      have J3 := hide j3
      clear j3 D3 J2 c0 c1 c2 c3 c4 c5 c6 c7 c8 y0 y1 y2 y3 y4 y5 y6 y7 y8 SP SQ
      go_wp2_with fail
      go_ret
      exact ⟨rfl, bel2 H5.out.2 J3.out⟩
end Go.Proofs.YteglmpaapcgfbaaDoor
