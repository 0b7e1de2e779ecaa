/-
  The law PolicyNever.
-/
import Derived.Test.YteglmpaapcgfbabDoorR6
import Derived.Test.YteglmpaapcgfbabDoorR10
import Derived.Laws.Rows
namespace Go.Proofs.YteglmpaapcgfbabDoor
open Go.RowKit
open Utf1 Pol8

theorem never_el {e : Int} {x : L} {s c r : List L} {d n b : Int} (h : never x = true) : right ⟨e, [x], [], s, c, r, d, n, b⟩ = false := by
  cases hr : right ⟨e, [x], [], s, c, r, d, n, b⟩
  · rfl
  · exact absurd (List.mem_singleton.2 rfl) (never_not ((Pol8.right_iff _).1 hr) h)
theorem on_false {e : Int} {x : L} {l s c r : List L} {d n b : Int} {m : L} (h : x = [42, 46, 111, 110] ++ m) : right ⟨e, l, [x], s, c, r, d, n, b⟩ = false :=
  not_right_attr (a := x) (List.mem_singleton.2 rfl) (by rw [h]; exact on_not _ _)
theorem style_false {e : Int} {l s c r : List L} {d n b : Int} : right ⟨e, l, [bl ⟨#[42, 46, 115, 116, 121, 108, 101]⟩], s, c, r, d, n, b⟩ = false :=
  not_right_attr (a := bl ⟨#[42, 46, 115, 116, 121, 108, 101]⟩) (List.mem_singleton.2 rfl) (style_not _)
theorem below_setRow {B : Nat} {a w : World} (h : Below B a w) {g : Nat} (hg : B ≤ g) (cs : Array Value) : Below B a (w.setRow g cs) :=
  ⟨h.os, h.tape, h.output, by rw [size_setRow]; exact h.size, fun k hk => (setRow_other w g k cs (by omega)).trans (h.block k hk)⟩
theorem strArg_setCell {w : World} {p : Option Addr} {n c : Nat} {ss : List ByteArray} {a : Addr} (h : StrArg w (.slice p n c) ss) (hb : ∀ b off, p = some ⟨b, off, none⟩ → b ≠ a.block) (u : Value) : StrArg (w.setCell a u) (.slice p n c) ss := by
  obtain ⟨p', cap, e, h0, hc⟩ := h
  injection e with e1 e2 e3
  subst e1 e2 e3
  refine ⟨p, c, rfl, h0, fun i s hi => ?_⟩
  obtain ⟨b, off, hp, hcell⟩ := hc i s hi
  refine ⟨b, off, hp, ?_⟩
  unfold World.cell? at hcell ⊢
  rw [Below.heap_setCell _ _ _ _ (hb b off hp)]
  exact hcell
theorem fits_sub {p : Pol} {x : List L} {y : List L} (hf : fits p) (hx : ∀ z ∈ x, z.length ≤ 100000) (hxl : x.length ≤ 100000) (hy : ∀ z ∈ y, z.length ≤ 100000) (hyl : y.length ≤ 100000) : fits ⟨p.ep, x, y, p.sc, p.cl, p.pr, p.dp, p.nd, p.bt⟩ := by
  intro l hl
  simp only [List.mem_cons, List.not_mem_nil, or_false] at hl
  rcases hl with rfl | rfl | rfl | rfl | rfl
  · exact ⟨hxl, hx⟩
  · exact ⟨hyl, hy⟩
  · exact hf p.sc (by simp)
  · exact hf p.cl (by simp)
  · exact hf p.pr (by simp)

set_option maxRecDepth 100000 in
set_option maxHeartbeats 32000000 in
theorem lawNever_walk (hT : TextC) (hR : RightC) (hA : AttrC) (v1 v2 v3 v4 v5 : Value) (p : Pol) (l1 l2 l3 l4 l5 : List ByteArray) (name : ByteArray) (w : World) (hv : PolV w v1 v2 v3 v4 v5 p l1 l2 l3 l4 l5) :
    Calls Tryd.prog 3 #[pval p v1 v2 v3 v4 v5, .string name] w fun e w' => e = .returned (.bool true) ∧ Below w.heap.size w w' := by
  obtain ⟨q1, d1, rfl, -, -⟩ := id hv.s1
  obtain ⟨q2, d2, rfl, -, -⟩ := id hv.s2
  obtain ⟨q3, d3, rfl, -, -⟩ := id hv.s3
  obtain ⟨q4, d4, rfl, -, -⟩ := id hv.s4
  obtain ⟨q5, d5, rfl, -, -⟩ := id hv.s5
  generalize l1.length = n1 at hv ⊢
  generalize l2.length = n2 at hv ⊢
  generalize l3.length = n3 at hv ⊢
  generalize l4.length = n4 at hv ⊢
  generalize l5.length = n5 at hv ⊢
  obtain ⟨A, hAA⟩ : ∃ A : Array Value, A = #[.int .i64 p.ep, .slice q1 n1 d1, .slice q2 n2 d2, .slice q3 n3 d3, .slice q4 n4 d4, .slice q5 n5 d5, .int .i64 p.dp, .int .i64 p.nd, .int .i64 p.bt] := ⟨_, rfl⟩
  obtain ⟨w1, hw1⟩ : ∃ w1, w1 = w.alloc (.cells A 24) := ⟨_, rfl⟩
  have HN : Hid (BoxP w A w1) := hide (by rw [hw1]; exact ⟨new_block _ _ _, bel_alloc (Below.refl _ _) _⟩)
  have HV := hide hv
  have CW : Hid (∀ wx, BoxP w A wx → Calls Tryd.prog 4 #[] wx fun e w' => e = .returned (.bool true) ∧ BoxP w A w') := hide (fun wx h => (awake_any hT hR hA wx (hv.below h.2).g).mono fun e w' ⟨h1, h2⟩ => ⟨h1, h.keep h2⟩)
  have CL : Hid (∀ wx, BoxP w A wx → Calls Tryd.prog 5 #[pval p (.slice q1 n1 d1) (.slice q2 n2 d2) (.slice q3 n3 d3) (.slice q4 n4 d4) (.slice q5 n5 d5)] wx fun e w' => (∃ b : Bool, e = .returned (.bool b) ∧ (b = true → light p)) ∧ BoxP w A w') := hide (fun wx h => (rlight_any (.slice q1 n1 d1) (.slice q2 n2 d2) (.slice q3 n3 d3) (.slice q4 n4 d4) (.slice q5 n5 d5) p l1 l2 l3 l4 l5 wx (hv.below h.2)).mono fun e w' ⟨h1, h2⟩ => ⟨h1, h.keep h2⟩)
  have CR : Hid (fits p → ∀ wx, BoxP w A wx → Calls Tryd.prog 6 #[pval p (.slice q1 n1 d1) (.slice q2 n2 d2) (.slice q3 n3 d3) (.slice q4 n4 d4) (.slice q5 n5 d5)] wx fun e w' => e = .returned (.bool (right p)) ∧ BoxP w A w') := hide (fun hf wx h => (hR (.slice q1 n1 d1) (.slice q2 n2 d2) (.slice q3 n3 d3) (.slice q4 n4 d4) (.slice q5 n5 d5) p l1 l2 l3 l4 l5 wx (hv.below h.2) hf).mono fun e w' ⟨h1, h2⟩ => ⟨h1, h.keep h2⟩)
  have SK : Hid (∀ wx, BoxP w A wx → wx.cell? ⟨w.heap.size, 0, none⟩ = some (.int .i64 p.ep) ∧ wx.cell? ⟨w.heap.size, 1, none⟩ = some (.slice q1 n1 d1) ∧ wx.cell? ⟨w.heap.size, 2, none⟩ = some (.slice q2 n2 d2) ∧ wx.cell? ⟨w.heap.size, 3, none⟩ = some (.slice q3 n3 d3) ∧ wx.cell? ⟨w.heap.size, 4, none⟩ = some (.slice q4 n4 d4) ∧ wx.cell? ⟨w.heap.size, 5, none⟩ = some (.slice q5 n5 d5) ∧ wx.cell? ⟨w.heap.size, 6, none⟩ = some (.int .i64 p.dp) ∧ wx.cell? ⟨w.heap.size, 7, none⟩ = some (.int .i64 p.nd) ∧ wx.cell? ⟨w.heap.size, 8, none⟩ = some (.int .i64 p.bt)) := hide (fun wx h => ⟨h.cell 0 _ (by rw [hAA]; rfl), h.cell 1 _ (by rw [hAA]; rfl), h.cell 2 _ (by rw [hAA]; rfl), h.cell 3 _ (by rw [hAA]; rfl), h.cell 4 _ (by rw [hAA]; rfl), h.cell 5 _ (by rw [hAA]; rfl), h.cell 6 _ (by rw [hAA]; rfl), h.cell 7 _ (by rw [hAA]; rfl), h.cell 8 _ (by rw [hAA]; rfl)⟩)
  have HT := hide hT
  have HR := hide hR
  have HA := hide hAA
  rw [hAA] at hw1
  clear hT hR hA hv hAA
  go_enter Tryd.func3, Tryd.ntmps3
  go_upto_region 1 with fail
  rw [← hw1]
  clear hw1
  go_wp2_with fail
  refine (CW.out _ HN.out).mono ?_
  rintro e w2 ⟨rfl, h2⟩
  have H2 := hide h2
  clear h2 CW HN
  obtain ⟨y0, y1, y2, y3, y4, y5, y6, y7, y8⟩ := SK.out w2 H2.out
  go_wp2_with fail
  refine (CL.out _ H2.out).mono ?_
  rintro e w3 ⟨⟨b, rfl, hlight⟩, h3⟩
  have H3 := hide h3
  have HLI := hide hlight
  clear h3 hlight CL H2 y0 y1 y2 y3 y4 y5 y6 y7 y8
  cases b with
  | false =>
    clear CR HR HT SK
    go_wp2_with fail
    go_ret
    exact ⟨rfl, H3.out.2⟩
  | true =>
    have HF := hide (light_fits (HLI.out rfl))
    obtain ⟨y0, y1, y2, y3, y4, y5, y6, y7, y8⟩ := SK.out w3 H3.out
    cases hr : right p with
    | false =>
      rw [hr] at CR
      go_wp2_with fail
      refine (CR.out HF.out _ H3.out).mono ?_
      rintro e w4 ⟨rfl, h4⟩
      have H4 := hide h4
      clear h4 CR H3 y0 y1 y2 y3 y4 y5 y6 y7 y8 HR HT SK hr
      go_wp2_with fail
      go_ret
      exact ⟨rfl, H4.out.2⟩
    | true =>
      rw [hr] at CR
      have HRT := hide hr
      clear hr
      by_cases hs : name.size ≤ 100
      · have c7 := fun w => traw_any name w
        have f0 := eq_lit name [115, 118, 103]
        have f1 := eq_lit name [109, 97, 116, 104]
        have f2 := eq_lit name [102, 111, 114, 109]
        have f3 := eq_lit name [116, 101, 109, 112, 108, 97, 116, 101]
        have f4 := eq_lit name [111, 98, 106, 101, 99, 116]
        have f5 := eq_lit name [98, 97, 115, 101]
        go_wp2_with fail
        refine (CR.out HF.out _ H3.out).mono ?_
        rintro e w4 ⟨rfl, h4⟩
        have H4 := hide h4
        clear h4 CR H3 y0 y1 y2 y3 y4 y5 y6 y7 y8
        go_wp2_with fail
        refine (c7 _).mono ?_
        rintro e w4 ⟨⟨x, rfl⟩, rfl⟩
        clear c7
        generalize hrw : isRaw (bl name) = rw at *
        go_upto_region 6 with fail
        go_cut [9] from 32 to 56 (fun v9 wx => wx = w4 ∧ ∃ nv : Bool, v9 = .bool nv ∧ Hid (nv = true → never (bl name) = true))
        case first =>
          have HNV : Hid (rw = true ∨ bl name ∈ neverL → never (bl name) = true) := hide (fun h => by
            unfold never
            rcases h with h | h
            · rw [hrw, h]; rfl
            · rw [decide_eq_true h, Bool.or_true])
          clear hrw
          cases rw with
          | true =>
            have HY := hide (HNV.out (.inl rfl))
            clear HNV f0 f1 f2 f3 f4 f5
            go_wp2_with fail
            go_meet
            exact ⟨rfl, _, rfl, hide (fun _ => HY.out)⟩
          | false =>
            by_cases h0 : bl name = [115, 118, 103]
            · have HY : Hid (never (bl name) = true) := hide (HNV.out (.inr (by rw [h0]; decide)))
              rw [decide_eq_true h0] at f0
              clear HNV h0 f1 f2 f3 f4 f5
              go_wp2_with fail
              go_meet
              exact ⟨rfl, _, rfl, hide (fun _ => HY.out)⟩
            rw [decide_eq_false h0] at f0
            by_cases h1 : bl name = [109, 97, 116, 104]
            · have HY : Hid (never (bl name) = true) := hide (HNV.out (.inr (by rw [h1]; decide)))
              rw [decide_eq_true h1] at f1
              clear HNV h0 h1 f2 f3 f4 f5
              go_wp2_with fail
              go_meet
              exact ⟨rfl, _, rfl, hide (fun _ => HY.out)⟩
            rw [decide_eq_false h1] at f1
            by_cases h2 : bl name = [102, 111, 114, 109]
            · have HY : Hid (never (bl name) = true) := hide (HNV.out (.inr (by rw [h2]; decide)))
              rw [decide_eq_true h2] at f2
              clear HNV h0 h1 h2 f3 f4 f5
              go_wp2_with fail
              go_meet
              exact ⟨rfl, _, rfl, hide (fun _ => HY.out)⟩
            rw [decide_eq_false h2] at f2
            by_cases h3 : bl name = [116, 101, 109, 112, 108, 97, 116, 101]
            · have HY : Hid (never (bl name) = true) := hide (HNV.out (.inr (by rw [h3]; decide)))
              rw [decide_eq_true h3] at f3
              clear HNV h0 h1 h2 h3 f4 f5
              go_wp2_with fail
              go_meet
              exact ⟨rfl, _, rfl, hide (fun _ => HY.out)⟩
            rw [decide_eq_false h3] at f3
            by_cases h4 : bl name = [111, 98, 106, 101, 99, 116]
            · have HY : Hid (never (bl name) = true) := hide (HNV.out (.inr (by rw [h4]; decide)))
              rw [decide_eq_true h4] at f4
              clear HNV h0 h1 h2 h3 h4 f5
              go_wp2_with fail
              go_meet
              exact ⟨rfl, _, rfl, hide (fun _ => HY.out)⟩
            rw [decide_eq_false h4] at f4
            by_cases h5 : bl name = [98, 97, 115, 101]
            · have HY : Hid (never (bl name) = true) := hide (HNV.out (.inr (by rw [h5]; decide)))
              rw [decide_eq_true h5] at f5
              clear HNV h0 h1 h2 h3 h4 h5
              go_wp2_with fail
              go_meet
              exact ⟨rfl, _, rfl, hide (fun _ => HY.out)⟩
            rw [decide_eq_false h5] at f5
            clear HNV h0 h1 h2 h3 h4 h5
            go_wp2_with fail
            go_meet
            exact ⟨rfl, false, rfl, hide (fun h => by cases h)⟩
        case rest =>
        obtain ⟨rfl, nv, rfl, HNV⟩ := hcut
        clear f0 f1 f2 f3 f4 f5 hrw
        obtain ⟨y0, y1, y2, y3, y4, y5, y6, y7, y8⟩ := SK.out wc H4.out
        go_upto_region 10 with fail
        obtain ⟨N, hN⟩ : ∃ N, N = wc.heap.size := ⟨_, rfl⟩
        obtain ⟨w5, hw5⟩ : ∃ w5, w5 = (wc.alloc (.cells #[.int .i64 p.ep, .slice (some ⟨wc.heap.size + 1, 0, none⟩) 1 1, .slice none 0 0, .slice q3 n3 d3, .slice q4 n4 d4, .slice q5 n5 d5, .int .i64 p.dp, .int .i64 p.nd, .int .i64 p.bt] 24)).alloc (.cells #[.string name] 9) := ⟨_, rfl⟩
        have HB5 : Hid (Below wc.heap.size wc w5) := hide (by rw [hw5]; exact bel_alloc (bel_alloc (Below.refl _ _) _) _)
        have HQ5 : Hid (w5.heap[N]? = some (.cells #[.int .i64 p.ep, .slice (some ⟨N + 1, 0, none⟩) 1 1, .slice none 0 0, .slice q3 n3 d3, .slice q4 n4 d4, .slice q5 n5 d5, .int .i64 p.dp, .int .i64 p.nd, .int .i64 p.bt] 24 (0, 0))) := hide (by
          rw [hN, hw5, Below.heap_alloc _ _ _ (by simp)]
          exact new_block _ _ _)
        have HS5 : Hid (StrArg w5 (.slice (some ⟨N + 1, 0, none⟩) 1 1) [name]) := hide (by
          have := one_row (wc.alloc (.cells #[.int .i64 p.ep, .slice (some ⟨wc.heap.size + 1, 0, none⟩) 1 1, .slice none 0 0, .slice q3 n3 d3, .slice q4 n4 d4, .slice q5 n5 d5, .int .i64 p.dp, .int .i64 p.nd, .int .i64 p.bt] 24)) name 9
          have e : (wc.alloc (.cells #[.int .i64 p.ep, .slice (some ⟨wc.heap.size + 1, 0, none⟩) 1 1, .slice none 0 0, .slice q3 n3 d3, .slice q4 n4 d4, .slice q5 n5 d5, .int .i64 p.dp, .int .i64 p.nd, .int .i64 p.bt] 24)).heap.size = N + 1 := by rw [hN]; simp
          rw [e, ← hw5] at this
          exact this)
        have H5 := hide (H4.out.keep HB5.out)
        have HNW : Hid (w.heap.size < N) := hide (by rw [hN]; exact (Array.getElem?_eq_some_iff.1 H4.out.1).1)
        have HPV : Hid (∀ wx, Below w.heap.size w wx → PolV wx (.slice q1 n1 d1) (.slice q2 n2 d2) (.slice q3 n3 d3) (.slice q4 n4 d4) (.slice q5 n5 d5) p l1 l2 l3 l4 l5) := hide (fun wx h => HV.out.below h)
        rw [← hw5, ← hN]
        clear hw5 hN y0 y1 y2 y3 y4 y5 y6 y7 y8 H4
        go_cut [66] from 62 to 66 (fun v66 wx => v66 = .bool false ∧ Hid (Below w5.heap.size w5 wx))
        case first =>
          cases nv with
          | false =>
            go_wp2_with fail
            go_meet
            exact ⟨rfl, hide (Below.refl _ _)⟩
          | true =>
            have C1 : Hid (Calls Tryd.prog 6 #[.agg #[.int .i64 p.ep, .slice (some ⟨N + 1, 0, none⟩) 1 1, .slice none 0 0, .slice q3 n3 d3, .slice q4 n4 d4, .slice q5 n5 d5, .int .i64 p.dp, .int .i64 p.nd, .int .i64 p.bt]] w5 fun e w' => e = .returned (.bool false) ∧ Below w5.heap.size w5 w') := hide (by
              have hpv := HPV.out w5 H5.out.2
              have := HR.out (.slice (some ⟨N + 1, 0, none⟩) 1 1) (.slice none 0 0) (.slice q3 n3 d3) (.slice q4 n4 d4) (.slice q5 n5 d5) ⟨p.ep, [bl name], [], p.sc, p.cl, p.pr, p.dp, p.nd, p.bt⟩ [name] [] l3 l4 l5 w5 ⟨HS5.out, strArg_nil _, hpv.s3, hpv.s4, hpv.s5, rfl, rfl, hpv.e3, hpv.e4, hpv.e5, hpv.g⟩ (fits_sub HF.out (fun z hz => by rw [List.mem_singleton.1 hz, bl_len]; omega) (by simp) (fun z hz => by cases hz) (by simp))
              rw [never_el (HNV.out rfl)] at this
              exact this)
            have c0 := tag_cell HQ5.out 0 _ rfl
            have c1 := tag_cell HQ5.out 1 _ rfl
            have c2 := tag_cell HQ5.out 2 _ rfl
            have c3 := tag_cell HQ5.out 3 _ rfl
            have c4 := tag_cell HQ5.out 4 _ rfl
            have c5 := tag_cell HQ5.out 5 _ rfl
            have c6 := tag_cell HQ5.out 6 _ rfl
            have c7 := tag_cell HQ5.out 7 _ rfl
            have c8 := tag_cell HQ5.out 8 _ rfl
            go_wp2_with fail
            refine C1.out.mono ?_
            rintro e w6 ⟨rfl, h6⟩
            have H6 := hide h6
            clear h6 C1 c0 c1 c2 c3 c4 c5 c6 c7 c8
            go_wp2_with fail
            go_meet
            exact ⟨rfl, H6⟩
        case rest =>
        obtain ⟨rfl, HB6⟩ := hcut
        have H6 := hide (H5.out.keep HB6.out)
        have HQ6 : Hid (wc.heap[N]? = some (.cells #[.int .i64 p.ep, .slice (some ⟨N + 1, 0, none⟩) 1 1, .slice none 0 0, .slice q3 n3 d3, .slice q4 n4 d4, .slice q5 n5 d5, .int .i64 p.dp, .int .i64 p.nd, .int .i64 p.bt] 24 (0, 0))) := hide ((HB6.out.block N (Array.getElem?_eq_some_iff.1 HQ5.out).1).trans HQ5.out)
        clear HNV HQ5 HS5 H5 HB5 HB6
        go_upto_region 12 with fail
        go_step
        refine wpList_load_row rfl 24 _ rfl w.heap.size rfl 24 #[.int .i64 p.ep, .slice q1 n1 d1, .slice q2 n2 d2, .slice q3 n3 d3, .slice q4 n4 d4, .slice q5 n5 d5, .int .i64 p.dp, .int .i64 p.nd, .int .i64 p.bt] (0, 0) _ (by rw [← HA.out]; exact H6.out.1) Tryd.underlying24 rfl (by kernel_rfl) ?_
        refine wpList_store_row rfl 24 _ _ rfl N #[.int .i64 p.ep, .slice q1 n1 d1, .slice q2 n2 d2, .slice q3 n3 d3, .slice q4 n4 d4, .slice q5 n5 d5, .int .i64 p.dp, .int .i64 p.nd, .int .i64 p.bt] rfl rfl 24 _ HQ6.out (by kernel_rfl) rfl (by simp [Value.oneCell']) ?_
        obtain ⟨w7, hw7⟩ : ∃ w7, w7 = wc.setRow N #[.int .i64 p.ep, .slice q1 n1 d1, .slice q2 n2 d2, .slice q3 n3 d3, .slice q4 n4 d4, .slice q5 n5 d5, .int .i64 p.dp, .int .i64 p.nd, .int .i64 p.bt] := ⟨_, rfl⟩
        have HQ7 : Hid (w7.heap[N]? = some (.cells #[.int .i64 p.ep, .slice q1 n1 d1, .slice q2 n2 d2, .slice q3 n3 d3, .slice q4 n4 d4, .slice q5 n5 d5, .int .i64 p.dp, .int .i64 p.nd, .int .i64 p.bt] 24 (0, 0))) := hide (by rw [hw7]; exact setRow_heap wc N _ _ _ _ HQ6.out)
        have H7 : Hid (BoxP w A w7) := hide (by
          rw [hw7]
          exact ⟨(setRow_other wc N _ _ (by have := HNW.out; omega)).trans H6.out.1, below_setRow H6.out.2 (by have := HNW.out; omega) _⟩)
        rw [← hw7]
        clear hw7 HQ6 H6
        obtain ⟨on, hon⟩ : ∃ on : ByteArray, on = ⟨#[42, 46, 111, 110]⟩ ++ name := ⟨_, rfl⟩
        have HON : Hid (bl on = [42, 46, 111, 110] ++ bl name ∧ on.size ≤ 1000) := hide ⟨by rw [hon, app_bl], by rw [hon, app_size]; show 4 + _ ≤ _; omega⟩
        have HLTw8 : Hid (N < w7.heap.size) := hide (Array.getElem?_eq_some_iff.1 HQ7.out).1
        have HALw8 := hide ((Below.heap_alloc w7 (.cells #[.string (⟨#[42, 46, 111, 110]⟩ ++ name)] 9) N HLTw8.out).trans HQ7.out)
        have c2 := tag_cell HALw8.out 2 _ rfl
        have z2 := Go.Joins.unfrozen_of_block HALw8.out 2
        clear HALw8
        obtain ⟨w8, hw8⟩ : ∃ w8, w8 = (w7.alloc (.cells #[.string on] 9)).setCell ⟨N, 2, none⟩ (.slice (some ⟨w7.heap.size, 0, none⟩) 1 1) := ⟨_, rfl⟩
        have HQ8 : Hid (w8.heap[N]? = some (.cells #[.int .i64 p.ep, .slice q1 n1 d1, .slice (some ⟨w7.heap.size, 0, none⟩) 1 1, .slice q3 n3 d3, .slice q4 n4 d4, .slice q5 n5 d5, .int .i64 p.dp, .int .i64 p.nd, .int .i64 p.bt] 24 (0, 0))) := hide (by
          rw [hw8]
          exact heap_setCell_same _ N 2 _ _ _ ((Below.heap_alloc _ _ _ HLTw8.out).trans HQ7.out))
        have H8 : Hid (BoxP w A w8) := hide (by
          have hk := H7.out.keep (bel_alloc (Below.refl _ _) (.cells #[.string on] 9))
          rw [hw8]
          exact ⟨(Below.heap_setCell _ _ _ _ (by show w.heap.size ≠ N; have := HNW.out; omega)).trans hk.1, hk.2.setCell (by show w.heap.size ≤ N; have := HNW.out; omega) _⟩)
        have HSw8 : Hid (StrArg w8 (.slice (some ⟨w7.heap.size, 0, none⟩) 1 1) [on]) := hide (by
          rw [hw8]
          exact strArg_setCell (one_row w7 on 9) (fun b off e => by injection e with e; injection e with e; rw [← e]; show w7.heap.size ≠ N; have := HLTw8.out; omega) _)
        have Cw8 : Hid (Calls Tryd.prog 6 #[.agg #[.int .i64 p.ep, .slice q1 n1 d1, .slice (some ⟨w7.heap.size, 0, none⟩) 1 1, .slice q3 n3 d3, .slice q4 n4 d4, .slice q5 n5 d5, .int .i64 p.dp, .int .i64 p.nd, .int .i64 p.bt]] w8 fun e w' => e = .returned (.bool false) ∧ Below w8.heap.size w8 w') := hide (by
          have hpv := HPV.out w8 H8.out.2
          have := HR.out (.slice q1 n1 d1) (.slice (some ⟨w7.heap.size, 0, none⟩) 1 1) (.slice q3 n3 d3) (.slice q4 n4 d4) (.slice q5 n5 d5) ⟨p.ep, p.el, [bl on], p.sc, p.cl, p.pr, p.dp, p.nd, p.bt⟩ l1 [on] l3 l4 l5 w8 ⟨hpv.s1, HSw8.out, hpv.s3, hpv.s4, hpv.s5, hpv.e1, rfl, hpv.e3, hpv.e4, hpv.e5, hpv.g⟩ (fits_sub HF.out (HF.out p.el (by simp)).2 (HF.out p.el (by simp)).1 (fun z hz => by rw [List.mem_singleton.1 hz, bl_len]; have := HON.out.2; omega) (by simp))
          rw [on_false HON.out.1] at this
          exact this)
        rw [hon] at hw8
        clear hon
        go_upto_region 14 with fail
        rw [← hw8]
        clear hw8 c2 z2 HQ7 H7
        have c0 := tag_cell HQ8.out 0 _ rfl
        have c1 := tag_cell HQ8.out 1 _ rfl
        have c2 := tag_cell HQ8.out 2 _ rfl
        have c3 := tag_cell HQ8.out 3 _ rfl
        have c4 := tag_cell HQ8.out 4 _ rfl
        have c5 := tag_cell HQ8.out 5 _ rfl
        have c6 := tag_cell HQ8.out 6 _ rfl
        have c7 := tag_cell HQ8.out 7 _ rfl
        have c8 := tag_cell HQ8.out 8 _ rfl
        go_wp2_with fail
        refine Cw8.out.mono ?_
        rintro e w9 ⟨rfl, h9⟩
        have H9 := hide (H8.out.keep h9)
        have HQ9 := hide ((h9.block N (Array.getElem?_eq_some_iff.1 HQ8.out).1).trans HQ8.out)
        clear h9 Cw8 c0 c1 c2 c3 c4 c5 c6 c7 c8 H8 HQ8 HSw8 HON HLTw8
        have HLTw10 : Hid (N < w9.heap.size) := hide (Array.getElem?_eq_some_iff.1 HQ9.out).1
        have HALw10 := hide ((Below.heap_alloc w9 (.cells #[.string ⟨#[42, 46, 115, 116, 121, 108, 101]⟩] 9) N HLTw10.out).trans HQ9.out)
        have c2 := tag_cell HALw10.out 2 _ rfl
        have z2 := Go.Joins.unfrozen_of_block HALw10.out 2
        clear HALw10
        obtain ⟨w10, hw10⟩ : ∃ w10, w10 = (w9.alloc (.cells #[.string ⟨#[42, 46, 115, 116, 121, 108, 101]⟩] 9)).setCell ⟨N, 2, none⟩ (.slice (some ⟨w9.heap.size, 0, none⟩) 1 1) := ⟨_, rfl⟩
        have HQ10 : Hid (w10.heap[N]? = some (.cells #[.int .i64 p.ep, .slice q1 n1 d1, .slice (some ⟨w9.heap.size, 0, none⟩) 1 1, .slice q3 n3 d3, .slice q4 n4 d4, .slice q5 n5 d5, .int .i64 p.dp, .int .i64 p.nd, .int .i64 p.bt] 24 (0, 0))) := hide (by
          rw [hw10]
          exact heap_setCell_same _ N 2 _ _ _ ((Below.heap_alloc _ _ _ HLTw10.out).trans HQ9.out))
        have H10 : Hid (BoxP w A w10) := hide (by
          have hk := H9.out.keep (bel_alloc (Below.refl _ _) (.cells #[.string ⟨#[42, 46, 115, 116, 121, 108, 101]⟩] 9))
          rw [hw10]
          exact ⟨(Below.heap_setCell _ _ _ _ (by show w.heap.size ≠ N; have := HNW.out; omega)).trans hk.1, hk.2.setCell (by show w.heap.size ≤ N; have := HNW.out; omega) _⟩)
        have HSw10 : Hid (StrArg w10 (.slice (some ⟨w9.heap.size, 0, none⟩) 1 1) [⟨#[42, 46, 115, 116, 121, 108, 101]⟩]) := hide (by
          rw [hw10]
          exact strArg_setCell (one_row w9 ⟨#[42, 46, 115, 116, 121, 108, 101]⟩ 9) (fun b off e => by injection e with e; injection e with e; rw [← e]; show w9.heap.size ≠ N; have := HLTw10.out; omega) _)
        have Cw10 : Hid (Calls Tryd.prog 6 #[.agg #[.int .i64 p.ep, .slice q1 n1 d1, .slice (some ⟨w9.heap.size, 0, none⟩) 1 1, .slice q3 n3 d3, .slice q4 n4 d4, .slice q5 n5 d5, .int .i64 p.dp, .int .i64 p.nd, .int .i64 p.bt]] w10 fun e w' => e = .returned (.bool false) ∧ Below w10.heap.size w10 w') := hide (by
          have hpv := HPV.out w10 H10.out.2
          have := HR.out (.slice q1 n1 d1) (.slice (some ⟨w9.heap.size, 0, none⟩) 1 1) (.slice q3 n3 d3) (.slice q4 n4 d4) (.slice q5 n5 d5) ⟨p.ep, p.el, [bl ⟨#[42, 46, 115, 116, 121, 108, 101]⟩], p.sc, p.cl, p.pr, p.dp, p.nd, p.bt⟩ l1 [⟨#[42, 46, 115, 116, 121, 108, 101]⟩] l3 l4 l5 w10 ⟨hpv.s1, HSw10.out, hpv.s3, hpv.s4, hpv.s5, hpv.e1, rfl, hpv.e3, hpv.e4, hpv.e5, hpv.g⟩ (fits_sub HF.out (HF.out p.el (by simp)).2 (HF.out p.el (by simp)).1 (fun z hz => by rw [List.mem_singleton.1 hz, bl_len]; show 7 ≤ 100000; omega) (by simp))
          rw [style_false] at this
          exact this)
        go_upto_region 17 with fail
        rw [← hw10]
        clear hw10 c2 z2 HQ9 H9
        have c0 := tag_cell HQ10.out 0 _ rfl
        have c1 := tag_cell HQ10.out 1 _ rfl
        have c2 := tag_cell HQ10.out 2 _ rfl
        have c3 := tag_cell HQ10.out 3 _ rfl
        have c4 := tag_cell HQ10.out 4 _ rfl
        have c5 := tag_cell HQ10.out 5 _ rfl
        have c6 := tag_cell HQ10.out 6 _ rfl
        have c7 := tag_cell HQ10.out 7 _ rfl
        have c8 := tag_cell HQ10.out 8 _ rfl
        go_wp2_with fail
        refine Cw10.out.mono ?_
        rintro e w11 ⟨rfl, h11⟩
        have H11 := hide (H10.out.keep h11)
        clear h11 Cw10 c0 c1 c2 c3 c4 c5 c6 c7 c8 H10 HQ10 HSw10 HLTw10 HR HT HPV SK
        go_wp2_with fail
        go_ret
        exact ⟨rfl, H11.out.2⟩
      · go_wp2_with fail
        refine (CR.out HF.out _ H3.out).mono ?_
        rintro e w4 ⟨rfl, h4⟩
        have H4 := hide h4
        clear h4 CR H3 y0 y1 y2 y3 y4 y5 y6 y7 y8 HR HT SK
        go_wp2_with fail
        go_ret
        exact ⟨rfl, H4.out.2⟩
end Go.Proofs.YteglmpaapcgfbabDoor
