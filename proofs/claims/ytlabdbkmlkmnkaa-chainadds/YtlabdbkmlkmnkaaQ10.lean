/-
  The document's own Same.
-/
import Derived.Test.YtlabdbkmlkmnkaaQ9
namespace Pol8
def sameP (p q : Pol) : Bool := decide (p.ep = q.ep) && (decide (p.el = q.el) && (decide (p.at_ = q.at_) && (decide (p.sc = q.sc) && (decide (p.cl = q.cl) && (decide (p.pr = q.pr) && (decide (p.dp = q.dp) && (decide (p.nd = q.nd) && decide (p.bt = q.bt))))))))
theorem sameP_iff (p q : Pol) : sameP p q = true ↔ p = q := by
  unfold sameP
  simp only [Bool.and_eq_true, decide_eq_true_eq]
  constructor
  · rintro ⟨h1, h2, h3, h4, h5, h6, h7, h8, h9⟩
    exact Pol.ext' h1 h2 h3 h4 h5 h6 h7 h8 h9
  · rintro rfl
    exact ⟨rfl, rfl, rfl, rfl, rfl, rfl, rfl, rfl, rfl⟩
end Pol8
namespace Go.Proofs.Ytlabdbkmlkmnkaa
open Go.RowKit
open Utf1 Pol8

/-- Two policies' parameters in their blocks. -/
def BoxQ (w : World) (A B : Array Value) (wx : World) : Prop := wx.heap[w.heap.size]? = some (.cells A 30 (0, 0)) ∧ wx.heap[w.heap.size + 1]? = some (.cells B 30 (0, 0)) ∧ Below w.heap.size w wx
theorem BoxQ.keep {w wx wy : World} {A B : Array Value} (h : BoxQ w A B wx) (hb : Below wx.heap.size wx wy) : BoxQ w A B wy :=
  ⟨(hb.block _ (Array.getElem?_eq_some_iff.1 h.1).1).trans h.1, (hb.block _ (Array.getElem?_eq_some_iff.1 h.2.1).1).trans h.2.1, h.2.2.trans (hb.mono h.2.2.size)⟩
theorem BoxQ.a {w wx : World} {A B : Array Value} (h : BoxQ w A B wx) (i : Nat) (v : Value) (hv : A[i]? = some v) : wx.cell? ⟨w.heap.size, i, none⟩ = some v := tag_cell h.1 i v hv
theorem BoxQ.b {w wx : World} {A B : Array Value} (h : BoxQ w A B wx) (i : Nat) (v : Value) (hv : B[i]? = some v) : wx.cell? ⟨w.heap.size + 1, i, none⟩ = some v := tag_cell h.2.1 i v hv
theorem BoxQ.new (w : World) (A B : Array Value) : BoxQ w A B ((w.alloc (.cells A 30)).alloc (.cells B 30)) := by
  have s1 : (w.alloc (.cells A 30)).heap.size = w.heap.size + 1 := by simp
  have k2 := new_block (w.alloc (.cells A 30)) B 30
  rw [s1] at k2
  refine ⟨?_, k2, bel_alloc (bel_alloc (Below.refl _ _) _) _⟩
  rw [Below.heap_alloc _ _ _ (by rw [s1]; omega)]
  exact new_block _ _ _

set_option maxRecDepth 100000 in
set_option maxHeartbeats 32000000 in
theorem rsameP_any (v1 v2 v3 v4 v5 u1 u2 u3 u4 u5 : Value) (p q : Pol) (l1 l2 l3 l4 l5 m1 m2 m3 m4 m5 : List ByteArray) (w : World) (hv : PolV w v1 v2 v3 v4 v5 p l1 l2 l3 l4 l5) (hu : PolV w u1 u2 u3 u4 u5 q m1 m2 m3 m4 m5) (hf : fits p) (hg : fits q) :
    Calls Try.prog 15 #[.agg #[.int .i64 p.ep, v1, v2, v3, v4, v5, .int .i64 p.dp, .int .i64 p.nd, .int .i64 p.bt], .agg #[.int .i64 q.ep, u1, u2, u3, u4, u5, .int .i64 q.dp, .int .i64 q.nd, .int .i64 q.bt]] w fun e w' => e = .returned (.bool (sameP p q)) ∧ Below w.heap.size w w' := by
  obtain ⟨f1, -⟩ := fits_of hf (by simp) hv.e1
  obtain ⟨g1, -⟩ := fits_of hg (by simp) hu.e1
  obtain ⟨f2, -⟩ := fits_of hf (by simp) hv.e2
  obtain ⟨g2, -⟩ := fits_of hg (by simp) hu.e2
  obtain ⟨f3, -⟩ := fits_of hf (by simp) hv.e3
  obtain ⟨g3, -⟩ := fits_of hg (by simp) hu.e3
  obtain ⟨f4, -⟩ := fits_of hf (by simp) hv.e4
  obtain ⟨g4, -⟩ := fits_of hg (by simp) hu.e4
  obtain ⟨f5, -⟩ := fits_of hf (by simp) hv.e5
  obtain ⟨g5, -⟩ := fits_of hg (by simp) hu.e5
  obtain ⟨A, hA⟩ : ∃ A : Array Value, A = #[.int .i64 p.ep, v1, v2, v3, v4, v5, .int .i64 p.dp, .int .i64 p.nd, .int .i64 p.bt] := ⟨_, rfl⟩
  obtain ⟨B, hB⟩ : ∃ B : Array Value, B = #[.int .i64 q.ep, u1, u2, u3, u4, u5, .int .i64 q.dp, .int .i64 q.nd, .int .i64 q.bt] := ⟨_, rfl⟩
  obtain ⟨w1, hw1⟩ : ∃ w1, w1 = (w.alloc (.cells A 30)).alloc (.cells B 30) := ⟨_, rfl⟩
  have HN : Hid (BoxQ w A B w1) := hide (by rw [hw1]; exact BoxQ.new w A B)
  have Y0 : Hid (∀ wx, BoxQ w A B wx → wx.cell? ⟨w.heap.size, 0, none⟩ = some (.int .i64 p.ep) ∧ wx.cell? ⟨w.heap.size + 1, 0, none⟩ = some (.int .i64 q.ep)) := hide (fun wx h => ⟨h.a 0 _ (by rw [hA]; rfl), h.b 0 _ (by rw [hB]; rfl)⟩)
  have Y1 : Hid (∀ wx, BoxQ w A B wx → wx.cell? ⟨w.heap.size, 1, none⟩ = some (v1) ∧ wx.cell? ⟨w.heap.size + 1, 1, none⟩ = some (u1)) := hide (fun wx h => ⟨h.a 1 _ (by rw [hA]; rfl), h.b 1 _ (by rw [hB]; rfl)⟩)
  have Y2 : Hid (∀ wx, BoxQ w A B wx → wx.cell? ⟨w.heap.size, 2, none⟩ = some (v2) ∧ wx.cell? ⟨w.heap.size + 1, 2, none⟩ = some (u2)) := hide (fun wx h => ⟨h.a 2 _ (by rw [hA]; rfl), h.b 2 _ (by rw [hB]; rfl)⟩)
  have Y3 : Hid (∀ wx, BoxQ w A B wx → wx.cell? ⟨w.heap.size, 3, none⟩ = some (v3) ∧ wx.cell? ⟨w.heap.size + 1, 3, none⟩ = some (u3)) := hide (fun wx h => ⟨h.a 3 _ (by rw [hA]; rfl), h.b 3 _ (by rw [hB]; rfl)⟩)
  have Y4 : Hid (∀ wx, BoxQ w A B wx → wx.cell? ⟨w.heap.size, 4, none⟩ = some (v4) ∧ wx.cell? ⟨w.heap.size + 1, 4, none⟩ = some (u4)) := hide (fun wx h => ⟨h.a 4 _ (by rw [hA]; rfl), h.b 4 _ (by rw [hB]; rfl)⟩)
  have Y5 : Hid (∀ wx, BoxQ w A B wx → wx.cell? ⟨w.heap.size, 5, none⟩ = some (v5) ∧ wx.cell? ⟨w.heap.size + 1, 5, none⟩ = some (u5)) := hide (fun wx h => ⟨h.a 5 _ (by rw [hA]; rfl), h.b 5 _ (by rw [hB]; rfl)⟩)
  have Y6 : Hid (∀ wx, BoxQ w A B wx → wx.cell? ⟨w.heap.size, 6, none⟩ = some (.int .i64 p.dp) ∧ wx.cell? ⟨w.heap.size + 1, 6, none⟩ = some (.int .i64 q.dp)) := hide (fun wx h => ⟨h.a 6 _ (by rw [hA]; rfl), h.b 6 _ (by rw [hB]; rfl)⟩)
  have Y7 : Hid (∀ wx, BoxQ w A B wx → wx.cell? ⟨w.heap.size, 7, none⟩ = some (.int .i64 p.nd) ∧ wx.cell? ⟨w.heap.size + 1, 7, none⟩ = some (.int .i64 q.nd)) := hide (fun wx h => ⟨h.a 7 _ (by rw [hA]; rfl), h.b 7 _ (by rw [hB]; rfl)⟩)
  have Y8 : Hid (∀ wx, BoxQ w A B wx → wx.cell? ⟨w.heap.size, 8, none⟩ = some (.int .i64 p.bt) ∧ wx.cell? ⟨w.heap.size + 1, 8, none⟩ = some (.int .i64 q.bt)) := hide (fun wx h => ⟨h.a 8 _ (by rw [hA]; rfl), h.b 8 _ (by rw [hB]; rfl)⟩)
  have C1 : Hid (∀ wx, BoxQ w A B wx → Calls Try.prog 22 #[v1, u1] wx fun e w' => e = .returned (.bool (decide (p.el = q.el))) ∧ BoxQ w A B w') := hide (fun wx h => by
    have := rsame_any v1 u1 l1 m1 (by omega) wx (hv.s1.below h.2.2) (hu.s1.below h.2.2)
    rw [hv.e1, hu.e1] at this
    exact this.mono fun e w' ⟨h1, h2⟩ => ⟨h1, h.keep h2⟩)
  have C2 : Hid (∀ wx, BoxQ w A B wx → Calls Try.prog 22 #[v2, u2] wx fun e w' => e = .returned (.bool (decide (p.at_ = q.at_))) ∧ BoxQ w A B w') := hide (fun wx h => by
    have := rsame_any v2 u2 l2 m2 (by omega) wx (hv.s2.below h.2.2) (hu.s2.below h.2.2)
    rw [hv.e2, hu.e2] at this
    exact this.mono fun e w' ⟨h1, h2⟩ => ⟨h1, h.keep h2⟩)
  have C3 : Hid (∀ wx, BoxQ w A B wx → Calls Try.prog 22 #[v3, u3] wx fun e w' => e = .returned (.bool (decide (p.sc = q.sc))) ∧ BoxQ w A B w') := hide (fun wx h => by
    have := rsame_any v3 u3 l3 m3 (by omega) wx (hv.s3.below h.2.2) (hu.s3.below h.2.2)
    rw [hv.e3, hu.e3] at this
    exact this.mono fun e w' ⟨h1, h2⟩ => ⟨h1, h.keep h2⟩)
  have C4 : Hid (∀ wx, BoxQ w A B wx → Calls Try.prog 22 #[v4, u4] wx fun e w' => e = .returned (.bool (decide (p.cl = q.cl))) ∧ BoxQ w A B w') := hide (fun wx h => by
    have := rsame_any v4 u4 l4 m4 (by omega) wx (hv.s4.below h.2.2) (hu.s4.below h.2.2)
    rw [hv.e4, hu.e4] at this
    exact this.mono fun e w' ⟨h1, h2⟩ => ⟨h1, h.keep h2⟩)
  have C5 : Hid (∀ wx, BoxQ w A B wx → Calls Try.prog 22 #[v5, u5] wx fun e w' => e = .returned (.bool (decide (p.pr = q.pr))) ∧ BoxQ w A B w') := hide (fun wx h => by
    have := rsame_any v5 u5 l5 m5 (by omega) wx (hv.s5.below h.2.2) (hu.s5.below h.2.2)
    rw [hv.e5, hu.e5] at this
    exact this.mono fun e w' ⟨h1, h2⟩ => ⟨h1, h.keep h2⟩)
  have HS : Hid (sameP p q = (decide (p.ep = q.ep) && (decide (p.el = q.el) && (decide (p.at_ = q.at_) && (decide (p.sc = q.sc) && (decide (p.cl = q.cl) && (decide (p.pr = q.pr) && (decide (p.dp = q.dp) && (decide (p.nd = q.nd) && decide (p.bt = q.bt)))))))))) := hide rfl
  obtain ⟨R, hR⟩ : ∃ R, R = sameP p q := ⟨_, rfl⟩
  rw [← hR] at HS ⊢
  clear hR
  have e0 : (p.ep == q.ep) = decide (p.ep = q.ep) := by by_cases h : p.ep = q.ep <;> simp [h]
  generalize decide (p.ep = q.ep) = d0 at HS e0
  have e6 : (p.dp == q.dp) = decide (p.dp = q.dp) := by by_cases h : p.dp = q.dp <;> simp [h]
  generalize decide (p.dp = q.dp) = d6 at HS e6
  have e7 : (p.nd == q.nd) = decide (p.nd = q.nd) := by by_cases h : p.nd = q.nd <;> simp [h]
  generalize decide (p.nd = q.nd) = d7 at HS e7
  have e8 : (p.bt == q.bt) = decide (p.bt = q.bt) := by by_cases h : p.bt = q.bt <;> simp [h]
  generalize decide (p.bt = q.bt) = d8 at HS e8
  generalize decide (p.el = q.el) = d1 at HS C1
  generalize decide (p.at_ = q.at_) = d2 at HS C2
  generalize decide (p.sc = q.sc) = d3 at HS C3
  generalize decide (p.cl = q.cl) = d4 at HS C4
  generalize decide (p.pr = q.pr) = d5 at HS C5
  generalize p.ep = x0 at *
  generalize q.ep = z0 at *
  generalize p.dp = x6 at *
  generalize q.dp = z6 at *
  generalize p.nd = x7 at *
  generalize q.nd = z7 at *
  generalize p.bt = x8 at *
  generalize q.bt = z8 at *
  rw [hA, hB] at hw1
  clear hv hu hf hg hA hB f1 g1 f2 g2 f3 g3 f4 g4 f5 g5
  cases d0 with
  | false =>
    have HR : Hid (R = false) := hide (by rw [HS.out]; rfl)
    clear HS
    obtain ⟨y0, y0b⟩ := Y0.out w1 HN.out
    go_enter Try.func15, Try.ntmps15
    go_upto_region 1 with fail
    rw [← hw1]
    clear hw1
    go_wp2_with fail
    go_ret
    rw [HR.out]
    exact ⟨rfl, HN.out.2.2⟩
  | true =>
    cases d1 with
    | false =>
      have HR : Hid (R = false) := hide (by rw [HS.out]; rfl)
      clear HS
      obtain ⟨y0, y0b⟩ := Y0.out w1 HN.out
      obtain ⟨y1, y1b⟩ := Y1.out w1 HN.out
      go_enter Try.func15, Try.ntmps15
      go_upto_region 1 with fail
      rw [← hw1]
      clear hw1
      go_wp2_with fail
      refine (C1.out _ HN.out).mono ?_
      rintro e X1 ⟨rfl, h1⟩
      have H1 := hide h1
      clear h1 y1 y1b y0 y0b
      go_wp2_with fail
      go_ret
      rw [HR.out]
      exact ⟨rfl, H1.out.2.2⟩
    | true =>
      cases d2 with
      | false =>
        have HR : Hid (R = false) := hide (by rw [HS.out]; rfl)
        clear HS
        obtain ⟨y0, y0b⟩ := Y0.out w1 HN.out
        obtain ⟨y1, y1b⟩ := Y1.out w1 HN.out
        go_enter Try.func15, Try.ntmps15
        go_upto_region 1 with fail
        rw [← hw1]
        clear hw1
        go_wp2_with fail
        refine (C1.out _ HN.out).mono ?_
        rintro e X1 ⟨rfl, h1⟩
        have H1 := hide h1
        clear h1 y1 y1b y0 y0b
        obtain ⟨y2, y2b⟩ := Y2.out X1 H1.out
        go_wp2_with fail
        refine (C2.out _ H1.out).mono ?_
        rintro e X2 ⟨rfl, h2⟩
        have H2 := hide h2
        clear h2 y2 y2b
        go_wp2_with fail
        go_ret
        rw [HR.out]
        exact ⟨rfl, H2.out.2.2⟩
      | true =>
        cases d3 with
        | false =>
          have HR : Hid (R = false) := hide (by rw [HS.out]; rfl)
          clear HS
          obtain ⟨y0, y0b⟩ := Y0.out w1 HN.out
          obtain ⟨y1, y1b⟩ := Y1.out w1 HN.out
          go_enter Try.func15, Try.ntmps15
          go_upto_region 1 with fail
          rw [← hw1]
          clear hw1
          go_wp2_with fail
          refine (C1.out _ HN.out).mono ?_
          rintro e X1 ⟨rfl, h1⟩
          have H1 := hide h1
          clear h1 y1 y1b y0 y0b
          obtain ⟨y2, y2b⟩ := Y2.out X1 H1.out
          go_wp2_with fail
          refine (C2.out _ H1.out).mono ?_
          rintro e X2 ⟨rfl, h2⟩
          have H2 := hide h2
          clear h2 y2 y2b
          obtain ⟨y3, y3b⟩ := Y3.out X2 H2.out
          go_wp2_with fail
          refine (C3.out _ H2.out).mono ?_
          rintro e X3 ⟨rfl, h3⟩
          have H3 := hide h3
          clear h3 y3 y3b
          go_wp2_with fail
          go_ret
          rw [HR.out]
          exact ⟨rfl, H3.out.2.2⟩
        | true =>
          cases d4 with
          | false =>
            have HR : Hid (R = false) := hide (by rw [HS.out]; rfl)
            clear HS
            obtain ⟨y0, y0b⟩ := Y0.out w1 HN.out
            obtain ⟨y1, y1b⟩ := Y1.out w1 HN.out
            go_enter Try.func15, Try.ntmps15
            go_upto_region 1 with fail
            rw [← hw1]
            clear hw1
            go_wp2_with fail
            refine (C1.out _ HN.out).mono ?_
            rintro e X1 ⟨rfl, h1⟩
            have H1 := hide h1
            clear h1 y1 y1b y0 y0b
            obtain ⟨y2, y2b⟩ := Y2.out X1 H1.out
            go_wp2_with fail
            refine (C2.out _ H1.out).mono ?_
            rintro e X2 ⟨rfl, h2⟩
            have H2 := hide h2
            clear h2 y2 y2b
            obtain ⟨y3, y3b⟩ := Y3.out X2 H2.out
            go_wp2_with fail
            refine (C3.out _ H2.out).mono ?_
            rintro e X3 ⟨rfl, h3⟩
            have H3 := hide h3
            clear h3 y3 y3b
            obtain ⟨y4, y4b⟩ := Y4.out X3 H3.out
            go_wp2_with fail
            refine (C4.out _ H3.out).mono ?_
            rintro e X4 ⟨rfl, h4⟩
            have H4 := hide h4
            clear h4 y4 y4b
            go_wp2_with fail
            go_ret
            rw [HR.out]
            exact ⟨rfl, H4.out.2.2⟩
          | true =>
            cases d5 with
            | false =>
              have HR : Hid (R = false) := hide (by rw [HS.out]; rfl)
              clear HS
              obtain ⟨y0, y0b⟩ := Y0.out w1 HN.out
              obtain ⟨y1, y1b⟩ := Y1.out w1 HN.out
              go_enter Try.func15, Try.ntmps15
              go_upto_region 1 with fail
              rw [← hw1]
              clear hw1
              go_wp2_with fail
              refine (C1.out _ HN.out).mono ?_
              rintro e X1 ⟨rfl, h1⟩
              have H1 := hide h1
              clear h1 y1 y1b y0 y0b
              obtain ⟨y2, y2b⟩ := Y2.out X1 H1.out
              go_wp2_with fail
              refine (C2.out _ H1.out).mono ?_
              rintro e X2 ⟨rfl, h2⟩
              have H2 := hide h2
              clear h2 y2 y2b
              obtain ⟨y3, y3b⟩ := Y3.out X2 H2.out
              go_wp2_with fail
              refine (C3.out _ H2.out).mono ?_
              rintro e X3 ⟨rfl, h3⟩
              have H3 := hide h3
              clear h3 y3 y3b
              obtain ⟨y4, y4b⟩ := Y4.out X3 H3.out
              go_wp2_with fail
              refine (C4.out _ H3.out).mono ?_
              rintro e X4 ⟨rfl, h4⟩
              have H4 := hide h4
              clear h4 y4 y4b
              obtain ⟨y5, y5b⟩ := Y5.out X4 H4.out
              go_wp2_with fail
              refine (C5.out _ H4.out).mono ?_
              rintro e X5 ⟨rfl, h5⟩
              have H5 := hide h5
              clear h5 y5 y5b
              go_wp2_with fail
              go_ret
              rw [HR.out]
              exact ⟨rfl, H5.out.2.2⟩
            | true =>
              cases d6 with
              | false =>
                have HR : Hid (R = false) := hide (by rw [HS.out]; rfl)
                clear HS
                obtain ⟨y0, y0b⟩ := Y0.out w1 HN.out
                obtain ⟨y1, y1b⟩ := Y1.out w1 HN.out
                go_enter Try.func15, Try.ntmps15
                go_upto_region 1 with fail
                rw [← hw1]
                clear hw1
                go_wp2_with fail
                refine (C1.out _ HN.out).mono ?_
                rintro e X1 ⟨rfl, h1⟩
                have H1 := hide h1
                clear h1 y1 y1b y0 y0b
                obtain ⟨y2, y2b⟩ := Y2.out X1 H1.out
                go_wp2_with fail
                refine (C2.out _ H1.out).mono ?_
                rintro e X2 ⟨rfl, h2⟩
                have H2 := hide h2
                clear h2 y2 y2b
                obtain ⟨y3, y3b⟩ := Y3.out X2 H2.out
                go_wp2_with fail
                refine (C3.out _ H2.out).mono ?_
                rintro e X3 ⟨rfl, h3⟩
                have H3 := hide h3
                clear h3 y3 y3b
                obtain ⟨y4, y4b⟩ := Y4.out X3 H3.out
                go_wp2_with fail
                refine (C4.out _ H3.out).mono ?_
                rintro e X4 ⟨rfl, h4⟩
                have H4 := hide h4
                clear h4 y4 y4b
                obtain ⟨y5, y5b⟩ := Y5.out X4 H4.out
                go_wp2_with fail
                refine (C5.out _ H4.out).mono ?_
                rintro e X5 ⟨rfl, h5⟩
                have H5 := hide h5
                clear h5 y5 y5b
                obtain ⟨y6, y6b⟩ := Y6.out X5 H5.out
                go_wp2_with fail
                go_ret
                rw [HR.out]
                exact ⟨rfl, H5.out.2.2⟩
              | true =>
                cases d7 with
                | false =>
                  have HR : Hid (R = false) := hide (by rw [HS.out]; rfl)
                  clear HS
                  obtain ⟨y0, y0b⟩ := Y0.out w1 HN.out
                  obtain ⟨y1, y1b⟩ := Y1.out w1 HN.out
                  go_enter Try.func15, Try.ntmps15
                  go_upto_region 1 with fail
                  rw [← hw1]
                  clear hw1
                  go_wp2_with fail
                  refine (C1.out _ HN.out).mono ?_
                  rintro e X1 ⟨rfl, h1⟩
                  have H1 := hide h1
                  clear h1 y1 y1b y0 y0b
                  obtain ⟨y2, y2b⟩ := Y2.out X1 H1.out
                  go_wp2_with fail
                  refine (C2.out _ H1.out).mono ?_
                  rintro e X2 ⟨rfl, h2⟩
                  have H2 := hide h2
                  clear h2 y2 y2b
                  obtain ⟨y3, y3b⟩ := Y3.out X2 H2.out
                  go_wp2_with fail
                  refine (C3.out _ H2.out).mono ?_
                  rintro e X3 ⟨rfl, h3⟩
                  have H3 := hide h3
                  clear h3 y3 y3b
                  obtain ⟨y4, y4b⟩ := Y4.out X3 H3.out
                  go_wp2_with fail
                  refine (C4.out _ H3.out).mono ?_
                  rintro e X4 ⟨rfl, h4⟩
                  have H4 := hide h4
                  clear h4 y4 y4b
                  obtain ⟨y5, y5b⟩ := Y5.out X4 H4.out
                  go_wp2_with fail
                  refine (C5.out _ H4.out).mono ?_
                  rintro e X5 ⟨rfl, h5⟩
                  have H5 := hide h5
                  clear h5 y5 y5b
                  obtain ⟨y6, y6b⟩ := Y6.out X5 H5.out
                  obtain ⟨y7, y7b⟩ := Y7.out X5 H5.out
                  go_wp2_with fail
                  go_ret
                  rw [HR.out]
                  exact ⟨rfl, H5.out.2.2⟩
                | true =>
                  cases d8 with
                  | false =>
                    have HR : Hid (R = false) := hide (by rw [HS.out]; rfl)
                    clear HS
                    obtain ⟨y0, y0b⟩ := Y0.out w1 HN.out
                    obtain ⟨y1, y1b⟩ := Y1.out w1 HN.out
                    go_enter Try.func15, Try.ntmps15
                    go_upto_region 1 with fail
                    rw [← hw1]
                    clear hw1
                    go_wp2_with fail
                    refine (C1.out _ HN.out).mono ?_
                    rintro e X1 ⟨rfl, h1⟩
                    have H1 := hide h1
                    clear h1 y1 y1b y0 y0b
                    obtain ⟨y2, y2b⟩ := Y2.out X1 H1.out
                    go_wp2_with fail
                    refine (C2.out _ H1.out).mono ?_
                    rintro e X2 ⟨rfl, h2⟩
                    have H2 := hide h2
                    clear h2 y2 y2b
                    obtain ⟨y3, y3b⟩ := Y3.out X2 H2.out
                    go_wp2_with fail
                    refine (C3.out _ H2.out).mono ?_
                    rintro e X3 ⟨rfl, h3⟩
                    have H3 := hide h3
                    clear h3 y3 y3b
                    obtain ⟨y4, y4b⟩ := Y4.out X3 H3.out
                    go_wp2_with fail
                    refine (C4.out _ H3.out).mono ?_
                    rintro e X4 ⟨rfl, h4⟩
                    have H4 := hide h4
                    clear h4 y4 y4b
                    obtain ⟨y5, y5b⟩ := Y5.out X4 H4.out
                    go_wp2_with fail
                    refine (C5.out _ H4.out).mono ?_
                    rintro e X5 ⟨rfl, h5⟩
                    have H5 := hide h5
                    clear h5 y5 y5b
                    obtain ⟨y6, y6b⟩ := Y6.out X5 H5.out
                    obtain ⟨y7, y7b⟩ := Y7.out X5 H5.out
                    obtain ⟨y8, y8b⟩ := Y8.out X5 H5.out
                    go_wp2_with fail
                    go_ret
                    rw [HR.out]
                    exact ⟨rfl, H5.out.2.2⟩
                  | true =>
                    have HR : Hid (R = true) := hide (by rw [HS.out]; rfl)
                    clear HS
                    obtain ⟨y0, y0b⟩ := Y0.out w1 HN.out
                    obtain ⟨y1, y1b⟩ := Y1.out w1 HN.out
                    go_enter Try.func15, Try.ntmps15
                    go_upto_region 1 with fail
                    rw [← hw1]
                    clear hw1
                    go_wp2_with fail
                    refine (C1.out _ HN.out).mono ?_
                    rintro e X1 ⟨rfl, h1⟩
                    have H1 := hide h1
                    clear h1 y1 y1b y0 y0b
                    obtain ⟨y2, y2b⟩ := Y2.out X1 H1.out
                    go_wp2_with fail
                    refine (C2.out _ H1.out).mono ?_
                    rintro e X2 ⟨rfl, h2⟩
                    have H2 := hide h2
                    clear h2 y2 y2b
                    obtain ⟨y3, y3b⟩ := Y3.out X2 H2.out
                    go_wp2_with fail
                    refine (C3.out _ H2.out).mono ?_
                    rintro e X3 ⟨rfl, h3⟩
                    have H3 := hide h3
                    clear h3 y3 y3b
                    obtain ⟨y4, y4b⟩ := Y4.out X3 H3.out
                    go_wp2_with fail
                    refine (C4.out _ H3.out).mono ?_
                    rintro e X4 ⟨rfl, h4⟩
                    have H4 := hide h4
                    clear h4 y4 y4b
                    obtain ⟨y5, y5b⟩ := Y5.out X4 H4.out
                    go_wp2_with fail
                    refine (C5.out _ H4.out).mono ?_
                    rintro e X5 ⟨rfl, h5⟩
                    have H5 := hide h5
                    clear h5 y5 y5b
                    obtain ⟨y6, y6b⟩ := Y6.out X5 H5.out
                    obtain ⟨y7, y7b⟩ := Y7.out X5 H5.out
                    obtain ⟨y8, y8b⟩ := Y8.out X5 H5.out
                    go_wp2_with fail
                    go_ret
                    rw [HR.out]
                    exact ⟨rfl, H5.out.2.2⟩
end Go.Proofs.Ytlabdbkmlkmnkaa
