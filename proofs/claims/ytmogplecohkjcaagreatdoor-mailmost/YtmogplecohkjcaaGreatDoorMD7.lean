/-
  The document's Right of a message, walked.
-/
import Derived.Test.YtmogplecohkjcaaGreatDoorMD6
import Derived.Test.YtmogplecohkjcaaGreatDoorQZ
namespace Go.Proofs.YtmogplecohkjcaaGreatDoor
open Go.RowKit
open Utf1
open Pol8 hiding text right Right
open Msg15

theorem PolV.zero (w : World) (hg : Glob w) : PolV w (.slice none 0 0) (.slice none 0 0) (.slice none 0 0) (.slice none 0 0) (.slice none 0 0) Pol.zero [] [] [] [] [] :=
  have h : StrArg w (.slice none 0 0) [] := ⟨none, 0, rfl, fun _ => rfl, fun i a h => by simp at h⟩
  ⟨h, h, h, h, h, rfl, rfl, rfl, rfl, rfl, hg⟩
theorem fits_zero : fits Pol.zero := by
  intro l hl
  have : l = [] := by
    simp [Pol.zero] at hl
    exact hl
  subst this
  exact ⟨by simp, fun x hx => by cases hx⟩

theorem mright_go {m : Ms} (a : 0 ≤ m.fr ∧ m.fr ≤ 5 ∧ 0 ≤ m.to ∧ m.to ≤ 5 ∧ m.fr ≠ m.to ∧ 0 ≤ m.ep ∧ m.ep ≤ 1000000 ∧ 1 ≤ m.kind ∧ m.kind ≤ 4) (h1 : m.kind ≠ 1 → m.ids = []) (h2 : m.kind ≠ 2 → m.posts = []) (h3 : m.kind ≠ 3 → m.pol = Pol.zero) (h4 : m.kind = 2 ∨ m.kind = 3 → m.ep = 0) :
    (m.kind = 3 → (Pol8.right m.pol = true ↔ MRight m)) ∧ (m.kind ≠ 3 → (∀ p ∈ m.posts, p.2.length ≤ 2000) → ((riseI m.ids = true ∧ riseI (m.posts.map (·.1)) = true) ↔ MRight m)) := by
  obtain ⟨a1, a2, a3, a4, a5, a6, a7, a8, a9⟩ := a
  refine ⟨fun hk => ⟨fun h => ⟨⟨a1, a2⟩, ⟨a3, a4⟩, a5, ⟨a6, a7⟩, ⟨a8, a9⟩, h1, h2, h3, h4, fun _ => h, ?_, ?_, ?_⟩, fun h => h.rpol hk⟩, fun hk hr => ⟨fun h => ⟨⟨a1, a2⟩, ⟨a3, a4⟩, a5, ⟨a6, a7⟩, ⟨a8, a9⟩, h1, h2, h3, h4, fun h => absurd h hk, h.1, h.2, hr⟩, fun h => ⟨h.rids, h.rposts⟩⟩⟩
  · rw [h1 (by omega)]
    decide
  · rw [h2 (by omega)]
    decide
  · rw [h2 (by omega)]
    intro p hp
    cases hp

set_option maxRecDepth 100000 in
set_option maxHeartbeats 8000000 in
theorem mright_any (k f t e : Int) (vi vp : Value) (ids : List ByteArray) (ts : List (ByteArray × ByteArray)) (v1 v2 v3 v4 v5 : Value) (p : Pol) (l1 l2 l3 l4 l5 : List ByteArray) (w : World) (hi : StrArg w vi ids) (hp : PostRow w vp ts) (hv : PolV w v1 v2 v3 v4 v5 p l1 l2 l3 l4 l5) (hf : fits p) (hli : ids.length ≤ 100000) (hlp : ts.length ≤ 100000) (m : Ms) (hm : m = ⟨k, f, t, e, ids.map bl, ts.map (fun x => (bl x.1, bl x.2)), p⟩) :
    Calls Tryz.prog 23 #[.agg #[.int .i64 k, .int .i64 f, .int .i64 t, .int .i64 e, vi, vp, .int .i64 p.ep, v1, v2, v3, v4, v5, .int .i64 p.dp, .int .i64 p.nd, .int .i64 p.bt]] w fun e w' => (∃ b : Bool, e = .returned (.bool b) ∧ (b = true ↔ MRight m)) ∧ Below w.heap.size w w' := by
  obtain ⟨A, hA⟩ : ∃ A : Array Value, A = #[.int .i64 k, .int .i64 f, .int .i64 t, .int .i64 e, vi, vp, .int .i64 p.ep, v1, v2, v3, v4, v5, .int .i64 p.dp, .int .i64 p.nd, .int .i64 p.bt] := ⟨_, rfl⟩
  obtain ⟨w1, hw1⟩ : ∃ w1, w1 = w.alloc (.cells A 35) := ⟨_, rfl⟩
  have HN : Hid (MBox w A w1) := hide (by rw [hw1]; exact ⟨new_block _ _ _, bel_alloc (Below.refl _ _) _⟩)
  have y0 := HN.out.cell 0 (.int .i64 k) (by rw [hA]; rfl)
  have y1 := HN.out.cell 1 (.int .i64 f) (by rw [hA]; rfl)
  have y2 := HN.out.cell 2 (.int .i64 t) (by rw [hA]; rfl)
  have y3 := HN.out.cell 3 (.int .i64 e) (by rw [hA]; rfl)
  have y4 := HN.out.cell 4 vi (by rw [hA]; rfl)
  have y5 := HN.out.cell 5 vp (by rw [hA]; rfl)
  have HI := hide (hi.below HN.out.2)
  have HP := hide (hp.below HN.out.2)
  have HV := hide hv
  have HM := hide hm
  clear hm
  have HZ : Hid (∀ wx, MBox w A wx → wx.cell? ⟨w.heap.size, 6, none⟩ = some (.int .i64 p.ep) ∧ wx.cell? ⟨w.heap.size, 7, none⟩ = some v1 ∧ wx.cell? ⟨w.heap.size, 8, none⟩ = some v2 ∧ wx.cell? ⟨w.heap.size, 9, none⟩ = some v3 ∧ wx.cell? ⟨w.heap.size, 10, none⟩ = some v4 ∧ wx.cell? ⟨w.heap.size, 11, none⟩ = some v5 ∧ wx.cell? ⟨w.heap.size, 12, none⟩ = some (.int .i64 p.dp) ∧ wx.cell? ⟨w.heap.size, 13, none⟩ = some (.int .i64 p.nd) ∧ wx.cell? ⟨w.heap.size, 14, none⟩ = some (.int .i64 p.bt)) := hide (fun wx h => by
    subst hA
    exact ⟨h.cell 6 _ rfl, h.cell 7 _ rfl, h.cell 8 _ rfl, h.cell 9 _ rfl, h.cell 10 _ rfl, h.cell 11 _ rfl, h.cell 12 _ rfl, h.cell 13 _ rfl, h.cell 14 _ rfl⟩)
  have HA := hide hA
  obtain ⟨pi, ci, rfl, -, -⟩ := id hi
  obtain ⟨pp, cp, rfl, -, -, -⟩ := id hp
  rw [hA] at hw1
  clear hv hA hi hp
  obtain ⟨N, hN⟩ : ∃ N, N = ids.length := ⟨_, rfl⟩
  obtain ⟨M, hM⟩ : ∃ M, M = ts.length := ⟨_, rfl⟩
  rw [← hN, ← hM]
  rw [← hN] at HI y4 hw1
  rw [← hM] at HP y5 hw1
  have HNN := hide hN
  have HMM := hide hM
  clear hN hM HA
  go_enter Tryz.func23, Tryz.ntmps23
  go_upto_region 1 with fail
  rw [← hw1]
  clear hw1
  by_cases c1 : 0 ≤ f ∧ f ≤ 5 ∧ 0 ≤ t ∧ t ≤ 5 ∧ f ≠ t ∧ 0 ≤ e ∧ e ≤ 1000000 ∧ 1 ≤ k ∧ k ≤ 4
  · have HC1 := hide c1
    obtain ⟨a1, a2, a3, a4, a5, a6, a7, a8, a9⟩ := c1
    have d1 : decide (f < 0) = false := decide_eq_false (by omega)
    have d2 : decide (5 < f) = false := decide_eq_false (by omega)
    have d3 : decide (t < 0) = false := decide_eq_false (by omega)
    have d4 : decide (5 < t) = false := decide_eq_false (by omega)
    have d5 : (f == t) = false := by simp [a5]
    have d6 : decide (e < 0) = false := decide_eq_false (by omega)
    have d7 : decide (1000000 < e) = false := decide_eq_false (by omega)
    have d8 : decide (k < 1) = false := decide_eq_false (by omega)
    have d9 : decide (4 < k) = false := decide_eq_false (by omega)
    obtain ⟨z6, z7, z8, z9, z10, z11, z12, z13, z14⟩ := HZ.out w1 HN.out
    have HV1 := hide (HV.out.below HN.out.2)
    go_wp2_with fail
    refine (rsameP_any v1 v2 v3 v4 v5 _ _ _ _ _ p Pol.zero l1 l2 l3 l4 l5 [] [] [] [] [] w1 HV1.out (PolV.zero w1 HV1.out.g) hf fits_zero).mono ?_
    rintro e' w' ⟨rfl, hbel⟩
    obtain ⟨B, hB⟩ : ∃ B, B = sameP p Pol.zero := ⟨_, rfl⟩
    rw [← hB]
    have HBB := hide hB
    have HX : Hid (MBox w A w') := hide (HN.out.keep hbel)
    have x0 := mcell_keep y0 hbel
    have x3 := mcell_keep y3 hbel
    have x4 := mcell_keep y4 hbel
    have x5 := mcell_keep y5 hbel
    have HB := hide hbel
    clear hB hbel y0 y1 y2 y3 y4 y5 z6 z7 z8 z9 z10 z11 z12 z13 z14 d1 d2 d3 d4 d5 d6 d7 d8 d9
    rcases (show k = 1 ∨ k = 2 ∨ k = 3 ∨ k = 4 from by omega) with hk | hk | hk | hk
    · subst hk
      by_cases hMb : 0 < M
      · have HF : Hid (¬ MRight m) := hide (fun h => by
          have h2 := h.posts (by rw [HM.out]; simp)
          rw [HM.out] at h2
          have h3 := congrArg List.length h2
          simp only [List.length_map, List.length_nil] at h3
          have := HMM.out
          omega)
        have dM : decide ((0 : Int) < (M : Int)) = true := decide_eq_true (by omega)
        go_wp2_with fail
        go_ret
        exact ⟨⟨false, rfl, ⟨fun h => (by cases h), fun h => absurd h HF.out⟩⟩, HX.out.2⟩
      · have dM : decide ((0 : Int) < (M : Int)) = false := decide_eq_false (by omega)
        have HPE : Hid (ts.map (fun x => (bl x.1, bl x.2)) = []) := hide (by
          have h : ts = [] := List.eq_nil_of_length_eq_zero (by have := HMM.out; omega)
          rw [h]
          rfl)
        by_cases hB : B = false
        · have HF : Hid (¬ MRight m) := hide (fun h => by
            have h2 := h.pol (by rw [HM.out]; simp)
            rw [HM.out] at h2
            have h3 := (sameP_iff p Pol.zero).2 h2
            rw [← HBB.out, hB] at h3
            cases h3)
          subst hB
          go_wp2_with fail
          go_ret
          exact ⟨⟨false, rfl, ⟨fun h => (by cases h), fun h => absurd h HF.out⟩⟩, HX.out.2⟩
        · have hB2 : B = true := by cases B <;> simp_all
          subst hB2
          have hMc : M ≤ 100000 := by have := HMM.out; omega
          have HBE : Hid (p = Pol.zero) := hide ((sameP_iff p Pol.zero).1 HBB.out.symm)
          go_wp2_with fail
          go_loopg [4] M (fun g v wx => wx = w' ∧ ∃ i : Nat, i + g = M ∧ v = .int .i64 (i : Int) ∧ Hid (∀ j x y, j < i → ts[j]? = some (x, y) → y.size ≤ 2000))
          case atStart => exact ⟨rfl, 0, by omega, rfl, hide (fun j x y h => by omega)⟩
          case round =>
            obtain ⟨hwr, i, hi, rfl, HK⟩ := hrel
            have hwr2 := hwr.symm
            clear hwr
            subst hwr2
            by_cases hlt : i < M
            · exact absurd hlt (by omega)
            · have dlt : decide ((i : Int) < (M : Int)) = false := decide_eq_false (by omega)
              have HG : Hid ((riseI (ids.map bl) = true ∧ riseI ((ts.map (·.1)).map bl) = true) ↔ MRight m) := hide (by
                have h := (mright_go (m := m) (by rw [HM.out]; exact HC1.out) (fun h => absurd (by rw [HM.out]) h) (fun _ => by rw [HM.out]; exact HPE.out) (fun _ => by rw [HM.out]; exact HBE.out) (fun h => by rw [HM.out] at h; simp at h)).2 (by rw [HM.out]; simp) (by
                  rw [HM.out]
                  intro q hq
                  obtain ⟨z, hz, rfl⟩ := List.mem_map.1 hq
                  obtain ⟨j, hj, e⟩ := List.mem_iff_getElem.1 hz
                  have := HK.out j z.1 z.2 (by have := HMM.out; omega) (by rw [List.getElem?_eq_getElem hj, e])
                  show (bl z.2).length ≤ 2000
                  rw [bl_len]
                  exact this)
                rw [← h, HM.out]
                simp only [List.map_map]
                rfl)
              have HI2 := hide (HI.out.below HB.out)
              have HP2 := hide (HP.out.below HB.out)
              clear HK
              go_wp2_with fail
              refine (mrises_any _ ids hli w' HI2.out).mono ?_
              rintro e2 w2 ⟨rfl, hb2⟩
              have x5b := mcell_keep x5 hb2
              have HP3 := hide (HP2.out.below hb2)
              have HX2 := hide (HX.out.keep hb2)
              cases hr1 : riseI (ids.map bl) with
              | false =>
                go_wp2_with fail
                go_ret
                exact ⟨⟨false, rfl, ⟨fun h => (by cases h), fun h => by have := (HG.out.2 h).1; rw [hr1] at this; exact this⟩⟩, HX2.out.2⟩
              | true =>
                go_wp2_with fail
                refine (mids_any _ ts hlp w2 HP3.out).mono ?_
                rintro e3 w3 ⟨⟨u, ss, rfl, hs, hss⟩, hb3⟩
                have HX3 := hide (HX2.out.keep hb3)
                go_wp2_with fail
                refine (mrises_any u ss (by rw [hss, List.length_map]; exact hlp) w3 hs).mono ?_
                rintro e4 w4 ⟨rfl, hb4⟩
                go_wp2_with fail
                go_ret
                refine ⟨⟨_, rfl, ?_⟩, (HX3.out.keep hb4).2⟩
                rw [← HG.out, hr1]
                simp
    · subst hk
      by_cases hNb : 0 < N
      · have HF : Hid (¬ MRight m) := hide (fun h => by
          have h2 := h.ids (by rw [HM.out]; simp)
          rw [HM.out] at h2
          have h3 := congrArg List.length h2
          simp only [List.length_map, List.length_nil] at h3
          have := HNN.out
          omega)
        have dN : decide ((0 : Int) < (N : Int)) = true := decide_eq_true (by omega)
        go_wp2_with fail
        go_ret
        exact ⟨⟨false, rfl, ⟨fun h => (by cases h), fun h => absurd h HF.out⟩⟩, HX.out.2⟩
      · have dN : decide ((0 : Int) < (N : Int)) = false := decide_eq_false (by omega)
        have HIE : Hid (ids.map bl = []) := hide (by
          have h : ids = [] := List.eq_nil_of_length_eq_zero (by have := HNN.out; omega)
          rw [h]
          rfl)
        by_cases hB : B = false
        · have HF : Hid (¬ MRight m) := hide (fun h => by
            have h2 := h.pol (by rw [HM.out]; simp)
            rw [HM.out] at h2
            have h3 := (sameP_iff p Pol.zero).2 h2
            rw [← HBB.out, hB] at h3
            cases h3)
          subst hB
          go_wp2_with fail
          go_ret
          exact ⟨⟨false, rfl, ⟨fun h => (by cases h), fun h => absurd h HF.out⟩⟩, HX.out.2⟩
        · have hB2 : B = true := by cases B <;> simp_all
          by_cases hE : e ≠ 0
          · have HF : Hid (¬ MRight m) := hide (fun h => by
              have h2 := h.noep (by rw [HM.out]; simp)
              rw [HM.out] at h2
              exact hE h2)
            have dE : (e == 0) = false := by simp [hE]
            go_wp2_with fail
            go_ret
            exact ⟨⟨false, rfl, ⟨fun h => (by cases h), fun h => absurd h HF.out⟩⟩, HX.out.2⟩
          · have dE : e = 0 := by omega
            subst hB2
            subst dE
            have hMc : M ≤ 100000 := by have := HMM.out; omega
            have HBE : Hid (p = Pol.zero) := hide ((sameP_iff p Pol.zero).1 HBB.out.symm)
            go_wp2_with fail
            go_loopg [4] M (fun g v wx => wx = w' ∧ ∃ i : Nat, i + g = M ∧ v = .int .i64 (i : Int) ∧ Hid (∀ j x y, j < i → ts[j]? = some (x, y) → y.size ≤ 2000))
            case atStart => exact ⟨rfl, 0, by omega, rfl, hide (fun j x y h => by omega)⟩
            case round =>
              obtain ⟨hwr, i, hi, rfl, HK⟩ := hrel
              have hwr2 := hwr.symm
              clear hwr
              subst hwr2
              by_cases hlt : i < M
              · obtain ⟨xy, hxy⟩ : ∃ y, ts[i]? = some y := ⟨_, List.getElem?_eq_getElem (by rw [← HMM.out]; exact hlt)⟩
                obtain ⟨x, y⟩ := xy
                have dlt : decide ((i : Int) < (M : Int)) = true := decide_eq_true (by omega)
                obtain ⟨b, off, rfl, q2⟩ : ∃ b off, pp = some ⟨b, off, none⟩ ∧ w'.cell? ⟨b, off + i * 2 + 1, none⟩ = some (.string y) := by
                  obtain ⟨p', cap', e, _, _, hc⟩ := HP.out.below HB.out
                  injection e with e1 e2 e3
                  obtain ⟨b, off, e4, _, h⟩ := hc i x y hxy
                  exact ⟨b, off, e1.trans e4, h⟩
                by_cases h2k : 2000 < y.size
                · have HF : Hid (¬ MRight m) := hide (fun h => by
                    have h2 := h.raws (bl x, bl y) (by rw [HM.out]; exact List.mem_map_of_mem (f := fun x : ByteArray × ByteArray => (bl x.1, bl x.2)) (List.mem_of_getElem? hxy))
                    have h3 : (bl y).length ≤ 2000 := h2
                    rw [bl_len] at h3
                    omega)
                  have d2 : decide ((2000 : Int) < (y.size : Int)) = true := decide_eq_true (by omega)
                  clear hxy HK
                  go_wp2_with fail
                  go_ret
                  exact ⟨⟨false, rfl, ⟨fun h => (by cases h), fun h => absurd h HF.out⟩⟩, HX.out.2⟩
                · have d2 : decide ((2000 : Int) < (y.size : Int)) = false := decide_eq_false (by omega)
                  have HK2 : Hid (∀ j x y, j < i + 1 → ts[j]? = some (x, y) → y.size ≤ 2000) := hide (fun j x' y' hj h => by
                    by_cases hji : j = i
                    · subst hji
                      rw [hxy] at h
                      injection h with h
                      injection h with h1 h2
                      rw [← h2]
                      omega
                    · exact HK.out j x' y' (by omega) h)
                  clear hxy HK
                  go_wp2_with fail
                  go_roundg (M - i - 1)
                  case measure => omega
                  case rel => exact ⟨rfl, i + 1, by omega, by first | rfl | simp, HK2⟩
              · have dlt : decide ((i : Int) < (M : Int)) = false := decide_eq_false (by omega)
                have HG : Hid ((riseI (ids.map bl) = true ∧ riseI ((ts.map (·.1)).map bl) = true) ↔ MRight m) := hide (by
                  have h := (mright_go (m := m) (by rw [HM.out]; exact HC1.out) (fun _ => by rw [HM.out]; exact HIE.out) (fun h => absurd (by rw [HM.out]) h) (fun _ => by rw [HM.out]; exact HBE.out) (fun _ => by rw [HM.out])).2 (by rw [HM.out]; simp) (by
                    rw [HM.out]
                    intro q hq
                    obtain ⟨z, hz, rfl⟩ := List.mem_map.1 hq
                    obtain ⟨j, hj, e⟩ := List.mem_iff_getElem.1 hz
                    have := HK.out j z.1 z.2 (by have := HMM.out; omega) (by rw [List.getElem?_eq_getElem hj, e])
                    show (bl z.2).length ≤ 2000
                    rw [bl_len]
                    exact this)
                  rw [← h, HM.out]
                  simp only [List.map_map]
                  rfl)
                have HI2 := hide (HI.out.below HB.out)
                have HP2 := hide (HP.out.below HB.out)
                clear HK
                go_wp2_with fail
                refine (mrises_any _ ids hli w' HI2.out).mono ?_
                rintro e2 w2 ⟨rfl, hb2⟩
                have x5b := mcell_keep x5 hb2
                have HP3 := hide (HP2.out.below hb2)
                have HX2 := hide (HX.out.keep hb2)
                cases hr1 : riseI (ids.map bl) with
                | false =>
                  go_wp2_with fail
                  go_ret
                  exact ⟨⟨false, rfl, ⟨fun h => (by cases h), fun h => by have := (HG.out.2 h).1; rw [hr1] at this; exact this⟩⟩, HX2.out.2⟩
                | true =>
                  go_wp2_with fail
                  refine (mids_any _ ts hlp w2 HP3.out).mono ?_
                  rintro e3 w3 ⟨⟨u, ss, rfl, hs, hss⟩, hb3⟩
                  have HX3 := hide (HX2.out.keep hb3)
                  go_wp2_with fail
                  refine (mrises_any u ss (by rw [hss, List.length_map]; exact hlp) w3 hs).mono ?_
                  rintro e4 w4 ⟨rfl, hb4⟩
                  go_wp2_with fail
                  go_ret
                  refine ⟨⟨_, rfl, ?_⟩, (HX3.out.keep hb4).2⟩
                  rw [← HG.out, hr1]
                  simp
    · subst hk
      by_cases hNb : 0 < N
      · have HF : Hid (¬ MRight m) := hide (fun h => by
          have h2 := h.ids (by rw [HM.out]; simp)
          rw [HM.out] at h2
          have h3 := congrArg List.length h2
          simp only [List.length_map, List.length_nil] at h3
          have := HNN.out
          omega)
        have dN : decide ((0 : Int) < (N : Int)) = true := decide_eq_true (by omega)
        go_wp2_with fail
        go_ret
        exact ⟨⟨false, rfl, ⟨fun h => (by cases h), fun h => absurd h HF.out⟩⟩, HX.out.2⟩
      · have dN : decide ((0 : Int) < (N : Int)) = false := decide_eq_false (by omega)
        have HIE : Hid (ids.map bl = []) := hide (by
          have h : ids = [] := List.eq_nil_of_length_eq_zero (by have := HNN.out; omega)
          rw [h]
          rfl)
        by_cases hMb : 0 < M
        · have HF : Hid (¬ MRight m) := hide (fun h => by
            have h2 := h.posts (by rw [HM.out]; simp)
            rw [HM.out] at h2
            have h3 := congrArg List.length h2
            simp only [List.length_map, List.length_nil] at h3
            have := HMM.out
            omega)
          have dM : decide ((0 : Int) < (M : Int)) = true := decide_eq_true (by omega)
          go_wp2_with fail
          go_ret
          exact ⟨⟨false, rfl, ⟨fun h => (by cases h), fun h => absurd h HF.out⟩⟩, HX.out.2⟩
        · have dM : decide ((0 : Int) < (M : Int)) = false := decide_eq_false (by omega)
          have HPE : Hid (ts.map (fun x => (bl x.1, bl x.2)) = []) := hide (by
            have h : ts = [] := List.eq_nil_of_length_eq_zero (by have := HMM.out; omega)
            rw [h]
            rfl)
          by_cases hE : e ≠ 0
          · have HF : Hid (¬ MRight m) := hide (fun h => by
              have h2 := h.noep (by rw [HM.out]; simp)
              rw [HM.out] at h2
              exact hE h2)
            have dE : (e == 0) = false := by simp [hE]
            go_wp2_with fail
            go_ret
            exact ⟨⟨false, rfl, ⟨fun h => (by cases h), fun h => absurd h HF.out⟩⟩, HX.out.2⟩
          · have dE : e = 0 := by omega
            subst dE
            have HG : Hid (Pol8.right p = true ↔ MRight m) := hide (by
              have h := (mright_go (m := m) (by rw [HM.out]; exact HC1.out) (fun _ => by rw [HM.out]; exact HIE.out) (fun _ => by rw [HM.out]; exact HPE.out) (fun h => absurd (by rw [HM.out]) h) (fun _ => by rw [HM.out])).1 (by rw [HM.out])
              rw [HM.out] at h ⊢
              exact h)
            obtain ⟨z6, z7, z8, z9, z10, z11, z12, z13, z14⟩ := HZ.out w' HX.out
            go_wp2_with fail
            refine (rright_any v1 v2 v3 v4 v5 p l1 l2 l3 l4 l5 w' (HV.out.below HX.out.2) hf).mono ?_
            rintro e2 w2 ⟨rfl, hb2⟩
            go_wp2_with fail
            go_ret
            exact ⟨⟨_, rfl, HG.out⟩, (HX.out.keep hb2).2⟩
    · subst hk
      by_cases hNb : 0 < N
      · have HF : Hid (¬ MRight m) := hide (fun h => by
          have h2 := h.ids (by rw [HM.out]; simp)
          rw [HM.out] at h2
          have h3 := congrArg List.length h2
          simp only [List.length_map, List.length_nil] at h3
          have := HNN.out
          omega)
        have dN : decide ((0 : Int) < (N : Int)) = true := decide_eq_true (by omega)
        go_wp2_with fail
        go_ret
        exact ⟨⟨false, rfl, ⟨fun h => (by cases h), fun h => absurd h HF.out⟩⟩, HX.out.2⟩
      · have dN : decide ((0 : Int) < (N : Int)) = false := decide_eq_false (by omega)
        have HIE : Hid (ids.map bl = []) := hide (by
          have h : ids = [] := List.eq_nil_of_length_eq_zero (by have := HNN.out; omega)
          rw [h]
          rfl)
        by_cases hMb : 0 < M
        · have HF : Hid (¬ MRight m) := hide (fun h => by
            have h2 := h.posts (by rw [HM.out]; simp)
            rw [HM.out] at h2
            have h3 := congrArg List.length h2
            simp only [List.length_map, List.length_nil] at h3
            have := HMM.out
            omega)
          have dM : decide ((0 : Int) < (M : Int)) = true := decide_eq_true (by omega)
          go_wp2_with fail
          go_ret
          exact ⟨⟨false, rfl, ⟨fun h => (by cases h), fun h => absurd h HF.out⟩⟩, HX.out.2⟩
        · have dM : decide ((0 : Int) < (M : Int)) = false := decide_eq_false (by omega)
          have HPE : Hid (ts.map (fun x => (bl x.1, bl x.2)) = []) := hide (by
            have h : ts = [] := List.eq_nil_of_length_eq_zero (by have := HMM.out; omega)
            rw [h]
            rfl)
          by_cases hB : B = false
          · have HF : Hid (¬ MRight m) := hide (fun h => by
              have h2 := h.pol (by rw [HM.out]; simp)
              rw [HM.out] at h2
              have h3 := (sameP_iff p Pol.zero).2 h2
              rw [← HBB.out, hB] at h3
              cases h3)
            subst hB
            go_wp2_with fail
            go_ret
            exact ⟨⟨false, rfl, ⟨fun h => (by cases h), fun h => absurd h HF.out⟩⟩, HX.out.2⟩
          · have hB2 : B = true := by cases B <;> simp_all
            subst hB2
            have hMc : M ≤ 100000 := by have := HMM.out; omega
            have HBE : Hid (p = Pol.zero) := hide ((sameP_iff p Pol.zero).1 HBB.out.symm)
            go_wp2_with fail
            go_loopg [4] M (fun g v wx => wx = w' ∧ ∃ i : Nat, i + g = M ∧ v = .int .i64 (i : Int) ∧ Hid (∀ j x y, j < i → ts[j]? = some (x, y) → y.size ≤ 2000))
            case atStart => exact ⟨rfl, 0, by omega, rfl, hide (fun j x y h => by omega)⟩
            case round =>
              obtain ⟨hwr, i, hi, rfl, HK⟩ := hrel
              have hwr2 := hwr.symm
              clear hwr
              subst hwr2
              by_cases hlt : i < M
              · exact absurd hlt (by omega)
              · have dlt : decide ((i : Int) < (M : Int)) = false := decide_eq_false (by omega)
                have HG : Hid ((riseI (ids.map bl) = true ∧ riseI ((ts.map (·.1)).map bl) = true) ↔ MRight m) := hide (by
                  have h := (mright_go (m := m) (by rw [HM.out]; exact HC1.out) (fun _ => by rw [HM.out]; exact HIE.out) (fun _ => by rw [HM.out]; exact HPE.out) (fun _ => by rw [HM.out]; exact HBE.out) (fun h => by rw [HM.out] at h; simp at h)).2 (by rw [HM.out]; simp) (by
                    rw [HM.out]
                    intro q hq
                    obtain ⟨z, hz, rfl⟩ := List.mem_map.1 hq
                    obtain ⟨j, hj, e⟩ := List.mem_iff_getElem.1 hz
                    have := HK.out j z.1 z.2 (by have := HMM.out; omega) (by rw [List.getElem?_eq_getElem hj, e])
                    show (bl z.2).length ≤ 2000
                    rw [bl_len]
                    exact this)
                  rw [← h, HM.out]
                  simp only [List.map_map]
                  rfl)
                have HI2 := hide (HI.out.below HB.out)
                have HP2 := hide (HP.out.below HB.out)
                clear HK
                go_wp2_with fail
                refine (mrises_any _ ids hli w' HI2.out).mono ?_
                rintro e2 w2 ⟨rfl, hb2⟩
                have x5b := mcell_keep x5 hb2
                have HP3 := hide (HP2.out.below hb2)
                have HX2 := hide (HX.out.keep hb2)
                cases hr1 : riseI (ids.map bl) with
                | false =>
                  go_wp2_with fail
                  go_ret
                  exact ⟨⟨false, rfl, ⟨fun h => (by cases h), fun h => by have := (HG.out.2 h).1; rw [hr1] at this; exact this⟩⟩, HX2.out.2⟩
                | true =>
                  go_wp2_with fail
                  refine (mids_any _ ts hlp w2 HP3.out).mono ?_
                  rintro e3 w3 ⟨⟨u, ss, rfl, hs, hss⟩, hb3⟩
                  have HX3 := hide (HX2.out.keep hb3)
                  go_wp2_with fail
                  refine (mrises_any u ss (by rw [hss, List.length_map]; exact hlp) w3 hs).mono ?_
                  rintro e4 w4 ⟨rfl, hb4⟩
                  go_wp2_with fail
                  go_ret
                  refine ⟨⟨_, rfl, ?_⟩, (HX3.out.keep hb4).2⟩
                  rw [← HG.out, hr1]
                  simp
  · have HF : Hid (¬ MRight m) := hide (fun h => c1 (by
      rw [HM.out] at h
      exact ⟨h.fr.1, h.fr.2, h.to.1, h.to.2, h.ne, h.ep.1, h.ep.2, h.kind.1, h.kind.2⟩))
    go_wp2_with fail
    all_goals (go_ret; first | exact ⟨.inl ⟨rfl, HF.out⟩, HN.out.2⟩ | exact ⟨⟨false, rfl, ⟨fun h => (by cases h), fun h => absurd h HF.out⟩⟩, HN.out.2⟩)
end Go.Proofs.YtmogplecohkjcaaGreatDoor
