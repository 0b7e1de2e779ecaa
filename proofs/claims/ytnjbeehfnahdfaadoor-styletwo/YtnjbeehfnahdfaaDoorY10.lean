/-
  The document's own Filter.
-/
import Derived.Test.YtnjbeehfnahdfaaDoorY9
import Derived.Test.YtnjbeehfnahdfaaDoorY6
namespace Go.Proofs.YtnjbeehfnahdfaaDoor
open Go.RowKit
open Utf1 Sty

set_option maxRecDepth 100000 in
set_option maxHeartbeats 16000000 in
theorem rfilter_any (s : ByteArray) (v : Value) (ss : List ByteArray) (hs : s.size ≤ 90000) (hl : ss.length ≤ 100000) (w : World) (hv : StrArg w v ss) :
    Calls Tryd.prog 11 #[.string s, v] w fun e w' => e = .returned (.string ⟨(filt (ss.map bl) (bl s)).toArray⟩) ∧ Below w.heap.size w w' := by
  obtain ⟨i0, hi, hz0, hz1, hz2⟩ := info_parts infoStr
  have CP := hide (fun w => parts_any s (by omega) w)
  have HV := hide hv
  obtain ⟨p, cap, rfl, -, -⟩ := hv
  obtain ⟨M, hM⟩ : ∃ M, M = ss.length := ⟨_, rfl⟩
  rw [← hM] at hl ⊢
  have HM := hide hM
  rw [← hM] at HV
  clear hM
  obtain ⟨R, hR⟩ : ∃ R : ByteArray, R = ⟨(filt (ss.map bl) (bl s)).toArray⟩ := ⟨_, rfl⟩
  rw [← hR]
  have HRES := hide hR
  clear hR
  go_enter Tryd.func11, Tryd.ntmps11
  go_wp2_with fail
  refine (CP.out _).mono ?_
  rintro e w1 ⟨pv, ps, rfl, hpv, hps, hb1⟩
  have HPV := hide hpv
  obtain ⟨pp0, pcap, rfl, -, -⟩ := hpv
  have HPS := hide hps
  have HB1 := hide hb1
  have hpl : ps.length ≤ 90001 := by
    have h1 := segs_count (bl s)
    rw [← hps, List.length_map, bl_len] at h1
    omega
  obtain ⟨N, hN⟩ : ∃ N, N = ps.length := ⟨_, rfl⟩
  rw [← hN] at hpl HPV ⊢
  have HN := hide hN
  clear hN hps hb1 CP
  go_wp2_with fail
  go_loopg [5, 6, 8] N (fun g v5 v6 v8 wr => ∃ (i n c1 c2 : Nat) (p1 p2 : Option Addr), i + g = N ∧ n ≤ i ∧ v5 = .slice p1 n c1 ∧ v6 = .slice p2 n c2 ∧ v8 = .int .i64 (i : Int) ∧ Hid (n = (stK (ss.map bl) (segs (bl s)) i).length ∧ Two w1.heap.size (.slice p1 n c1) (.slice p2 n c2) (stK (ss.map bl) (segs (bl s)) i) wr ∧ Below w1.heap.size w1 wr))
  case atStart => exact ⟨0, 0, 0, 0, none, none, by omega, Nat.le_refl _, rfl, rfl, rfl, hide ⟨rfl, ⟨⟨rfl, .inl ⟨rfl, rfl⟩⟩, ⟨rfl, .inl ⟨rfl, rfl⟩⟩, .inl rfl⟩, Below.refl _ _⟩⟩
  case round =>
    obtain ⟨i, n, c1, c2, p1, p2, hig, hni, rfl, rfl, rfl, HR⟩ := hrel
    by_cases hlt : i < N
    · obtain ⟨Y, hY⟩ : ∃ Y, ps[i]? = some Y := ⟨_, List.getElem?_eq_getElem (by rw [← HN.out]; exact hlt)⟩
      have hYs : (segs (bl s))[i]? = some (bl Y) := by rw [← HPS.out, List.getElem?_map, hY]; rfl
      have hYl : Y.size ≤ 90000 := by
        have := seg_len (bl s) (bl Y) (List.mem_of_getElem? hYs)
        rw [bl_len, bl_len] at this
        omega
      have HST := hide (stK_step (ss.map bl) (segs (bl s)) i (bl Y) hYs)
      obtain ⟨pb, poff, rfl, x0⟩ : ∃ b off, pp0 = some ⟨b, off, none⟩ ∧ w1.cell? ⟨b, off + i, none⟩ = some (.string Y) := by
        obtain ⟨p', cap', e, -, hc⟩ := HPV.out
        injection e with e1 e2 e3
        obtain ⟨b, off, e4, h⟩ := hc i Y hY
        exact ⟨b, off, e1.trans e4, h⟩
      have X0 : Hid (∀ wx, Below w1.heap.size w1 wx → wx.cell? ⟨pb, poff + i, none⟩ = some (.string Y)) := hide (fun wx h => cell_keep x0 h)
      have y0 := X0.out wr HR.out.2.2
      clear x0 hY hYs
      by_cases hcol : (58 : UInt8) ∈ bl Y
      · obtain ⟨A, V, hAV, hnA⟩ := split_ba Y 58 hcol
        have hsz : Y.size = A.size + 1 + V.size := by
          have := congrArg List.length hAV
          rw [bl_len, List.length_append, List.length_cons, bl_len, bl_len] at this
          omega
        have HAT : Hid (∀ j c, (bl Y)[j]? = some c → (j < A.size → c ≠ 58) ∧ (j = A.size → c = 58)) := hide (fun j c h => by
          rw [hAV] at h
          constructor
          · intro hj
            rw [List.getElem?_append_left (by rw [bl_len]; exact hj)] at h
            intro e
            exact hnA (by rw [← e]; exact List.mem_of_getElem? h)
          · rintro rfl
            rw [List.getElem?_append_right (by rw [bl_len]; exact Nat.le_refl _), bl_len, Nat.sub_self] at h
            simp at h
            exact h.symm)
        have HEA : Hid (Y.extract 0 A.size = A) := hide (by
          apply ba_ext
          rw [extract_bl, hAV]
          have : A.size = (bl A).length := (bl_len A).symm
          rw [this]
          simp)
        have HEV : Hid (Y.extract (A.size + 1) Y.size = V) := hide (by
          apply ba_ext
          rw [extract_bl, hAV, List.drop_append, bl_len, List.drop_eq_nil_of_le (by rw [bl_len]; omega), show A.size + 1 - A.size = 1 by omega]
          simp
          rw [List.take_of_length_le (by rw [bl_len]; omega)])
        have HST2 : Hid (stK (ss.map bl) (segs (bl s)) (i + 1) = stK (ss.map bl) (segs (bl s)) i ++ [(pl (bl A), pl (bl V))].filter (keep (ss.map bl))) := hide (by rw [HST.out, hAV, pp_some _ _ hnA])
        have CA := hide (fun w => rbare_any A (by omega) w)
        have CV := hide (fun w => rbare_any V (by omega) w)
        have HPL : Hid ((⟨(pl (bl A)).toArray⟩ : ByteArray).size ≤ 90000 ∧ (⟨(pl (bl V)).toArray⟩ : ByteArray).size ≤ 90000) := hide (by
          have h1 := pl_len (bl A)
          have h2 := pl_len (bl V)
          rw [bl_len] at h1 h2
          rw [size_mk, size_mk]
          omega)
        clear hAV hnA hcol HST
        have hAY : A.size < Y.size := by omega
        have HSZ := hide hsz
        clear hsz
        go_wp2_with fail
        go_loopg [9] A.size (fun g2 v9 wx => wx = wr ∧ ∃ k : Nat, k + g2 = A.size ∧ v9 = .int .i64 (k : Int))
        case atStart => exact ⟨rfl, 0, by omega, rfl⟩
        case round =>
          obtain ⟨rfl, k, hk, rfl⟩ := hrel
          obtain ⟨c, hc⟩ := getK Y k (by omega)
          have ik := fun w => idxK hc w
          have k58 : ((c.toNat : Int) != 58) = decide (c ≠ 58) := by
            by_cases h : c = 58
            · rw [decide_eq_false (fun e => e h), h]; rfl
            · rw [decide_eq_true h]
              have : ¬ (c.toNat : Int) = 58 := fun e => h ((u8_eq (n := 58) (by decide)).2 (by omega))
              simpa using this
          have hkk := HAT.out k c hc
          clear hc
          by_cases hka : k < A.size
          · rw [decide_eq_true (hkk.1 hka)] at k58
            generalize (c.toNat : Int) = z at ik k58
            have hkY : k < Y.size := by omega
            clear hkk
            go_wp2_with fail
            go_roundg (A.size - k - 1)
            case measure => omega
            case rel => exact ⟨rfl, k + 1, by omega, by first | rfl | simp⟩
          · have hkA : k = A.size := by omega
            subst hkA
            rw [decide_eq_false (fun e => e (hkk.2 rfl))] at k58
            generalize (c.toNat : Int) = z at ik k58
            have keq : ((A.size : Int) == (Y.size : Int)) = false := beq_eq_false_iff_ne.2 (by omega)
            have hEA := HEA.out
            have hEV := HEV.out
            clear hkk hka hk HAT
            go_wp2_with fail
            refine (CA.out _).mono ?_
            rintro e w2 ⟨rfl, hb2⟩
            have y2 := X0.out w2 (HR.out.2.2.trans (hb2.mono HR.out.2.2.size))
            have HB2 := hide hb2
            clear hb2 CA y0
            go_wp2_with fail
            refine (CV.out _).mono ?_
            rintro e w3 ⟨rfl, hb3⟩
            have HB3 := hide (bel2' HB2.out hb3)
            obtain ⟨PA, hPA⟩ : ∃ PA : ByteArray, PA = ⟨(pl (bl A)).toArray⟩ := ⟨_, rfl⟩
            obtain ⟨PV, hPV⟩ : ∃ PV : ByteArray, PV = ⟨(pl (bl V)).toArray⟩ := ⟨_, rfl⟩
            rw [← hPA, ← hPV] at HPL
            rw [← hPA, ← hPV]
            have HPA := hide hPA
            have HPV2 := hide hPV
            have HVA : Hid (StrArg w3 (.slice p M cap) ss) := hide (HV.out.below (HB1.out.trans ((HR.out.2.2.trans (HB3.out.mono HR.out.2.2.size)).mono HB1.out.size)))
            obtain ⟨st, hst⟩ : ∃ st, st = stK (ss.map bl) (segs (bl s)) i := ⟨_, rfl⟩
            have HR3 : Hid (n = st.length ∧ Two w1.heap.size (.slice p1 n c1) (.slice p2 n c2) st w3 ∧ Below w1.heap.size w1 w3) := hide ⟨by rw [hst]; exact HR.out.1, by rw [hst]; exact HR.out.2.1.keep HB3.out, HR.out.2.2.trans (HB3.out.mono HR.out.2.2.size)⟩
            have HST3 : Hid (stK (ss.map bl) (segs (bl s)) (i + 1) = st ++ [(pl (bl A), pl (bl V))].filter (keep (ss.map bl))) := hide (by rw [hst]; exact HST2.out)
            clear hb3 CV y2 hPA hPV ik k58 keq hEA hEV HEA HEV HB2 hst HR HB3 X0 HST2
            go_wp2_with fail
            go_loopg [12, 13] M (fun g3 v12 v13 wx => wx = w3 ∧ ∃ (k : Nat) (b : Bool), k + g3 = M ∧ v12 = .bool b ∧ v13 = .int .i64 (k : Int) ∧ Hid (b = decide (bl PA ∈ (ss.take k).map bl)))
            case atStart => exact ⟨rfl, 0, false, by omega, rfl, rfl, hide (by simp)⟩
            case round =>
              obtain ⟨rfl, k, b, hk, rfl, rfl, HK⟩ := hrel
              by_cases hkM : k < M
              · obtain ⟨y, hy⟩ : ∃ y, ss[k]? = some y := ⟨_, List.getElem?_eq_getElem (by rw [← HM.out]; exact hkM)⟩
                obtain ⟨qb, qoff, rfl, z0⟩ : ∃ b off, p = some ⟨b, off, none⟩ ∧ wr.cell? ⟨b, off + k, none⟩ = some (.string y) := by
                  obtain ⟨p', cap', e, -, hc⟩ := HVA.out
                  injection e with e1 e2 e3
                  obtain ⟨b, off, e4, h⟩ := hc k y hy
                  exact ⟨b, off, e1.trans e4, h⟩
                have q0 := eq_two y PA
                have HMS := hide (mem_step (X := PA) hy)
                clear hy
                cases b with
                | true =>
                  have HK2 : Hid (true = decide (bl PA ∈ (ss.take (k + 1)).map bl)) := hide (by
                    have h1 := HK.out
                    exact (decide_eq_true (HMS.out.2 (.inl (of_decide_eq_true h1.symm)))).symm)
                  clear HK HMS q0
                  go_wp2_with fail
                  go_roundg (M - k - 1)
                  case measure => omega
                  case rel => exact ⟨rfl, k + 1, true, by omega, rfl, by first | rfl | simp, HK2⟩
                | false =>
                  have hno : ¬ bl PA ∈ (ss.take k).map bl := fun h => by
                    have h1 := HK.out
                    rw [decide_eq_true h] at h1
                    cases h1
                  have HNO := hide hno
                  clear hno
                  by_cases hyP : bl y = bl PA
                  · rw [decide_eq_true hyP] at q0
                    have HK2 : Hid (true = decide (bl PA ∈ (ss.take (k + 1)).map bl)) := hide (decide_eq_true (HMS.out.2 (.inr hyP))).symm
                    clear HK HMS hyP HNO
                    go_wp2_with fail
                    go_roundg (M - k - 1)
                    case measure => omega
                    case rel => exact ⟨rfl, k + 1, true, by omega, rfl, by first | rfl | simp, HK2⟩
                  · rw [decide_eq_false hyP] at q0
                    have HK2 : Hid (false = decide (bl PA ∈ (ss.take (k + 1)).map bl)) := hide (decide_eq_false (fun h => (HMS.out.1 h).elim HNO.out hyP)).symm
                    clear HK HMS hyP HNO
                    go_wp2_with fail
                    go_roundg (M - k - 1)
                    case measure => omega
                    case rel => exact ⟨rfl, k + 1, false, by omega, rfl, by first | rfl | simp, HK2⟩
              · have HKE : Hid (keep (ss.map bl) (pl (bl A), pl (bl V)) = (b && okv (bl PV))) := hide (by
                  have h1 := HK.out
                  rw [List.take_of_length_le (by rw [← HM.out]; omega)] at h1
                  unfold keep
                  rw [h1, HPA.out, HPV2.out])
                clear HK
                have HNOT : Hid (keep (ss.map bl) (pl (bl A), pl (bl V)) = false → n = (stK (ss.map bl) (segs (bl s)) (i + 1)).length ∧ Two w1.heap.size (.slice p1 n c1) (.slice p2 n c2) (stK (ss.map bl) (segs (bl s)) (i + 1)) wr ∧ Below w1.heap.size w1 wr) := hide (fun h => by
                  have e : stK (ss.map bl) (segs (bl s)) (i + 1) = st := by rw [HST3.out, List.filter_cons, h]; simp
                  rw [e]
                  exact HR3.out)
                cases b with
                | false =>
                  have HR4 := hide (HNOT.out (by rw [HKE.out]; rfl))
                  clear HNOT HKE HR3 HST3
                  go_wp2_with fail
                  go_roundg (N - i - 1)
                  case measure => omega
                  case rel => exact ⟨i + 1, n, c1, c2, p1, p2, by omega, by omega, rfl, rfl, by first | rfl | simp, HR4⟩
                | true =>
                  have cv := fun w => rvalue_any PV (by have := HPL.out; omega) w
                  cases hov : okv (bl PV) with
                  | false =>
                    rw [hov] at cv
                    have HR4 := hide (HNOT.out (by rw [HKE.out, hov]; rfl))
                    clear HNOT HKE HR3 HST3 hov
                    go_wp2_with fail
                    refine (cv _).mono ?_
                    rintro e w4 ⟨rfl, rfl⟩
                    go_wp2_with fail
                    go_roundg (N - i - 1)
                    case measure => omega
                    case rel => exact ⟨i + 1, n, c1, c2, p1, p2, by omega, by omega, rfl, rfl, by first | rfl | simp, HR4⟩
                  | true =>
                    rw [hov] at cv
                    have HST4 : Hid (stK (ss.map bl) (segs (bl s)) (i + 1) = st ++ [(pl (bl A), pl (bl V))]) := hide (by rw [HST3.out, List.filter_cons, HKE.out, hov]; simp)
                    clear HNOT HKE HST3 hov
                    have HOW1 : Hid ((wr.alloc (.cells #[.string PA] 9)).ownsRow w1.heap.size 9 1 (.slice p1 n c1) n (strV (nmB st))) := hide (by
                      have h1 := HR3.out.2.1.rn.alloc (.cells #[.string PA] 9)
                      rw [← HR3.out.1] at h1
                      exact h1)
                    have HSZ1 : Hid (w1.heap.size ≤ (wr.alloc (.cells #[.string PA] 9)).heap.size) := hide (by have := HR3.out.2.2.size; simp; omega)
                    go_wp2_with fail
                    refine (cv _).mono ?_
                    rintro e w4 ⟨rfl, rfl⟩
                    clear cv
                    go_wp2_with (at_builtin; refine wpList_append_own_at _ rfl _ _ 22 rfl w1.heap.size 9 i0 _ 1 16 Tryd.underlying22 hi hz0 hz1 hz2 rfl (by decide) (.slice p1 n c1) n (strV (nmB st)) rfl HOW1.out ⟨w4.heap.size, 0, none⟩ 1 1 [.string PA] rfl rfl (one_new _ _ _) (by simp [Value.oneCell']) (by unfold maxLen; omega) (by omega) HSZ1.out ?_)
                    intro u1 w5 hown5 hg5 _ hloc5
                    obtain ⟨p1', c1', rfl, -⟩ := own_shape hown5
                    have HP1 := hide (two_push1 (vn' := .slice p1' (n + 1) c1') HR3.out.2.1 HR3.out.2.2.size hg5 hloc5)
                    have HO5 := hide hown5
                    have HSZ2 : Hid (w1.heap.size ≤ w5.heap.size) := hide (by have h1 := HP1.out.2.2.size; have h2 := HR3.out.2.2.size; omega)
                    have HOW2 : Hid ((w5.alloc (.cells #[.string PV] 9)).ownsRow w1.heap.size 9 1 (.slice p2 n c2) n (strV (vlB st))) := hide (by
                      have h1 := HP1.out.1.alloc (.cells #[.string PV] 9)
                      rw [← HR3.out.1] at h1
                      exact h1)
                    have HSZ3 : Hid (w1.heap.size ≤ (w5.alloc (.cells #[.string PV] 9)).heap.size) := hide (by have := HSZ2.out; simp; omega)
                    clear hown5 hg5 hloc5 HOW1 HSZ1
                    go_wp2_with (at_builtin; refine wpList_append_own_at _ rfl _ _ 22 rfl w1.heap.size 9 i0 _ 1 16 Tryd.underlying22 hi hz0 hz1 hz2 rfl (by decide) (.slice p2 n c2) n (strV (vlB st)) rfl HOW2.out ⟨w5.heap.size, 0, none⟩ 1 1 [.string PV] rfl rfl (one_new _ _ _) (by simp [Value.oneCell']) (by unfold maxLen; omega) (by omega) HSZ3.out ?_)
                    intro u2 w6 hown6 hg6 _ hloc6
                    obtain ⟨p2', c2', rfl, -⟩ := own_shape hown6
                    have HR4 : Hid (n + 1 = (stK (ss.map bl) (segs (bl s)) (i + 1)).length ∧ Two w1.heap.size (.slice p1' (n + 1) c1') (.slice p2' (n + 1) c2') (stK (ss.map bl) (segs (bl s)) (i + 1)) w6 ∧ Below w1.heap.size w1 w6) := hide (by
                      rw [HST4.out]
                      have ho5 := HO5.out
                      have ho6 := hown6
                      have e := HR3.out.1
                      rw [HPA.out] at ho5
                      rw [HPV2.out] at ho6
                      obtain ⟨h1, h2⟩ := two_push2 (vn' := .slice p1' (n + 1) c1') (vv := .slice p2 n c2) (vv' := .slice p2' (n + 1) c2') (st := st) (pl (bl A), pl (bl V)) (by rw [← e]; exact ho5) HP1.out.1 HP1.out.2.1 HSZ2.out (by rw [← e]; exact ho6) hg6 hloc6
                      exact ⟨by rw [List.length_append, ← e]; rfl, h1, HR3.out.2.2.trans (HP1.out.2.2.trans h2)⟩)
                    clear hown6 hg6 hloc6 HOW2 HSZ2 HSZ3 HO5 HP1 HST4 HR3
                    go_wp2_with fail
                    go_roundg (N - i - 1)
                    case measure => omega
                    case rel => exact ⟨i + 1, n + 1, c1', c2', p1', p2', by omega, by omega, rfl, rfl, by first | rfl | simp, HR4⟩
      · have HST2 : Hid (stK (ss.map bl) (segs (bl s)) (i + 1) = stK (ss.map bl) (segs (bl s)) i) := hide (by rw [HST.out, pp_none _ hcol]; simp)
        have HAT : Hid (∀ (j : Nat) (c : UInt8), (bl Y)[j]? = some c → c ≠ 58) := hide (fun j c h e => hcol (by subst e; exact List.mem_of_getElem? h))
        have HR4 : Hid (n = (stK (ss.map bl) (segs (bl s)) (i + 1)).length ∧ Two w1.heap.size (.slice p1 n c1) (.slice p2 n c2) (stK (ss.map bl) (segs (bl s)) (i + 1)) wr ∧ Below w1.heap.size w1 wr) := hide (by rw [HST2.out]; exact HR.out)
        clear hcol HST HST2 HR X0
        go_wp2_with fail
        go_loopg [9] Y.size (fun g2 v9 wx => wx = wr ∧ ∃ k : Nat, k + g2 = Y.size ∧ v9 = .int .i64 (k : Int))
        case atStart => exact ⟨rfl, 0, by omega, rfl⟩
        case round =>
          obtain ⟨rfl, k, hk, rfl⟩ := hrel
          by_cases hkY : k < Y.size
          · obtain ⟨c, hc⟩ := getK Y k hkY
            have ik := fun w => idxK hc w
            have hc58 := HAT.out k c hc
            have k58 : ((c.toNat : Int) != 58) = true := by
              have : ¬ (c.toNat : Int) = 58 := fun e => hc58 ((u8_eq (n := 58) (by decide)).2 (by omega))
              simpa using this
            generalize (c.toNat : Int) = z at ik k58
            clear hc hc58
            go_wp2_with fail
            go_roundg (Y.size - k - 1)
            case measure => omega
            case rel => exact ⟨rfl, k + 1, by omega, by first | rfl | simp⟩
          · have hkA : k = Y.size := by omega
            subst hkA
            have keq : ((Y.size : Int) == (Y.size : Int)) = true := by simp
            clear HAT hkY hk
            go_wp2_with fail
            go_roundg (N - i - 1)
            case measure => omega
            case rel => exact ⟨i + 1, n, c1, c2, p1, p2, by omega, by omega, rfl, rfl, by first | rfl | simp, HR4⟩
    · have hiN : i = N := by omega
      obtain ⟨st, hst⟩ : ∃ st, st = stay (ss.map bl) (bl s) := ⟨_, rfl⟩
      have hsg : stK (ss.map bl) (segs (bl s)) i = st := by
        rw [hst, ← stK_all, hiN, HN.out, ← HPS.out, List.length_map]
      have HST : Hid (n = st.length ∧ StrArg wr (.slice p1 n c1) (nmB st) ∧ StrArg wr (.slice p2 n c2) (vlB st) ∧ Below w.heap.size w wr) := hide (by
        obtain ⟨h1, h2, h3⟩ := HR.out
        rw [hsg] at h1 h2
        have h4 := h2.rn
        have h5 := h2.rv
        rw [← nmB_len] at h4
        rw [← vlB_len] at h5
        exact ⟨h1, own_arg h4, own_arg h5, HB1.out.trans (h3.mono HB1.out.size)⟩)
      have HOUT : Hid (R = ⟨(outTo st n).toArray⟩) := hide (by rw [HRES.out, HST.out.1, outTo_all, hst]; rfl)
      have HWT : Hid (wt st ≤ 300000) := hide (by
        have h1 := wt_filter (keep (ss.map bl)) (prts (bl s))
        have h2 := prts_wt (bl s)
        rw [bl_len] at h2
        rw [hst]
        unfold stay
        omega)
      clear hst hsg HR HRES HPS HPV HB1 hiN
      obtain ⟨WR, hWR⟩ : ∃ WR, WR = wr := ⟨_, rfl⟩
      rw [← hWR] at HST ⊢
      clear hWR
      go_wp2_with fail
      go_loopg [14, 15] n (fun g4 v14 v15 wx => ∃ (j : Nat) (acc : ByteArray), j + g4 = n ∧ v14 = .string acc ∧ v15 = .int .i64 (j : Int) ∧ Hid (bl acc = outTo st j ∧ Below WR.heap.size WR wx))
      case atStart => exact ⟨0, ⟨#[]⟩, by omega, rfl, rfl, hide ⟨rfl, Below.refl _ _⟩⟩
      case round =>
        obtain ⟨j, acc, hj, rfl, rfl, HA⟩ := hrel
        by_cases hlt2 : j < n
        · obtain ⟨x, hx⟩ : ∃ x, st[j]? = some x := ⟨_, List.getElem?_eq_getElem (by rw [← HST.out.1]; exact hlt2)⟩
          have hwi : (outTo st j).length + (x.1.length + x.2.length + 4) ≤ 300000 := by
            have h1 := outTo_len st j
            have h2 := wt_take st (j + 1)
            have hw : wt (st.take (j + 1)) = wt (st.take j) + (x.1.length + x.2.length + 4) := by
              rw [List.take_add_one, hx]
              unfold wt
              simp
            have h3 := HWT.out
            omega
          have hwn : n ≤ 300000 := by
            have h1 := HWT.out
            have h2 := wt_len st
            have h3 := HST.out.1
            omega
          have hnx : (nmB st)[j]? = some ⟨x.1.toArray⟩ := by unfold nmB; rw [List.getElem?_map, hx]; rfl
          have hvx : (vlB st)[j]? = some ⟨x.2.toArray⟩ := by unfold vlB; rw [List.getElem?_map, hx]; rfl
          obtain ⟨nb, noff, rfl, HNM⟩ : ∃ b off, p1 = some ⟨b, off, none⟩ ∧ Hid (∀ k (y : NV), st[k]? = some y → ∀ wx, Below WR.heap.size WR wx → wx.cell? ⟨b, off + k, none⟩ = some (.string ⟨y.1.toArray⟩)) := by
            obtain ⟨p', cap', e, -, hc⟩ := HST.out.2.1
            injection e with e1 e2 e3
            obtain ⟨b, off, e4, h⟩ := hc j _ hnx
            refine ⟨b, off, e1.trans e4, hide (fun k y hk wx hwx => ?_)⟩
            obtain ⟨b', off', e5, h'⟩ := hc k ⟨y.1.toArray⟩ (by unfold nmB; rw [List.getElem?_map, hk]; rfl)
            rw [e4] at e5
            injection e5 with e5
            injection e5 with e6 e7
            subst e6
            subst e7
            exact cell_keep h' hwx
          obtain ⟨vb, voff, rfl, HVL⟩ : ∃ b off, p2 = some ⟨b, off, none⟩ ∧ Hid (∀ wx, Below WR.heap.size WR wx → wx.cell? ⟨b, off + j, none⟩ = some (.string ⟨x.2.toArray⟩)) := by
            obtain ⟨p', cap', e, -, hc⟩ := HST.out.2.2.1
            injection e with e1 e2 e3
            obtain ⟨b, off, e4, h⟩ := hc j _ hvx
            exact ⟨b, off, e1.trans e4, hide (fun wx hwx => cell_keep h hwx)⟩
          have HX := hide hx
          have HWI := hide hwi
          clear hnx hvx hx hwi
          go_wp2_with fail
          go_loopg [16, 17] (n - j) (fun g5 v16 v17 wx => ∃ (k : Nat) (b : Bool), j + 1 ≤ k ∧ k ≤ n ∧ n ≤ k + g5 ∧ v16 = .bool b ∧ v17 = .int .i64 (k : Int) ∧ Hid ((b = true ↔ ∀ m y, j < m → m < k → st[m]? = some y → y.1 ≠ x.1) ∧ Below WR.heap.size WR wx))
          case atStart => exact ⟨j + 1, true, Nat.le_refl _, by omega, by omega, rfl, by first | rfl | simp, hide ⟨⟨fun _ m y h1 h2 => by omega, fun _ => rfl⟩, HA.out.2⟩⟩
          case round =>
            obtain ⟨k, b, hk1, hk2, hkg, rfl, rfl, HK⟩ := hrel
            by_cases hkn : k < n
            · cases b with
              | false =>
                have HK2 : Hid ((false = true ↔ ∀ m y, j < m → m < k + 1 → st[m]? = some y → y.1 ≠ x.1) ∧ Below WR.heap.size WR wr.drew) := hide ⟨⟨(fun h => by cases h), fun h => HK.out.1.2 fun m y h1 h2 => h m y h1 (by omega)⟩, HK.out.2.drew⟩
                clear HK
                go_wp2_with fail
                go_region
                go_wp2_with fail
                go_roundg (n - k - 1)
                case measure => omega
                case rel => exact ⟨k + 1, false, by omega, by omega, by omega, rfl, by first | rfl | simp, HK2⟩
              | true =>
                obtain ⟨y, hy⟩ : ∃ y, st[k]? = some y := ⟨_, List.getElem?_eq_getElem (by rw [← HST.out.1]; exact hkn)⟩
                have z0 := HNM.out k y hy wr HK.out.2
                have z1 := HNM.out j x HX.out wr HK.out.2
                have HY := hide hy
                obtain ⟨Y1, hY1⟩ : ∃ Y1 : ByteArray, Y1 = ⟨y.1.toArray⟩ := ⟨_, rfl⟩
                obtain ⟨X1, hX1⟩ : ∃ X1 : ByteArray, X1 = ⟨x.1.toArray⟩ := ⟨_, rfl⟩
                rw [← hY1] at z0
                rw [← hX1] at z1
                have q0 := eq_two Y1 X1
                have hbl : (bl Y1 = bl X1) ↔ y.1 = x.1 := by rw [hY1, hX1]
                have HBL := hide hbl
                clear hy hY1 hX1 hbl
                by_cases hyx : bl Y1 = bl X1
                · rw [decide_eq_true hyx] at q0
                  have HK2 : Hid ((false = true ↔ ∀ m y, j < m → m < k + 1 → st[m]? = some y → y.1 ≠ x.1) ∧ Below WR.heap.size WR wr.drew) := hide ⟨⟨(fun h => by cases h), fun h => absurd (HBL.out.1 hyx) (h k y (by omega) (by omega) HY.out)⟩, HK.out.2.drew⟩
                  clear HK hyx HBL
                  go_wp2_with fail
                  go_region
                  go_wp2_with fail
                  go_roundg (n - k - 1)
                  case measure => omega
                  case rel => exact ⟨k + 1, false, by omega, by omega, by omega, rfl, by first | rfl | simp, HK2⟩
                · rw [decide_eq_false hyx] at q0
                  have HK2 : Hid ((∀ m y, j < m → m < k + 1 → st[m]? = some y → y.1 ≠ x.1) ∧ Below WR.heap.size WR wr.drew) := hide ⟨fun m y' h1 h2 h3 => by
                    by_cases e : m = k
                    · subst e
                      rw [HY.out] at h3
                      cases h3
                      exact fun e => hyx (HBL.out.2 e)
                    · exact HK.out.1.1 rfl m y' h1 (by omega) h3, HK.out.2.drew⟩
                  clear HK hyx HBL
                  go_wp2_with fail
                  go_region
                  go_wp2_with fail
                  go_roundg (n - k - 1)
                  case measure => omega
                  case rel => exact ⟨k + 1, true, by omega, by omega, by omega, rfl, by first | rfl | simp, hide ⟨⟨fun _ => HK2.out.1, fun _ => rfl⟩, HK2.out.2⟩⟩
            · have hkn2 : k = n := by omega
              subst hkn2
              have HL : Hid (b = true ↔ isLast st j) := hide (by
                rw [HK.out.1]
                constructor
                · intro h m a y hm ha hy
                  rw [HX.out] at hy
                  cases hy
                  exact h m a hm (by have := (List.getElem?_eq_some_iff.1 ha).1; have := HST.out.1; omega) ha
                · intro h m y h1 _ h3
                  exact h m y x h1 h3 HX.out)
              cases b with
              | false =>
                have HA2 : Hid (bl acc = outTo st (j + 1) ∧ Below WR.heap.size WR wr) := hide ⟨by
                  rw [outTo_skip st j (fun h => by have := HL.out.2 h; cases this)]
                  exact HA.out.1, HK.out.2⟩
                clear HK HL HA
                go_wp2_with fail
                go_roundg (k - j - 1)
                case measure => omega
                case rel => exact ⟨j + 1, acc, by omega, rfl, by first | rfl | simp, HA2⟩
              | true =>
                have HEM := hide (outTo_last st j x (HL.out.1 rfl) HX.out)
                have z1 := HNM.out j x HX.out wr HK.out.2
                have z2 := HVL.out wr HK.out.2
                have HACC := hide HA.out.1
                have HB4 : Hid (Below WR.heap.size WR wr.drew) := hide HK.out.2.drew
                obtain ⟨X1, hX1⟩ : ∃ X1 : ByteArray, X1 = ⟨x.1.toArray⟩ := ⟨_, rfl⟩
                obtain ⟨X2, hX2⟩ : ∃ X2 : ByteArray, X2 = ⟨x.2.toArray⟩ := ⟨_, rfl⟩
                rw [← hX1] at z1
                rw [← hX2] at z2
                have hs1 : X1.size = x.1.length := by rw [hX1]; exact size_mk _
                have hs2 : X2.size = x.2.length := by rw [hX2]; exact size_mk _
                have hsa : acc.size = (outTo st j).length := by rw [← HA.out.1, bl_len]
                have hb1 : acc.size + X1.size + X2.size + 4 ≤ 300000 := by have := HWI.out; omega
                have HBX : Hid (bl X1 = x.1 ∧ bl X2 = x.2) := hide ⟨by rw [hX1], by rw [hX2]⟩
                have qE := empty_bl acc
                clear hX1 hX2 hs1 hs2 hsa HK HL HA HNM HVL
                by_cases ha : bl acc = []
                · rw [decide_eq_true ha] at qE
                  have HA2 : Hid (bl (acc ++ X1 ++ ⟨#[58, 32]⟩ ++ X2) = outTo st (j + 1) ∧ Below WR.heap.size WR wr.drew) := hide ⟨by
                    rw [HEM.out, ← HACC.out]
                    unfold emit
                    rw [if_pos ha, app_bl, app_bl, app_bl, ha, HBX.out.1, HBX.out.2], HB4.out⟩
                  clear ha HEM HACC HB4 HBX
                  go_wp2_with fail
                  go_region
                  go_wp2_with fail
                  go_roundg (k - j - 1)
                  case measure => omega
                  case rel => exact ⟨j + 1, acc ++ X1 ++ ⟨#[58, 32]⟩ ++ X2, by omega, by first | rfl | simp, by first | rfl | simp, HA2⟩
                · rw [decide_eq_false ha] at qE
                  have HA2 : Hid (bl (acc ++ ⟨#[59, 32]⟩ ++ X1 ++ ⟨#[58, 32]⟩ ++ X2) = outTo st (j + 1) ∧ Below WR.heap.size WR wr.drew) := hide ⟨by
                    rw [HEM.out, ← HACC.out]
                    unfold emit
                    rw [if_neg ha, app_bl, app_bl, app_bl, app_bl, HBX.out.1, HBX.out.2], HB4.out⟩
                  clear ha HEM HACC HB4 HBX
                  go_wp2_with fail
                  go_region
                  go_wp2_with fail
                  go_roundg (k - j - 1)
                  case measure => omega
                  case rel => exact ⟨j + 1, acc ++ ⟨#[59, 32]⟩ ++ X1 ++ ⟨#[58, 32]⟩ ++ X2, by omega, by first | rfl | simp, by first | rfl | simp, HA2⟩
        · have hjn : j = n := by omega
          have HE : Hid (R = acc ∧ Below w.heap.size w wr) := hide ⟨by
            rw [HOUT.out, ← hjn, ← HA.out.1], HST.out.2.2.2.trans (HA.out.2.mono HST.out.2.2.2.size)⟩
          clear hjn HA HOUT
          go_wp2_with fail
          go_ret
          rw [HE.out.1]
          exact ⟨rfl, HE.out.2⟩
end Go.Proofs.YtnjbeehfnahdfaaDoor
