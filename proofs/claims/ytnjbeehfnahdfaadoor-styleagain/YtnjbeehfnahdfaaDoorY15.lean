/-
  The law StyleOne.
-/
import Derived.Test.YtnjbeehfnahdfaaDoorY14
namespace Go.Proofs.YtnjbeehfnahdfaaDoor
open Go.RowKit
open Utf1 Sty

theorem pArg_one (w : World) (x : ByteArray) (t : TypeId) (hx : x.size ≤ 9223372036854775807) : PArg (w.alloc (.cells #[.string x] t)) (.slice (some ⟨w.heap.size, 0, none⟩) 1 1) [x] := by
  refine ⟨strArg_one w x t, fun i y h => ?_, fun p n c h => by injection h with _ h1 h2; omega⟩
  match i, h with
  | 0, h =>
    have : x = y := by simpa using h
    subst this
    exact hx
  | i + 1, h => simp at h

set_option maxRecDepth 100000 in
set_option maxHeartbeats 8000000 in
theorem lawOne_walk (n v o : ByteArray) (w : World) (hnz : n.size ≤ 9223372036854775807) (hoz : o.size ≤ 9223372036854775807) :
    Calls Tryd.prog 7 #[.string n, .string v, .string o] w fun e w' => e = .returned (.bool true) ∧ Below w.heap.size w w' := by
  have ca := awake_any
  have HCN := hide (fun w => names_any (.slice (some ⟨w.heap.size, 0, none⟩) 1 1) [n] (by simp) (w.alloc (.cells #[.string n] 9)) (pArg_one w n _ hnz))
  cases hn : allN [n] with
  | false =>
    rw [hn] at HCN
    clear hn
    go_enter Tryd.func7, Tryd.ntmps7
    go_wp2_with fail
    refine (ca _).mono ?_
    rintro e w1 ⟨rfl, hb1⟩
    go_wp2_with fail
    refine (HCN.out _).mono ?_
    rintro e w2 ⟨rfl, rfl⟩
    go_wp2_with fail
    go_ret
    exact ⟨rfl, bel_alloc hb1 _⟩
  | true =>
    rw [hn] at HCN
    have hnm : isName (bl n) = true := allN_names hn (bl n) (by simp)
    clear hn
    by_cases h1 : n.size ≤ 100
    · by_cases h2 : v.size ≤ 200
      · by_cases h3 : o.size ≤ 1000
        · have cv := fun w => value_any v (by omega) w
          obtain ⟨Z, hZ⟩ : ∃ Z : ByteArray, Z = o ++ ⟨#[59, 32, 9]⟩ ++ n ++ ⟨#[32, 58]⟩ ++ v ++ ⟨#[10, 59]⟩ ++ o := ⟨_, rfl⟩
          have hZb : bl Z = bl o ++ [59, 32, 9] ++ bl n ++ [32, 58] ++ bl v ++ [10, 59] ++ bl o := by rw [hZ, app_bl, app_bl, app_bl, app_bl, app_bl, app_bl]
          have hZs : Z.size ≤ 90000 := by
            rw [← bl_len, hZb]
            simp only [List.length_append, bl_len, List.length_cons, List.length_nil]
            omega
          have HC1 := hide (fun w => filter_any Z (.slice (some ⟨w.heap.size, 0, none⟩) 1 1) [n] hZs (by simp) (w.alloc (.cells #[.string n] 9)) (strArg_one w n _))
          rw [hZ] at HC1
          have HRES : Hid ((58 : UInt8) ∉ bl o → okv (bl v) = true → (⟨(filt ([n].map bl) (bl Z)).toArray⟩ : ByteArray) = n ++ ⟨#[58, 32]⟩ ++ v) := hide (fun h4 h5 => by
            apply ba_ext
            show filt [bl n] (bl Z) = _
            rw [hZb, filt_one (bl n) (bl v) (bl o) hnm h5 h4, app_bl, app_bl])
          rw [hZ] at HRES
          generalize (⟨(filt ([n].map bl) (bl (o ++ ⟨#[59, 32, 9]⟩ ++ n ++ ⟨#[32, 58]⟩ ++ v ++ ⟨#[10, 59]⟩ ++ o))).toArray⟩ : ByteArray) = S at HC1 HRES
          clear hZ hZb hZs hnm
          go_enter Tryd.func7, Tryd.ntmps7
          go_wp2_with fail
          refine (ca _).mono ?_
          rintro e w1 ⟨rfl, hb1⟩
          go_wp2_with fail
          refine (HCN.out _).mono ?_
          rintro e w2 ⟨rfl, hw2⟩
          have HB2 : Hid (Below w.heap.size w w2) := hide (by rw [hw2]; exact bel_alloc hb1 _)
          clear hw2 hb1 HCN ca
          go_wp2_with fail
          go_loopg [9] o.size (fun g v9 wx => wx = w2 ∧ ∃ k : Nat, k + g = o.size ∧ v9 = .int .i64 (k : Int) ∧ Hid (∀ j c, j < k → (bl o)[j]? = some c → c ≠ 58))
          case atStart => exact ⟨rfl, 0, by omega, rfl, hide (fun j c hj => by omega)⟩
          case round =>
            obtain ⟨rfl, k, hk, rfl, HK⟩ := hrel
            by_cases hko : k < o.size
            · obtain ⟨c, hc⟩ := getK o k hko
              have ik := fun w => idxK hc w
              have k58 : ((c.toNat : Int) == 58) = decide (c = 58) := beqK c 58 (by decide)
              have HK2 : Hid (c ≠ 58 → ∀ j d, j < k + 1 → (bl o)[j]? = some d → d ≠ 58) := hide (fun h j d hj hd => by
                by_cases e : j = k
                · subst e
                  rw [hc] at hd
                  cases hd
                  exact h
                · exact HK.out j d (by omega) hd)
              clear hc HK
              by_cases h58 : c = 58
              · rw [decide_eq_true h58] at k58
                clear HK2 h58
                generalize (c.toNat : Int) = z at ik k58
                go_wp2_with fail
                go_ret
                exact ⟨rfl, HB2.out⟩
              · rw [decide_eq_false h58] at k58
                have HK3 := hide (HK2.out h58)
                clear HK2 h58
                generalize (c.toNat : Int) = z at ik k58
                go_wp2_with fail
                go_roundg (o.size - k - 1)
                case measure => omega
                case rel => exact ⟨rfl, k + 1, by omega, by first | rfl | simp, HK3⟩
            · have HNC : Hid ((58 : UInt8) ∉ bl o) := hide (fun h => by
                obtain ⟨j, hj⟩ := List.mem_iff_getElem?.1 h
                have hjl := (List.getElem?_eq_some_iff.1 hj).1
                rw [bl_len] at hjl
                exact HK.out j 58 (by omega) hj rfl)
              clear HK
              cases hov : okv (bl v) with
              | false =>
                rw [hov] at cv
                clear HRES hov
                go_wp2_with fail
                refine (cv _).mono ?_
                rintro e w3 ⟨rfl, rfl⟩
                go_wp2_with fail
                refine (HC1.out _).mono ?_
                rintro e w4 ⟨rfl, hb4⟩
                have HB4 := hide (bel2 (bel_alloc HB2.out _) hb4)
                clear hb4
                go_wp2_with fail
                go_ret
                exact ⟨rfl, HB4.out⟩
              | true =>
                rw [hov] at cv
                have hS := HRES.out HNC.out hov
                have q1 : (S.toList == (n ++ ⟨#[58, 32]⟩ ++ v).toList) = true := by rw [hS]; exact beq_same rfl
                clear HRES hov hS
                go_wp2_with fail
                refine (cv _).mono ?_
                rintro e w3 ⟨rfl, rfl⟩
                go_wp2_with fail
                refine (HC1.out _).mono ?_
                rintro e w4 ⟨rfl, hb4⟩
                have HB4 := hide (bel2 (bel_alloc HB2.out _) hb4)
                clear hb4
                go_wp2_with fail
                go_ret
                exact ⟨rfl, HB4.out⟩
        · go_enter Tryd.func7, Tryd.ntmps7
          go_wp2_with fail
          refine (ca _).mono ?_
          rintro e w1 ⟨rfl, hb1⟩
          go_wp2_with fail
          refine (HCN.out _).mono ?_
          rintro e w2 ⟨rfl, rfl⟩
          go_wp2_with fail
          go_ret
          exact ⟨rfl, bel_alloc hb1 _⟩
      · go_enter Tryd.func7, Tryd.ntmps7
        go_wp2_with fail
        refine (ca _).mono ?_
        rintro e w1 ⟨rfl, hb1⟩
        go_wp2_with fail
        refine (HCN.out _).mono ?_
        rintro e w2 ⟨rfl, rfl⟩
        go_wp2_with fail
        go_ret
        exact ⟨rfl, bel_alloc hb1 _⟩
    · go_enter Tryd.func7, Tryd.ntmps7
      go_wp2_with fail
      refine (ca _).mono ?_
      rintro e w1 ⟨rfl, hb1⟩
      go_wp2_with fail
      refine (HCN.out _).mono ?_
      rintro e w2 ⟨rfl, rfl⟩
      go_wp2_with fail
      go_ret
      exact ⟨rfl, bel_alloc hb1 _⟩
end Go.Proofs.YtnjbeehfnahdfaaDoor
