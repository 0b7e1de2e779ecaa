/-
  The document's own attr.
-/
import Derived.Test.YtlabdbkmlkmnkaaQ3
namespace Go.Proofs.Ytlabdbkmlkmnkaa
open Go.RowKit
open Utf1 Pol8

set_option maxRecDepth 100000 in
set_option maxHeartbeats 16000000 in
theorem rattr_any (s : ByteArray) (v : Value) (ss : List ByteArray) (hs : s.size ≤ 1000000) (hl : ss.length ≤ 100000) (w : World) (hv : StrArg w v ss) :
    Calls Try.prog 52 #[.string s, v] w fun e w' => e = .returned (.bool (attrOk (ss.map bl) (bl s))) ∧ w' = w := by
  obtain ⟨R, hR⟩ : ∃ R, R = attrOk (ss.map bl) (bl s) := ⟨_, rfl⟩
  rw [← hR]
  have HAL := hide hR
  clear hR
  have HV := hide hv
  obtain ⟨p, cap, rfl, -, -⟩ := hv
  obtain ⟨N, hN⟩ : ∃ N, N = ss.length := ⟨_, rfl⟩
  rw [← hN] at hl HV ⊢
  have HN := hide hN
  clear hN
  by_cases hdot : (46 : UInt8) ∈ bl s
  · obtain ⟨A, B, e, hn, hsz, hEA, hEB, hat⟩ := split_ba s 46 hdot
    have HRE : Hid (R = (decide (bl A = [42] ∨ bl A ∈ ss.map bl) && may (bl B))) := hide (by
      rw [HAL.out]
      unfold attrOk
      rw [e, dot_some _ _ hn])
    have HAT := hide hat
    have HEA := hide hEA
    have CH := hide (fun w h => rhas_any (.slice p N cap) ss A (by rw [← HN.out]; exact hl) w h)
    have CW := hide (fun w => rword_any B (by omega) w)
    have HMAY : Hid (may (bl B) = (isWord (bl B) && (!isOn (bl B) && decide (bl B ≠ srcdoc ∧ bl B ≠ formaction ∧ bl B ≠ style)))) := hide rfl
    have HHAS : Hid (decide (bl A = [42] ∨ bl A ∈ ss.map bl) = (decide (bl A = [42]) || decide (bl A ∈ ss.map bl))) := hide (by
      by_cases h1 : bl A = [42]
      · rw [decide_eq_true h1, decide_eq_true (.inl h1)]
        rfl
      · by_cases h2 : bl A ∈ ss.map bl
        · rw [decide_eq_true h2, decide_eq_true (.inr h2), decide_eq_false h1]
          rfl
        · rw [decide_eq_false h2, decide_eq_false (fun h => h.elim h1 h2), decide_eq_false h1]
          rfl)
    generalize decide (bl A ∈ ss.map bl) = hb at CH HHAS
    have qS := eq_lit A [42]
    have q1 := eq_lit B [115, 114, 99, 100, 111, 99]
    have q2 := eq_lit B [102, 111, 114, 109, 97, 99, 116, 105, 111, 110]
    have q3 := eq_lit B [115, 116, 121, 108, 101]
    have qO := eq_lit (B.extract 0 2) [111, 110]
    rw [show bl (B.extract 0 2) = (bl B).take 2 from extract_bl B 0 2] at qO
    have HON : Hid (isOn (bl B) = decide ((bl B).take 2 = [111, 110])) := hide rfl
    have HON1 : Hid (B.size ≤ 1 → isOn (bl B) = false) := hide (fun h => by
      unfold isOn
      apply decide_eq_false
      intro e
      have := congrArg List.length e
      rw [List.length_take, bl_len] at this
      simp at this
      omega)
    clear hat hdot e hn HAL
    have hAs : A.size < s.size := by omega
    have hBs : B.size < s.size := by omega
    have HSZ := hide hsz
    clear hsz
    go_enter Try.func52, Try.ntmps52
    go_wp2_with fail
    go_loopg [5] A.size (fun g v wx => wx = w ∧ ∃ k : Nat, k + g = A.size ∧ v = .int .i64 (k : Int))
    case atStart => exact ⟨rfl, 0, by omega, rfl⟩
    case round =>
      obtain ⟨rfl, k, hk, rfl⟩ := hrel
      obtain ⟨c, hc⟩ := getK s k (by omega)
      have ik := fun w => idxK hc w
      have k46 : ((c.toNat : Int) != 46) = decide (c ≠ 46) := neqK c 46 (by decide)
      have hkk := HAT.out k c hc
      clear hc
      by_cases hka : k < A.size
      · rw [decide_eq_true (hkk.1 hka)] at k46
        generalize (c.toNat : Int) = z at ik k46
        have hks : k < s.size := by omega
        clear hkk qS q1 q2 q3 qO
        go_wp2_with fail
        go_roundg (A.size - k - 1)
        case measure => omega
        case rel => exact ⟨rfl, k + 1, by omega, by first | rfl | simp⟩
      · have hkA : k = A.size := by omega
        subst hkA
        rw [decide_eq_false (fun e => e (hkk.2 rfl))] at k46
        generalize (c.toNat : Int) = z at ik k46
        clear hkk hka hk HAT
        go_upto_region 6 with fail
        clear ik k46
        go_cut [7] from 22 to 29 (fun v7 wx => wx = wr ∧ v7 = .bool (isOn (bl B)))
        case first =>
          by_cases hb2 : 1 < B.size
          · obtain ⟨ob, hob⟩ : ∃ ob, ob = decide ((bl B).take 2 = [111, 110]) := ⟨_, rfl⟩
            rw [← hob] at qO
            have HOB := hide hob
            clear hob
            go_wp2_with fail
            go_meet
            exact ⟨rfl, by rw [HON.out, ← HOB.out]⟩
          · go_wp2_with fail
            go_meet
            exact ⟨rfl, by rw [HON1.out (by omega)]⟩
        case rest =>
        obtain ⟨rfl, rfl⟩ := hcut
        clear HON HON1 qO
        rw [HHAS.out, HMAY.out] at HRE
        have HBC : Hid (decide (bl B ≠ srcdoc ∧ bl B ≠ formaction ∧ bl B ≠ style) = (!decide (bl B = [115, 114, 99, 100, 111, 99]) && (!decide (bl B = [102, 111, 114, 109, 97, 99, 116, 105, 111, 110]) && !decide (bl B = [115, 116, 121, 108, 101])))) := hide (by
          show decide (bl B ≠ [115, 114, 99, 100, 111, 99] ∧ bl B ≠ [102, 111, 114, 109, 97, 99, 116, 105, 111, 110] ∧ bl B ≠ [115, 116, 121, 108, 101]) = _
          simp)
        rw [HBC.out] at HRE
        clear HBC HHAS HMAY
        have HE := hide HEA.out
        generalize isOn (bl B) = bo at HRE ⊢
        generalize isWord (bl B) = bw at HRE CW
        generalize decide (bl A = [42]) = b1 at HRE qS
        generalize decide (bl B = [115, 114, 99, 100, 111, 99]) = d1 at HRE q1
        generalize decide (bl B = [102, 111, 114, 109, 97, 99, 116, 105, 111, 110]) = d2 at HRE q2
        generalize decide (bl B = [115, 116, 121, 108, 101]) = d3 at HRE q3
        cases b1 with
        | true =>
          cases bw with
          | false =>
            have HR : Hid (R = false) := hide (by rw [HRE.out]; rfl)
            clear HRE
            go_wp2_with fail
            refine (CW.out _).mono ?_
            rintro e w1 ⟨rfl, rfl⟩
            go_wp2_with fail
            go_ret
            rw [HR.out]
            exact ⟨rfl, rfl⟩
          | true =>
            cases bo with
            | true =>
              have HR : Hid (R = false) := hide (by rw [HRE.out]; rfl)
              clear HRE
              go_wp2_with fail
              refine (CW.out _).mono ?_
              rintro e w1 ⟨rfl, rfl⟩
              go_wp2_with fail
              go_ret
              rw [HR.out]
              exact ⟨rfl, rfl⟩
            | false =>
              cases d1 with
              | true =>
                have HR : Hid (R = false) := hide (by rw [HRE.out]; rfl)
                clear HRE
                go_wp2_with fail
                refine (CW.out _).mono ?_
                rintro e w1 ⟨rfl, rfl⟩
                go_wp2_with fail
                go_ret
                rw [HR.out]
                exact ⟨rfl, rfl⟩
              | false =>
                cases d2 with
                | true =>
                  have HR : Hid (R = false) := hide (by rw [HRE.out]; rfl)
                  clear HRE
                  go_wp2_with fail
                  refine (CW.out _).mono ?_
                  rintro e w1 ⟨rfl, rfl⟩
                  go_wp2_with fail
                  go_ret
                  rw [HR.out]
                  exact ⟨rfl, rfl⟩
                | false =>
                  cases d3 with
                  | true =>
                    have HR : Hid (R = false) := hide (by rw [HRE.out]; rfl)
                    clear HRE
                    go_wp2_with fail
                    refine (CW.out _).mono ?_
                    rintro e w1 ⟨rfl, rfl⟩
                    go_wp2_with fail
                    go_ret
                    rw [HR.out]
                    exact ⟨rfl, rfl⟩
                  | false =>
                    have HR : Hid (R = true) := hide (by rw [HRE.out]; rfl)
                    clear HRE
                    go_wp2_with fail
                    refine (CW.out _).mono ?_
                    rintro e w1 ⟨rfl, rfl⟩
                    go_wp2_with fail
                    go_ret
                    rw [HR.out]
                    exact ⟨rfl, rfl⟩
        | false =>
          cases hb with
          | false =>
            have HR : Hid (R = false) := hide (by rw [HRE.out]; rfl)
            clear HRE
            go_wp2_with fail
            refine (CH.out _ HV.out).mono ?_
            rintro e w1 ⟨rfl, rfl⟩
            go_wp2_with fail
            go_ret
            rw [HR.out]
            exact ⟨rfl, rfl⟩
          | true =>
            cases bw with
            | false =>
              have HR : Hid (R = false) := hide (by rw [HRE.out]; rfl)
              clear HRE
              go_wp2_with fail
              refine (CH.out _ HV.out).mono ?_
              rintro e w1 ⟨rfl, rfl⟩
              go_wp2_with fail
              refine (CW.out _).mono ?_
              rintro e w1 ⟨rfl, rfl⟩
              go_wp2_with fail
              go_ret
              rw [HR.out]
              exact ⟨rfl, rfl⟩
            | true =>
              cases bo with
              | true =>
                have HR : Hid (R = false) := hide (by rw [HRE.out]; rfl)
                clear HRE
                go_wp2_with fail
                refine (CH.out _ HV.out).mono ?_
                rintro e w1 ⟨rfl, rfl⟩
                go_wp2_with fail
                refine (CW.out _).mono ?_
                rintro e w1 ⟨rfl, rfl⟩
                go_wp2_with fail
                go_ret
                rw [HR.out]
                exact ⟨rfl, rfl⟩
              | false =>
                cases d1 with
                | true =>
                  have HR : Hid (R = false) := hide (by rw [HRE.out]; rfl)
                  clear HRE
                  go_wp2_with fail
                  refine (CH.out _ HV.out).mono ?_
                  rintro e w1 ⟨rfl, rfl⟩
                  go_wp2_with fail
                  refine (CW.out _).mono ?_
                  rintro e w1 ⟨rfl, rfl⟩
                  go_wp2_with fail
                  go_ret
                  rw [HR.out]
                  exact ⟨rfl, rfl⟩
                | false =>
                  cases d2 with
                  | true =>
                    have HR : Hid (R = false) := hide (by rw [HRE.out]; rfl)
                    clear HRE
                    go_wp2_with fail
                    refine (CH.out _ HV.out).mono ?_
                    rintro e w1 ⟨rfl, rfl⟩
                    go_wp2_with fail
                    refine (CW.out _).mono ?_
                    rintro e w1 ⟨rfl, rfl⟩
                    go_wp2_with fail
                    go_ret
                    rw [HR.out]
                    exact ⟨rfl, rfl⟩
                  | false =>
                    cases d3 with
                    | true =>
                      have HR : Hid (R = false) := hide (by rw [HRE.out]; rfl)
                      clear HRE
                      go_wp2_with fail
                      refine (CH.out _ HV.out).mono ?_
                      rintro e w1 ⟨rfl, rfl⟩
                      go_wp2_with fail
                      refine (CW.out _).mono ?_
                      rintro e w1 ⟨rfl, rfl⟩
                      go_wp2_with fail
                      go_ret
                      rw [HR.out]
                      exact ⟨rfl, rfl⟩
                    | false =>
                      have HR : Hid (R = true) := hide (by rw [HRE.out]; rfl)
                      clear HRE
                      go_wp2_with fail
                      refine (CH.out _ HV.out).mono ?_
                      rintro e w1 ⟨rfl, rfl⟩
                      go_wp2_with fail
                      refine (CW.out _).mono ?_
                      rintro e w1 ⟨rfl, rfl⟩
                      go_wp2_with fail
                      go_ret
                      rw [HR.out]
                      exact ⟨rfl, rfl⟩
  · have HR : Hid (R = false) := hide (by
      rw [HAL.out]
      unfold attrOk
      rw [dot_none _ hdot])
    have HAT : Hid (∀ (j : Nat) (c : UInt8), (bl s)[j]? = some c → c ≠ 46) := hide (fun j c h e => hdot (by subst e; exact List.mem_of_getElem? h))
    clear HAL hdot
    go_enter Try.func52, Try.ntmps52
    go_wp2_with fail
    go_loopg [5] s.size (fun g v wx => wx = w ∧ ∃ k : Nat, k + g = s.size ∧ v = .int .i64 (k : Int))
    case atStart => exact ⟨rfl, 0, by omega, rfl⟩
    case round =>
      obtain ⟨rfl, k, hk, rfl⟩ := hrel
      by_cases hks : k < s.size
      · obtain ⟨c, hc⟩ := getK s k hks
        have ik := fun w => idxK hc w
        have k46 : ((c.toNat : Int) != 46) = decide (c ≠ 46) := neqK c 46 (by decide)
        rw [decide_eq_true (HAT.out k c hc)] at k46
        generalize (c.toNat : Int) = z at ik k46
        clear hc
        go_wp2_with fail
        go_roundg (s.size - k - 1)
        case measure => omega
        case rel => exact ⟨rfl, k + 1, by omega, by first | rfl | simp⟩
      · go_wp2_with fail
        go_ret
        rw [HR.out]
        exact ⟨rfl, rfl⟩
end Go.Proofs.Ytlabdbkmlkmnkaa
