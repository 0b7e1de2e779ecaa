/-
  The document's own rises, words, Raw (of names), Never.
-/
import Derived.Test.YtlabdbkmlkmnkaaQ1
namespace Go.Proofs.Ytlabdbkmlkmnkaa
open Go.RowKit
open Utf1 Pol8

set_option maxRecDepth 100000 in
set_option maxHeartbeats 8000000 in
theorem rrises_any (v : Value) (ss : List ByteArray) (hl : ss.length ≤ 100000) (w : World) (hv : StrArg w v ss) :
    Calls Try.prog 50 #[v] w fun e w' => e = .returned (.bool (rises (ss.map bl))) ∧ Below w.heap.size w w' := by
  obtain ⟨R, hR⟩ : ∃ R, R = rises (ss.map bl) := ⟨_, rfl⟩
  rw [← hR]
  have HAL := hide hR
  clear hR
  have HV := hide hv
  obtain ⟨p, cap, rfl, -, hc⟩ := hv
  obtain ⟨N, hN⟩ : ∃ N, N = ss.length := ⟨_, rfl⟩
  rw [← hN] at hl HV ⊢
  have HN := hide hN
  clear hc hN
  go_enter Try.func50, Try.ntmps50
  go_wp2_with fail
  go_loopg [3] (N + 1) (fun g v wx => ∃ i : Nat, 1 ≤ i ∧ N + 1 ≤ i + g ∧ i ≤ N + 1 ∧ v = .int .i64 (i : Int) ∧ Hid (Below w.heap.size w wx ∧ ∀ j a b, j + 1 < i → ss[j]? = some a → ss[j + 1]? = some b → lt (bl a) (bl b) = true))
  case atStart => exact ⟨1, by omega, by omega, by omega, rfl, hide ⟨Below.refl _ _, fun j a b hj => by omega⟩⟩
  case round =>
    obtain ⟨i, h1, hg, hiN, rfl, HU⟩ := hrel
    by_cases hlt : i < N
    · obtain ⟨k, rfl⟩ : ∃ k, i = k + 1 := ⟨i - 1, by omega⟩
      obtain ⟨x, hx⟩ : ∃ y, ss[k]? = some y := ⟨_, List.getElem?_eq_getElem (by rw [← HN.out]; omega)⟩
      obtain ⟨y, hy⟩ : ∃ y, ss[k + 1]? = some y := ⟨_, List.getElem?_eq_getElem (by rw [← HN.out]; exact hlt)⟩
      obtain ⟨b, off, rfl, c0, c1⟩ : ∃ b off, p = some ⟨b, off, none⟩ ∧ wr.cell? ⟨b, off + k, none⟩ = some (.string x) ∧ wr.cell? ⟨b, off + (k + 1), none⟩ = some (.string y) := by
        obtain ⟨p', cap', e, -, hc⟩ := HV.out.below HU.out.1
        injection e with e1 e2 e3
        obtain ⟨b, off, e4, h⟩ := hc k x hx
        obtain ⟨b', off', e5, h'⟩ := hc (k + 1) y hy
        rw [e4] at e5
        injection e5 with e5
        injection e5 with e6 e7
        subst e6
        subst e7
        exact ⟨b, off, e1.trans e4, h, h'⟩
      have hkc : ((k + 1 : Nat) : Int) - 1 = (k : Int) := by omega
      have HB : Hid (Below w.heap.size w wr.drew) := hide HU.out.1.drew
      have HYES : Hid (lt (bl x) (bl y) = true → ∀ j a b, j + 1 < k + 2 → ss[j]? = some a → ss[j + 1]? = some b → lt (bl a) (bl b) = true) := hide (fun h j a b hj ha hb => by
        by_cases e : j = k
        · subst e
          rw [hx] at ha
          rw [hy] at hb
          cases ha
          cases hb
          exact h
        · exact HU.out.2 j a b (by omega) ha hb)
      have HNO : Hid (lt (bl x) (bl y) = false → R = false) := hide (fun h => by
        rw [HAL.out]
        unfold rises
        rw [Bool.and_eq_false_iff]
        left
        cases hc : chain (ss.map bl)
        · rfl
        · have := (chain_iff _).1 hc k (bl x) (bl y) (by rw [List.getElem?_map, hx]; rfl) (by rw [List.getElem?_map, hy]; rfl)
          rw [h] at this
          cases this)
      clear hx hy HU
      cases hxy : lt (bl x) (bl y) with
      | true =>
        have HU2 := hide (HYES.out hxy)
        have hgq2 := less_is x y
        rw [hxy] at hgq2
        clear HYES HNO hxy
        go_wp2_with fail
        go_region
        go_wp2_with fail
        go_roundg (gk - 1)
        case measure => omega
        case rel => exact ⟨k + 2, by omega, by omega, by omega, by first | rfl | simp | (congr 1), hide ⟨HB.out, HU2.out⟩⟩
      | false =>
        have HR := hide (HNO.out hxy)
        have hgq2 := less_is x y
        rw [hxy] at hgq2
        clear HYES HNO hxy
        go_wp2_with fail
        go_region
        go_wp2_with fail
        go_ret
        rw [HR.out]
        exact ⟨rfl, HB.out⟩
    · have HC : Hid (chain (ss.map bl) = true) := hide (by
        rw [chain_iff]
        intro j a b ha hb
        rw [List.getElem?_map] at ha hb
        cases hx : ss[j]? with
        | none => rw [hx] at ha; cases ha
        | some x =>
          cases hy : ss[j + 1]? with
          | none => rw [hy] at hb; cases hb
          | some y =>
            rw [hx] at ha
            rw [hy] at hb
            cases ha
            cases hb
            have := (List.getElem?_eq_some_iff.1 hy).1
            exact HU.out.2 j x y (by rw [← HN.out] at this; omega) hx hy)
      have HB := hide HU.out.1
      have HR : Hid (R = decide (N ≤ 64)) := hide (by
        rw [HAL.out]
        unfold rises
        rw [HC.out, List.length_map, ← HN.out, Bool.true_and])
      clear HU HC HAL
      by_cases h64 : N ≤ 64
      · have HR2 : Hid (R = true) := hide (by rw [HR.out]; exact decide_eq_true h64)
        go_wp2_with fail
        go_ret
        rw [HR2.out]
        exact ⟨ret_bool (decide_eq_true (by omega)), HB.out⟩
      · have HR2 : Hid (R = false) := hide (by rw [HR.out]; exact decide_eq_false h64)
        go_wp2_with fail
        go_ret
        rw [HR2.out]
        exact ⟨ret_bool (decide_eq_false (by omega)), HB.out⟩

set_option maxHeartbeats 8000000 in
theorem rwords_any (v : Value) (ss : List ByteArray) (hl : ss.length ≤ 100000) (hz : ∀ x ∈ ss, x.size ≤ 9223372036854775807) (w : World) (hv : StrArg w v ss) :
    Calls Try.prog 49 #[v] w fun e w' => e = .returned (.bool (words (ss.map bl))) ∧ Below w.heap.size w w' := by
  obtain ⟨R, hR⟩ : ∃ R, R = words (ss.map bl) := ⟨_, rfl⟩
  rw [← hR]
  have HAL := hide hR
  clear hR
  have CR := hide (rrises_any v ss hl w hv)
  obtain ⟨p, cap, rfl, -, hc⟩ := hv
  have HC := hide hc
  obtain ⟨N, hN⟩ : ∃ N, N = ss.length := ⟨_, rfl⟩
  rw [← hN] at hl CR ⊢
  have HN := hide hN
  have HZ := hide hz
  clear hc hN hz
  go_enter Try.func49, Try.ntmps49
  go_wp2_with fail
  go_loopg [3] N (fun g v wx => wx = w ∧ ∃ i : Nat, i + g = N ∧ v = .int .i64 (i : Int) ∧ Hid (∀ j z, j < i → ss[j]? = some z → isWord (bl z) = true))
  case atStart => exact ⟨rfl, 0, by omega, rfl, hide (fun j z hj => by omega)⟩
  case round =>
    obtain ⟨rfl, i, hi, rfl, HU⟩ := hrel
    by_cases hlt : i < N
    · obtain ⟨y, hge⟩ : ∃ y, ss[i]? = some y := ⟨_, List.getElem?_eq_getElem (by rw [← HN.out]; exact hlt)⟩
      obtain ⟨b, off, rfl, c0⟩ := HC.out i y hge
      have cw := fun w => rword_any y (HZ.out y (List.mem_of_getElem? hge)) w
      have HG := hide hge
      clear hge
      cases hw : isWord (bl y) with
      | true =>
        rw [hw] at cw
        have HU2 : Hid (∀ j z, j < i + 1 → ss[j]? = some z → isWord (bl z) = true) := hide (fun j z hj hz => by
          by_cases e : j = i
          · subst e
            rw [HG.out] at hz
            cases hz
            exact hw
          · exact HU.out j z (by omega) hz)
        clear hw HU HG
        go_wp2_with fail
        refine (cw _).mono ?_
        rintro e w1 ⟨rfl, rfl⟩
        go_wp2_with fail
        go_roundg (gk - 1)
        case measure => omega
        case rel => exact ⟨rfl, i + 1, by omega, by first | rfl | simp, HU2⟩
      | false =>
        rw [hw] at cw
        have HR : Hid (R = false) := hide (by
          rw [HAL.out]
          unfold words
          rw [Bool.and_eq_false_iff]
          left
          rw [List.all_eq_false]
          exact ⟨bl y, List.mem_map_of_mem (List.mem_of_getElem? HG.out), by rw [hw]; decide⟩)
        clear hw HU HG
        go_wp2_with fail
        refine (cw _).mono ?_
        rintro e w1 ⟨rfl, rfl⟩
        go_wp2_with fail
        go_ret
        rw [HR.out]
        exact ⟨rfl, Below.refl _ _⟩
    · have HR : Hid (R = rises (ss.map bl)) := hide (by
        rw [HAL.out]
        unfold words
        have : (ss.map bl).all isWord = true := by
          rw [List.all_eq_true]
          intro z hz
          obtain ⟨y, hy, rfl⟩ := List.mem_map.1 hz
          obtain ⟨j, hj, e⟩ := List.mem_iff_getElem.1 hy
          exact HU.out j y (by rw [← HN.out] at hj; omega) (by rw [List.getElem?_eq_getElem hj, e])
        rw [this, Bool.true_and])
      clear HU HAL
      go_wp2_with fail
      refine CR.out.mono ?_
      rintro e w1 ⟨rfl, hb1⟩
      go_wp2_with fail
      go_ret
      rw [HR.out]
      exact ⟨rfl, hb1⟩
end Go.Proofs.Ytlabdbkmlkmnkaa
