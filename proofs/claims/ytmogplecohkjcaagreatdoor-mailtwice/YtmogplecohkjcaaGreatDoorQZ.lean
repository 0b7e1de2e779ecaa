/-
  The document's own Has, word, rises, words.
-/
import Derived.Test.YtmogplecohkjcaaGreatDoorPW
import Derived.Test.YtmogplecohkjcaaGreatDoorMZ
import Derived.BigQuiet
import Derived.Test.YtmogplecohkjcaaGreatDoorPG
namespace Go.Proofs.YtmogplecohkjcaaGreatDoor
open Go.RowKit
open Utf1 Pol8

set_option maxHeartbeats 4000000 in
theorem rhas_any (v : Value) (ss : List ByteArray) (X : ByteArray) (hl : ss.length ≤ 100000) (w : World) (hv : StrArg w v ss) :
    Calls Tryz.prog 47 #[v, .string X] w fun e w' => e = .returned (.bool (decide (bl X ∈ ss.map bl))) ∧ w' = w := by
  obtain ⟨R, hR⟩ : ∃ R, R = decide (bl X ∈ ss.map bl) := ⟨_, rfl⟩
  rw [← hR]
  have HAL := hide hR
  clear hR
  obtain ⟨p, cap, rfl, -, hc⟩ := hv
  have HC := hide hc
  obtain ⟨N, hN⟩ : ∃ N, N = ss.length := ⟨_, rfl⟩
  rw [← hN] at hl ⊢
  have HN := hide hN
  clear hc hN
  go_enter Tryz.func47, Tryz.ntmps47
  go_wp2_with fail
  go_loopg [5] N (fun g v wx => wx = w ∧ ∃ i : Nat, i + g = N ∧ v = .int .i64 (i : Int) ∧ Hid (bl X ∉ (ss.take i).map bl))
  case atStart => exact ⟨rfl, 0, by omega, rfl, hide (by simp)⟩
  case round =>
    obtain ⟨rfl, i, hi, rfl, HU⟩ := hrel
    by_cases hlt : i < N
    · obtain ⟨y, hge⟩ : ∃ y, ss[i]? = some y := ⟨_, List.getElem?_eq_getElem (by rw [← HN.out]; exact hlt)⟩
      obtain ⟨b, off, rfl, c0⟩ := HC.out i y hge
      have q0 := eq_two y X
      have HMS := hide (mem_step (X := X) hge)
      have HMM : Hid (bl y ∈ ss.map bl) := hide (List.mem_map_of_mem (List.mem_of_getElem? hge))
      clear hge
      by_cases hy : bl y = bl X
      · rw [decide_eq_true hy] at q0
        have HR : Hid (R = true) := hide (by
          rw [HAL.out]
          apply decide_eq_true
          rw [← hy]
          exact HMM.out)
        clear hy HU HMS
        go_wp2_with fail
        go_ret
        rw [HR.out]
        exact ⟨rfl, rfl⟩
      · rw [decide_eq_false hy] at q0
        have HU2 : Hid (bl X ∉ (ss.take (i + 1)).map bl) := hide (fun h => (HMS.out.1 h).elim HU.out hy)
        clear hy HU HMS
        go_wp2_with fail
        go_roundg (gk - 1)
        case measure => omega
        case rel => exact ⟨rfl, i + 1, by omega, by first | rfl | simp, HU2⟩
    · have HR : Hid (R = false) := hide (by
        rw [HAL.out]
        apply decide_eq_false
        have := HU.out
        rw [List.take_of_length_le (by rw [← HN.out]; omega)] at this
        exact this)
      clear HU
      go_wp2_with fail
      go_ret
      rw [HR.out]
      exact ⟨rfl, rfl⟩

set_option maxRecDepth 100000 in
set_option maxHeartbeats 8000000 in
theorem rword_any (s : ByteArray) (hs : s.size ≤ 9223372036854775807) (w : World) :
    Calls Tryz.prog 64 #[.string s] w fun e w' => e = .returned (.bool (isWord (bl s))) ∧ w' = w := by
  obtain ⟨R, hR⟩ : ∃ R, R = isWord (bl s) := ⟨_, rfl⟩
  rw [← hR]
  have HAL := hide hR
  clear hR
  go_enter Tryz.func64, Tryz.ntmps64
  go_wp2_with fail
  go_loopg [3] s.size (fun g v wx => wx = w ∧ ∃ k : Nat, k + g = s.size ∧ v = .int .i64 (k : Int) ∧ Hid (∀ j c, j < k → (bl s)[j]? = some c → wcp j c = true))
  case atStart => exact ⟨rfl, 0, by omega, rfl, hide (fun j c hj => by omega)⟩
  case round =>
    obtain ⟨rfl, k, hk, rfl, HU⟩ := hrel
    by_cases hlt : k < s.size
    · obtain ⟨c, hc⟩ := getK s k hlt
      have ip := fun w => idxK hc w
      have HOK : Hid (wcn k c.toNat = true → ∀ j d, j < k + 1 → (bl s)[j]? = some d → wcp j d = true) := hide (fun h => wup hc h HU.out)
      have HNO : Hid (wcn k c.toNat = false → R = false) := hide (fun h => by rw [HAL.out]; exact word_bad hc h)
      have hb := c.toNat_lt
      obtain ⟨n, hn⟩ : ∃ n, n = c.toNat := ⟨_, rfl⟩
      rw [← hn] at ip HOK HNO hb
      clear hc hn HU HAL
      by_cases hk0 : 0 < k
      · rcases (show n < 45 ∨ n = 45 ∨ (45 < n ∧ n < 48) ∨ (48 ≤ n ∧ n ≤ 57) ∨ (57 < n ∧ n < 97) ∨ (97 ≤ n ∧ n ≤ 122) ∨ 122 < n from by omega) with h | h | h | h | h | h | h
        · have HN := hide (HNO.out (decide_eq_false (by omega)))
          have e45 : ((n : Int) == 45) = false := beq_eq_false_iff_ne.2 (by omega)
          have g97 : decide ((97 : Int) ≤ (n : Int)) = false := decide_eq_false (by omega)
          have g48 : decide ((48 : Int) ≤ (n : Int)) = false := decide_eq_false (by omega)
          clear HOK HNO h hb
          go_wp2_with fail
          go_ret
          rw [HN.out]
          exact ⟨rfl, rfl⟩
        · subst h
          have HU := hide (HOK.out (decide_eq_true (by omega)))
          have c45 : ((45 : Nat) : Int) = 45 := rfl
          rw [c45] at ip
          clear HOK HNO hb
          go_wp2_with fail
          go_roundg (s.size - k - 1)
          case measure => omega
          case rel => exact ⟨rfl, k + 1, by omega, by first | rfl | simp, HU⟩
        · have HN := hide (HNO.out (decide_eq_false (by omega)))
          have e45 : ((n : Int) == 45) = false := beq_eq_false_iff_ne.2 (by omega)
          have g97 : decide ((97 : Int) ≤ (n : Int)) = false := decide_eq_false (by omega)
          have g48 : decide ((48 : Int) ≤ (n : Int)) = false := decide_eq_false (by omega)
          clear HOK HNO h hb
          go_wp2_with fail
          go_ret
          rw [HN.out]
          exact ⟨rfl, rfl⟩
        · have HU := hide (HOK.out (decide_eq_true (by omega)))
          have g97 : decide ((97 : Int) ≤ (n : Int)) = false := decide_eq_false (by omega)
          have g48 : decide ((48 : Int) ≤ (n : Int)) = true := decide_eq_true (by omega)
          have l57 : decide ((n : Int) ≤ 57) = true := decide_eq_true (by omega)
          clear HOK HNO h hb
          go_wp2_with fail
          go_roundg (s.size - k - 1)
          case measure => omega
          case rel => exact ⟨rfl, k + 1, by omega, by first | rfl | simp, HU⟩
        · have HN := hide (HNO.out (decide_eq_false (by omega)))
          have e45 : ((n : Int) == 45) = false := beq_eq_false_iff_ne.2 (by omega)
          have g97 : decide ((97 : Int) ≤ (n : Int)) = false := decide_eq_false (by omega)
          have g48 : decide ((48 : Int) ≤ (n : Int)) = true := decide_eq_true (by omega)
          have l57 : decide ((n : Int) ≤ 57) = false := decide_eq_false (by omega)
          clear HOK HNO h hb
          go_wp2_with fail
          go_ret
          rw [HN.out]
          exact ⟨rfl, rfl⟩
        · have HU := hide (HOK.out (decide_eq_true (by omega)))
          have g97 : decide ((97 : Int) ≤ (n : Int)) = true := decide_eq_true (by omega)
          have l122 : decide ((n : Int) ≤ 122) = true := decide_eq_true (by omega)
          clear HOK HNO h hb
          go_wp2_with fail
          go_roundg (s.size - k - 1)
          case measure => omega
          case rel => exact ⟨rfl, k + 1, by omega, by first | rfl | simp, HU⟩
        · have HN := hide (HNO.out (decide_eq_false (by omega)))
          have e45 : ((n : Int) == 45) = false := beq_eq_false_iff_ne.2 (by omega)
          have g97 : decide ((97 : Int) ≤ (n : Int)) = true := decide_eq_true (by omega)
          have l122 : decide ((n : Int) ≤ 122) = false := decide_eq_false (by omega)
          have g48 : decide ((48 : Int) ≤ (n : Int)) = true := decide_eq_true (by omega)
          have l57 : decide ((n : Int) ≤ 57) = false := decide_eq_false (by omega)
          clear HOK HNO h hb
          go_wp2_with fail
          go_ret
          rw [HN.out]
          exact ⟨rfl, rfl⟩
      · rcases (show n < 97 ∨ (97 ≤ n ∧ n ≤ 122) ∨ 122 < n from by omega) with h | h | h
        · have HN := hide (HNO.out (decide_eq_false (by omega)))
          have g97 : decide ((97 : Int) ≤ (n : Int)) = false := decide_eq_false (by omega)
          clear HOK HNO h hb
          go_wp2_with fail
          go_ret
          rw [HN.out]
          exact ⟨rfl, rfl⟩
        · have HU := hide (HOK.out (decide_eq_true (by omega)))
          have g97 : decide ((97 : Int) ≤ (n : Int)) = true := decide_eq_true (by omega)
          have l122 : decide ((n : Int) ≤ 122) = true := decide_eq_true (by omega)
          clear HOK HNO h hb
          go_wp2_with fail
          go_roundg (s.size - k - 1)
          case measure => omega
          case rel => exact ⟨rfl, k + 1, by omega, by first | rfl | simp, HU⟩
        · have HN := hide (HNO.out (decide_eq_false (by omega)))
          have g97 : decide ((97 : Int) ≤ (n : Int)) = true := decide_eq_true (by omega)
          have l122 : decide ((n : Int) ≤ 122) = false := decide_eq_false (by omega)
          clear HOK HNO h hb
          go_wp2_with fail
          go_ret
          rw [HN.out]
          exact ⟨rfl, rfl⟩
    · have HW : Hid (R = decide (1 ≤ s.size ∧ s.size ≤ 32)) := hide (by
        rw [HAL.out, word_all (fun j c hj => HU.out j c (by rw [bl_len] at hj; omega)), bl_len])
      clear HU HAL
      by_cases h1 : 1 ≤ s.size
      · by_cases h2 : s.size ≤ 32
        · have HR : Hid (R = true) := hide (by rw [HW.out]; exact decide_eq_true ⟨h1, h2⟩)
          clear HW
          go_wp2_with fail
          go_ret
          rw [HR.out]
          exact ⟨ret_bool (decide_eq_true (by omega)), rfl⟩
        · have HR : Hid (R = false) := hide (by rw [HW.out]; exact decide_eq_false (fun h => h2 h.2))
          clear HW
          go_wp2_with fail
          go_ret
          rw [HR.out]
          exact ⟨ret_bool (decide_eq_false (by omega)), rfl⟩
      · have HR : Hid (R = false) := hide (by rw [HW.out]; exact decide_eq_false (fun h => h1 h.1))
        clear HW
        go_wp2_with fail
        go_ret
        rw [HR.out]
        exact ⟨rfl, rfl⟩
end Go.Proofs.YtmogplecohkjcaaGreatDoor

namespace Go.Proofs.YtmogplecohkjcaaGreatDoor
open Go.RowKit
open Utf1 Pol8

set_option maxRecDepth 100000 in
set_option maxHeartbeats 8000000 in
theorem rrises_any (v : Value) (ss : List ByteArray) (hl : ss.length ≤ 100000) (w : World) (hv : StrArg w v ss) :
    Calls Tryz.prog 44 #[v] w fun e w' => e = .returned (.bool (rises (ss.map bl))) ∧ Below w.heap.size w w' := by
  obtain ⟨R, hR⟩ : ∃ R, R = rises (ss.map bl) := ⟨_, rfl⟩
  rw [← hR]
  have HAL := hide hR
  clear hR
  have HV := hide hv
  obtain ⟨p, cap, rfl, -, hc⟩ := hv
  obtain ⟨N, hN⟩ : ∃ N, N = ss.length := ⟨_, rfl⟩
  rw [← hN] at hl HV ⊢
  have HN := hide hN
  clear hc hN
  go_enter Tryz.func44, Tryz.ntmps44
  go_wp2_with fail
  go_loopg [3] (N + 1) (fun g v wx => ∃ i : Nat, 1 ≤ i ∧ N + 1 ≤ i + g ∧ i ≤ N + 1 ∧ v = .int .i64 (i : Int) ∧ Hid (Below w.heap.size w wx ∧ ∀ j a b, j + 1 < i → ss[j]? = some a → ss[j + 1]? = some b → lt (bl a) (bl b) = true))
  case atStart => exact ⟨1, by omega, by omega, by omega, rfl, hide ⟨Below.refl _ _, fun j a b hj => by omega⟩⟩
  case round =>
    obtain ⟨i, h1, hg, hiN, rfl, HU⟩ := hrel
    by_cases hlt : i < N
    · obtain ⟨k, rfl⟩ : ∃ k, i = k + 1 := ⟨i - 1, by omega⟩
      obtain ⟨x, hx⟩ : ∃ y, ss[k]? = some y := ⟨_, List.getElem?_eq_getElem (by rw [← HN.out]; omega)⟩
      obtain ⟨y, hy⟩ : ∃ y, ss[k + 1]? = some y := ⟨_, List.getElem?_eq_getElem (by rw [← HN.out]; exact hlt)⟩
      obtain ⟨b, off, rfl, c0, c1⟩ : ∃ b off, p = some ⟨b, off, none⟩ ∧ wr.cell? ⟨b, off + k, none⟩ = some (.string x) ∧ wr.cell? ⟨b, off + (k + 1), none⟩ = some (.string y) := by
        obtain ⟨p', cap', e, -, hc⟩ := HV.out.below HU.out.1
        injection e with e1 e2 e3
        obtain ⟨b, off, e4, h⟩ := hc k x hx
        obtain ⟨b', off', e5, h'⟩ := hc (k + 1) y hy
        rw [e4] at e5
        injection e5 with e5
        injection e5 with e6 e7
        subst e6
        subst e7
        exact ⟨b, off, e1.trans e4, h, h'⟩
      have hkc : ((k + 1 : Nat) : Int) - 1 = (k : Int) := by omega
      have HB : Hid (Below w.heap.size w wr.drew) := hide HU.out.1.drew
      have HYES : Hid (lt (bl x) (bl y) = true → ∀ j a b, j + 1 < k + 2 → ss[j]? = some a → ss[j + 1]? = some b → lt (bl a) (bl b) = true) := hide (fun h j a b hj ha hb => by
        by_cases e : j = k
        · subst e
          rw [hx] at ha
          rw [hy] at hb
          cases ha
          cases hb
          exact h
        · exact HU.out.2 j a b (by omega) ha hb)
      have HNO : Hid (lt (bl x) (bl y) = false → R = false) := hide (fun h => by
        rw [HAL.out]
        unfold rises
        rw [Bool.and_eq_false_iff]
        left
        cases hc : chain (ss.map bl)
        · rfl
        · have := (chain_iff _).1 hc k (bl x) (bl y) (by rw [List.getElem?_map, hx]; rfl) (by rw [List.getElem?_map, hy]; rfl)
          rw [h] at this
          cases this)
      clear hx hy HU
      cases hxy : lt (bl x) (bl y) with
      | true =>
        have HU2 := hide (HYES.out hxy)
        have hgq2 := less_is x y
        rw [hxy] at hgq2
        clear HYES HNO hxy
        go_wp2_with fail
        go_region
        go_wp2_with fail
        go_roundg (gk - 1)
        case measure => omega
        case rel => exact ⟨k + 2, by omega, by omega, by omega, by first | rfl | simp | (congr 1), hide ⟨HB.out, HU2.out⟩⟩
      | false =>
        have HR := hide (HNO.out hxy)
        have hgq2 := less_is x y
        rw [hxy] at hgq2
        clear HYES HNO hxy
        go_wp2_with fail
        go_region
        go_wp2_with fail
        go_ret
        rw [HR.out]
        exact ⟨rfl, HB.out⟩
    · have HC : Hid (chain (ss.map bl) = true) := hide (by
        rw [chain_iff]
        intro j a b ha hb
        rw [List.getElem?_map] at ha hb
        cases hx : ss[j]? with
        | none => rw [hx] at ha; cases ha
        | some x =>
          cases hy : ss[j + 1]? with
          | none => rw [hy] at hb; cases hb
          | some y =>
            rw [hx] at ha
            rw [hy] at hb
            cases ha
            cases hb
            have := (List.getElem?_eq_some_iff.1 hy).1
            exact HU.out.2 j x y (by rw [← HN.out] at this; omega) hx hy)
      have HB := hide HU.out.1
      have HR : Hid (R = decide (N ≤ 64)) := hide (by
        rw [HAL.out]
        unfold rises
        rw [HC.out, List.length_map, ← HN.out, Bool.true_and])
      clear HU HC HAL
      by_cases h64 : N ≤ 64
      · have HR2 : Hid (R = true) := hide (by rw [HR.out]; exact decide_eq_true h64)
        go_wp2_with fail
        go_ret
        rw [HR2.out]
        exact ⟨ret_bool (decide_eq_true (by omega)), HB.out⟩
      · have HR2 : Hid (R = false) := hide (by rw [HR.out]; exact decide_eq_false h64)
        go_wp2_with fail
        go_ret
        rw [HR2.out]
        exact ⟨ret_bool (decide_eq_false (by omega)), HB.out⟩

set_option maxHeartbeats 8000000 in
theorem rwords_any (v : Value) (ss : List ByteArray) (hl : ss.length ≤ 100000) (hz : ∀ x ∈ ss, x.size ≤ 9223372036854775807) (w : World) (hv : StrArg w v ss) :
    Calls Tryz.prog 43 #[v] w fun e w' => e = .returned (.bool (words (ss.map bl))) ∧ Below w.heap.size w w' := by
  obtain ⟨R, hR⟩ : ∃ R, R = words (ss.map bl) := ⟨_, rfl⟩
  rw [← hR]
  have HAL := hide hR
  clear hR
  have CR := hide (rrises_any v ss hl w hv)
  obtain ⟨p, cap, rfl, -, hc⟩ := hv
  have HC := hide hc
  obtain ⟨N, hN⟩ : ∃ N, N = ss.length := ⟨_, rfl⟩
  rw [← hN] at hl CR ⊢
  have HN := hide hN
  have HZ := hide hz
  clear hc hN hz
  go_enter Tryz.func43, Tryz.ntmps43
  go_wp2_with fail
  go_loopg [3] N (fun g v wx => wx = w ∧ ∃ i : Nat, i + g = N ∧ v = .int .i64 (i : Int) ∧ Hid (∀ j z, j < i → ss[j]? = some z → isWord (bl z) = true))
  case atStart => exact ⟨rfl, 0, by omega, rfl, hide (fun j z hj => by omega)⟩
  case round =>
    obtain ⟨rfl, i, hi, rfl, HU⟩ := hrel
    by_cases hlt : i < N
    · obtain ⟨y, hge⟩ : ∃ y, ss[i]? = some y := ⟨_, List.getElem?_eq_getElem (by rw [← HN.out]; exact hlt)⟩
      obtain ⟨b, off, rfl, c0⟩ := HC.out i y hge
      have cw := fun w => rword_any y (HZ.out y (List.mem_of_getElem? hge)) w
      have HG := hide hge
      clear hge
      cases hw : isWord (bl y) with
      | true =>
        rw [hw] at cw
        have HU2 : Hid (∀ j z, j < i + 1 → ss[j]? = some z → isWord (bl z) = true) := hide (fun j z hj hz => by
          by_cases e : j = i
          · subst e
            rw [HG.out] at hz
            cases hz
            exact hw
          · exact HU.out j z (by omega) hz)
        clear hw HU HG
        go_wp2_with fail
        refine (cw _).mono ?_
        rintro e w1 ⟨rfl, rfl⟩
        go_wp2_with fail
        go_roundg (gk - 1)
        case measure => omega
        case rel => exact ⟨rfl, i + 1, by omega, by first | rfl | simp, HU2⟩
      | false =>
        rw [hw] at cw
        have HR : Hid (R = false) := hide (by
          rw [HAL.out]
          unfold words
          rw [Bool.and_eq_false_iff]
          left
          rw [List.all_eq_false]
          exact ⟨bl y, List.mem_map_of_mem (List.mem_of_getElem? HG.out), by rw [hw]; decide⟩)
        clear hw HU HG
        go_wp2_with fail
        refine (cw _).mono ?_
        rintro e w1 ⟨rfl, rfl⟩
        go_wp2_with fail
        go_ret
        rw [HR.out]
        exact ⟨rfl, Below.refl _ _⟩
    · have HR : Hid (R = rises (ss.map bl)) := hide (by
        rw [HAL.out]
        unfold words
        have : (ss.map bl).all isWord = true := by
          rw [List.all_eq_true]
          intro z hz
          obtain ⟨y, hy, rfl⟩ := List.mem_map.1 hz
          obtain ⟨j, hj, e⟩ := List.mem_iff_getElem.1 hy
          exact HU.out j y (by rw [← HN.out] at hj; omega) (by rw [List.getElem?_eq_getElem hj, e])
        rw [this, Bool.true_and])
      clear HU HAL
      go_wp2_with fail
      refine CR.out.mono ?_
      rintro e w1 ⟨rfl, hb1⟩
      go_wp2_with fail
      go_ret
      rw [HR.out]
      exact ⟨rfl, hb1⟩
end Go.Proofs.YtmogplecohkjcaaGreatDoor

namespace Go.Proofs.YtmogplecohkjcaaGreatDoor
open Go.RowKit
open Utf1 Pol8

def rawB : List ByteArray := [⟨#[115, 99, 114, 105, 112, 116]⟩, ⟨#[115, 116, 121, 108, 101]⟩, ⟨#[120, 109, 112]⟩, ⟨#[105, 102, 114, 97, 109, 101]⟩, ⟨#[110, 111, 101, 109, 98, 101, 100]⟩, ⟨#[110, 111, 102, 114, 97, 109, 101, 115]⟩, ⟨#[112, 108, 97, 105, 110, 116, 101, 120, 116]⟩]
def nevB : List ByteArray := [⟨#[98, 97, 115, 101]⟩, ⟨#[101, 109, 98, 101, 100]⟩, ⟨#[102, 111, 114, 109]⟩, ⟨#[105, 110, 112, 117, 116]⟩, ⟨#[108, 105, 110, 107]⟩, ⟨#[109, 97, 116, 104]⟩, ⟨#[109, 101, 116, 97]⟩, ⟨#[111, 98, 106, 101, 99, 116]⟩, ⟨#[112, 97, 114, 97, 109]⟩, ⟨#[115, 101, 108, 101, 99, 116]⟩, ⟨#[115, 118, 103]⟩, ⟨#[116, 101, 109, 112, 108, 97, 116, 101]⟩, ⟨#[110, 111, 115, 99, 114, 105, 112, 116]⟩, ⟨#[102, 114, 97, 109, 101]⟩, ⟨#[102, 114, 97, 109, 101, 115, 101, 116]⟩]
theorem rawB_is : rawB.map bl = rawL := rfl
theorem nevB_is : nevB.map bl = neverL := rfl
theorem cell_row (w : World) (l : List ByteArray) (t : TypeId) (i : Nat) (y : ByteArray) (h : l[i]? = some y) : (w.alloc (.cells (strV l).toArray t)).cell? ⟨w.heap.size, i, none⟩ = some (.string y) := by
  obtain ⟨p, c, e, -, hc⟩ := strArg_row w l t
  obtain ⟨b, off, e2, h2⟩ := hc i y h
  injection e with e1
  rw [← e1] at e2
  injection e2 with e2
  injection e2 with e3 e4
  rw [← e3, ← e4, Nat.zero_add] at h2
  exact h2
theorem raw_in {s : L} (h : s ∈ rawL) : isRaw s = true := by
  unfold isRaw
  rw [decide_eq_true h]
  rfl
theorem raw_out {s : L} (h : s ∉ rawL) : isRaw s = decide (s ∈ rcL) := by
  unfold isRaw
  rw [decide_eq_false h]
  rfl

set_option maxRecDepth 100000 in
set_option maxHeartbeats 8000000 in
theorem rraw_any (s : ByteArray) (w : World) :
    Calls Tryz.prog 65 #[.string s] w fun e w' => (∃ x, e = .returned (.tuple #[.bool (isRaw (bl s)), .bool x])) ∧ Below w.heap.size w w' := by
  obtain ⟨R, hR⟩ : ∃ R, R = isRaw (bl s) := ⟨_, rfl⟩
  rw [← hR]
  have HAL := hide hR
  clear hR
  obtain ⟨w1, hw1⟩ : ∃ w1, w1 = w.alloc (.cells (strV rawB).toArray 9) := ⟨_, rfl⟩
  have HCELL : Hid (∀ i y, rawB[i]? = some y → w1.cell? ⟨w.heap.size, i, none⟩ = some (.string y)) := hide (by rw [hw1]; exact cell_row w rawB 9)
  have HB1 : Hid (Below w.heap.size w w1) := hide (by rw [hw1]; exact bel_alloc (Below.refl _ _) _)
  go_enter Tryz.func65, Tryz.ntmps65
  go_upto_region 2 with fail
  rw [show w.alloc (.cells #[.string ⟨#[115, 99, 114, 105, 112, 116]⟩, .string ⟨#[115, 116, 121, 108, 101]⟩, .string ⟨#[120, 109, 112]⟩, .string ⟨#[105, 102, 114, 97, 109, 101]⟩, .string ⟨#[110, 111, 101, 109, 98, 101, 100]⟩, .string ⟨#[110, 111, 102, 114, 97, 109, 101, 115]⟩, .string ⟨#[112, 108, 97, 105, 110, 116, 101, 120, 116]⟩] 9) = w1 from hw1.symm]
  clear hw1
  go_wp2_with fail
  go_loopg [5] 7 (fun g v wx => wx = w1 ∧ ∃ i : Nat, i + g = 7 ∧ v = .int .i64 (i : Int) ∧ Hid (bl s ∉ (rawB.take i).map bl))
  case atStart => exact ⟨rfl, 0, by omega, rfl, hide (by simp)⟩
  case round =>
    obtain ⟨rfl, i, hi, rfl, HU⟩ := hrel
    by_cases hlt : i < 7
    · obtain ⟨y, hge⟩ : ∃ y, rawB[i]? = some y := ⟨_, List.getElem?_eq_getElem (by show i < 7; exact hlt)⟩
      have c0 := HCELL.out i y hge
      have q0 := eq_two y s
      have HMS := hide (mem_step (X := s) hge)
      have HMM : Hid (bl y ∈ rawL) := hide (by rw [← rawB_is]; exact List.mem_map_of_mem (List.mem_of_getElem? hge))
      clear hge
      by_cases hy : bl y = bl s
      · rw [decide_eq_true hy] at q0
        have HR : Hid (R = true) := hide (by
          rw [HAL.out]
          apply raw_in
          rw [← hy]
          exact HMM.out)
        clear hy HU HMS
        go_wp2_with fail
        go_ret2
        rw [HR.out]
        exact ⟨⟨_, rfl⟩, HB1.out⟩
      · rw [decide_eq_false hy] at q0
        have HU2 : Hid (bl s ∉ (rawB.take (i + 1)).map bl) := hide (fun h => (HMS.out.1 h).elim HU.out hy)
        clear hy HU HMS
        go_wp2_with fail
        go_roundg (gk - 1)
        case measure => omega
        case rel => exact ⟨rfl, i + 1, by omega, by first | rfl | simp, HU2⟩
    · have HR : Hid (R = decide (bl s ∈ rcL)) := hide (by
        rw [HAL.out]
        apply raw_out
        have := HU.out
        rw [List.take_of_length_le (by show 7 ≤ i; omega), rawB_is] at this
        exact this)
      have e1 := eq_lit s [116, 101, 120, 116, 97, 114, 101, 97]
      have e2 := eq_lit s [116, 105, 116, 108, 101]
      clear HU HAL
      by_cases h1 : bl s = [116, 101, 120, 116, 97, 114, 101, 97]
      · rw [decide_eq_true h1] at e1
        have HR2 : Hid (R = true) := hide (by rw [HR.out, h1]; rfl)
        clear h1 e2 HR
        go_wp2_with fail
        go_ret2
        rw [HR2.out]
        exact ⟨⟨_, rfl⟩, HB1.out⟩
      · rw [decide_eq_false h1] at e1
        by_cases h2 : bl s = [116, 105, 116, 108, 101]
        · rw [decide_eq_true h2] at e2
          have HR2 : Hid (R = true) := hide (by rw [HR.out, h2]; rfl)
          clear h1 h2 HR
          go_wp2_with fail
          go_ret2
          rw [HR2.out]
          exact ⟨⟨_, rfl⟩, HB1.out⟩
        · rw [decide_eq_false h2] at e2
          have HR2 : Hid (R = false) := hide (by
            rw [HR.out]
            apply decide_eq_false
            intro hm
            rcases List.mem_cons.1 hm with hm | hm
            · exact h1 hm
            · exact h2 (List.mem_singleton.1 hm))
          clear h1 h2 HR
          go_wp2_with fail
          go_ret2
          rw [HR2.out]
          exact ⟨⟨_, rfl⟩, HB1.out⟩

set_option maxRecDepth 100000 in
set_option maxHeartbeats 8000000 in
theorem rnever_any (s : ByteArray) (w : World) :
    Calls Tryz.prog 45 #[.string s] w fun e w' => e = .returned (.bool (never (bl s))) ∧ Below w.heap.size w w' := by
  have CR := hide (fun w => rraw_any s w)
  have HNV : Hid (never (bl s) = (isRaw (bl s) || decide (bl s ∈ nevB.map bl))) := hide rfl
  rw [HNV.out]
  have CH : Hid (∀ w : World, Calls Tryz.prog 47 #[.slice (some ⟨w.heap.size, 0, none⟩) 15 15, .string s] (w.alloc (.cells #[.string ⟨#[98, 97, 115, 101]⟩, .string ⟨#[101, 109, 98, 101, 100]⟩, .string ⟨#[102, 111, 114, 109]⟩, .string ⟨#[105, 110, 112, 117, 116]⟩, .string ⟨#[108, 105, 110, 107]⟩, .string ⟨#[109, 97, 116, 104]⟩, .string ⟨#[109, 101, 116, 97]⟩, .string ⟨#[111, 98, 106, 101, 99, 116]⟩, .string ⟨#[112, 97, 114, 97, 109]⟩, .string ⟨#[115, 101, 108, 101, 99, 116]⟩, .string ⟨#[115, 118, 103]⟩, .string ⟨#[116, 101, 109, 112, 108, 97, 116, 101]⟩, .string ⟨#[110, 111, 115, 99, 114, 105, 112, 116]⟩, .string ⟨#[102, 114, 97, 109, 101]⟩, .string ⟨#[102, 114, 97, 109, 101, 115, 101, 116]⟩] 9)) fun e w' => e = .returned (.bool (decide (bl s ∈ nevB.map bl))) ∧ w' = w.alloc (.cells #[.string ⟨#[98, 97, 115, 101]⟩, .string ⟨#[101, 109, 98, 101, 100]⟩, .string ⟨#[102, 111, 114, 109]⟩, .string ⟨#[105, 110, 112, 117, 116]⟩, .string ⟨#[108, 105, 110, 107]⟩, .string ⟨#[109, 97, 116, 104]⟩, .string ⟨#[109, 101, 116, 97]⟩, .string ⟨#[111, 98, 106, 101, 99, 116]⟩, .string ⟨#[112, 97, 114, 97, 109]⟩, .string ⟨#[115, 101, 108, 101, 99, 116]⟩, .string ⟨#[115, 118, 103]⟩, .string ⟨#[116, 101, 109, 112, 108, 97, 116, 101]⟩, .string ⟨#[110, 111, 115, 99, 114, 105, 112, 116]⟩, .string ⟨#[102, 114, 97, 109, 101]⟩, .string ⟨#[102, 114, 97, 109, 101, 115, 101, 116]⟩] 9)) := hide (fun w => rhas_any _ nevB s (by decide) _ (strArg_row w nevB 9))
  generalize decide (bl s ∈ nevB.map bl) = c at CH
  cases hr : isRaw (bl s) with
  | true =>
    rw [hr] at CR
    clear hr HNV CH
    go_enter Tryz.func45, Tryz.ntmps45
    go_wp2_with fail
    refine (CR.out _).mono ?_
    rintro e w1 ⟨⟨x, rfl⟩, hb1⟩
    go_wp2_with fail
    go_ret
    exact ⟨rfl, hb1⟩
  | false =>
    rw [hr] at CR
    clear hr HNV
    go_enter Tryz.func45, Tryz.ntmps45
    go_wp2_with fail
    refine (CR.out _).mono ?_
    rintro e w1 ⟨⟨x, rfl⟩, hb1⟩
    go_wp2_with fail
    refine (CH.out _).mono ?_
    rintro e w2 ⟨rfl, rfl⟩
    go_wp2_with fail
    go_ret
    exact ⟨rfl, bel_alloc hb1 _⟩

end Go.Proofs.YtmogplecohkjcaaGreatDoor

namespace Go.Proofs.YtmogplecohkjcaaGreatDoor
open Go.RowKit
open Utf1 Pol8

set_option maxRecDepth 100000 in
set_option maxHeartbeats 16000000 in
theorem rattr_any (s : ByteArray) (v : Value) (ss : List ByteArray) (hs : s.size ≤ 1000000) (hl : ss.length ≤ 100000) (w : World) (hv : StrArg w v ss) :
    Calls Tryz.prog 46 #[.string s, v] w fun e w' => e = .returned (.bool (attrOk (ss.map bl) (bl s))) ∧ w' = w := by
  obtain ⟨R, hR⟩ : ∃ R, R = attrOk (ss.map bl) (bl s) := ⟨_, rfl⟩
  rw [← hR]
  have HAL := hide hR
  clear hR
  have HV := hide hv
  obtain ⟨p, cap, rfl, -, -⟩ := hv
  obtain ⟨N, hN⟩ : ∃ N, N = ss.length := ⟨_, rfl⟩
  rw [← hN] at hl HV ⊢
  have HN := hide hN
  clear hN
  by_cases hdot : (46 : UInt8) ∈ bl s
  · obtain ⟨A, B, e, hn, hsz, hEA, hEB, hat⟩ := split_ba s 46 hdot
    have HRE : Hid (R = (decide (bl A = [42] ∨ bl A ∈ ss.map bl) && may (bl B))) := hide (by
      rw [HAL.out]
      unfold attrOk
      rw [e, dot_some _ _ hn])
    have HAT := hide hat
    have HEA := hide hEA
    have CH := hide (fun w h => rhas_any (.slice p N cap) ss A (by rw [← HN.out]; exact hl) w h)
    have CW := hide (fun w => rword_any B (by omega) w)
    have HMAY : Hid (may (bl B) = (isWord (bl B) && (!isOn (bl B) && decide (bl B ≠ srcdoc ∧ bl B ≠ formaction ∧ bl B ≠ style)))) := hide rfl
    have HHAS : Hid (decide (bl A = [42] ∨ bl A ∈ ss.map bl) = (decide (bl A = [42]) || decide (bl A ∈ ss.map bl))) := hide (by
      by_cases h1 : bl A = [42]
      · rw [decide_eq_true h1, decide_eq_true (.inl h1)]
        rfl
      · by_cases h2 : bl A ∈ ss.map bl
        · rw [decide_eq_true h2, decide_eq_true (.inr h2), decide_eq_false h1]
          rfl
        · rw [decide_eq_false h2, decide_eq_false (fun h => h.elim h1 h2), decide_eq_false h1]
          rfl)
    generalize decide (bl A ∈ ss.map bl) = hb at CH HHAS
    have qS := eq_lit A [42]
    have q1 := eq_lit B [115, 114, 99, 100, 111, 99]
    have q2 := eq_lit B [102, 111, 114, 109, 97, 99, 116, 105, 111, 110]
    have q3 := eq_lit B [115, 116, 121, 108, 101]
    have qO := eq_lit (B.extract 0 2) [111, 110]
    rw [show bl (B.extract 0 2) = (bl B).take 2 from extract_bl B 0 2] at qO
    have HON : Hid (isOn (bl B) = decide ((bl B).take 2 = [111, 110])) := hide rfl
    have HON1 : Hid (B.size ≤ 1 → isOn (bl B) = false) := hide (fun h => by
      unfold isOn
      apply decide_eq_false
      intro e
      have := congrArg List.length e
      rw [List.length_take, bl_len] at this
      simp at this
      omega)
    clear hat hdot e hn HAL
    have hAs : A.size < s.size := by omega
    have hBs : B.size < s.size := by omega
    have HSZ := hide hsz
    clear hsz
    go_enter Tryz.func46, Tryz.ntmps46
    go_wp2_with fail
    go_loopg [5] A.size (fun g v wx => wx = w ∧ ∃ k : Nat, k + g = A.size ∧ v = .int .i64 (k : Int))
    case atStart => exact ⟨rfl, 0, by omega, rfl⟩
    case round =>
      obtain ⟨rfl, k, hk, rfl⟩ := hrel
      obtain ⟨c, hc⟩ := getK s k (by omega)
      have ik := fun w => idxK hc w
      have k46 : ((c.toNat : Int) != 46) = decide (c ≠ 46) := neqK c 46 (by decide)
      have hkk := HAT.out k c hc
      clear hc
      by_cases hka : k < A.size
      · rw [decide_eq_true (hkk.1 hka)] at k46
        generalize (c.toNat : Int) = z at ik k46
        have hks : k < s.size := by omega
        clear hkk qS q1 q2 q3 qO
        go_wp2_with fail
        go_roundg (A.size - k - 1)
        case measure => omega
        case rel => exact ⟨rfl, k + 1, by omega, by first | rfl | simp⟩
      · have hkA : k = A.size := by omega
        subst hkA
        rw [decide_eq_false (fun e => e (hkk.2 rfl))] at k46
        generalize (c.toNat : Int) = z at ik k46
        clear hkk hka hk HAT
        go_upto_region 6 with fail
        clear ik k46
        go_cut [7] from 22 to 29 (fun v7 wx => wx = wr ∧ v7 = .bool (isOn (bl B)))
        case first =>
          by_cases hb2 : 1 < B.size
          · obtain ⟨ob, hob⟩ : ∃ ob, ob = decide ((bl B).take 2 = [111, 110]) := ⟨_, rfl⟩
            rw [← hob] at qO
            have HOB := hide hob
            clear hob
            go_wp2_with fail
            go_meet
            exact ⟨rfl, by rw [HON.out, ← HOB.out]⟩
          · go_wp2_with fail
            go_meet
            exact ⟨rfl, by rw [HON1.out (by omega)]⟩
        case rest =>
        obtain ⟨rfl, rfl⟩ := hcut
        clear HON HON1 qO
        rw [HHAS.out, HMAY.out] at HRE
        have HBC : Hid (decide (bl B ≠ srcdoc ∧ bl B ≠ formaction ∧ bl B ≠ style) = (!decide (bl B = [115, 114, 99, 100, 111, 99]) && (!decide (bl B = [102, 111, 114, 109, 97, 99, 116, 105, 111, 110]) && !decide (bl B = [115, 116, 121, 108, 101])))) := hide (by
          show decide (bl B ≠ [115, 114, 99, 100, 111, 99] ∧ bl B ≠ [102, 111, 114, 109, 97, 99, 116, 105, 111, 110] ∧ bl B ≠ [115, 116, 121, 108, 101]) = _
          simp)
        rw [HBC.out] at HRE
        clear HBC HHAS HMAY
        have HE := hide HEA.out
        generalize isOn (bl B) = bo at HRE ⊢
        generalize isWord (bl B) = bw at HRE CW
        generalize decide (bl A = [42]) = b1 at HRE qS
        generalize decide (bl B = [115, 114, 99, 100, 111, 99]) = d1 at HRE q1
        generalize decide (bl B = [102, 111, 114, 109, 97, 99, 116, 105, 111, 110]) = d2 at HRE q2
        generalize decide (bl B = [115, 116, 121, 108, 101]) = d3 at HRE q3
        cases b1 with
        | true =>
          cases bw with
          | false =>
            have HR : Hid (R = false) := hide (by rw [HRE.out]; rfl)
            clear HRE
            go_wp2_with fail
            refine (CW.out _).mono ?_
            rintro e w1 ⟨rfl, rfl⟩
            go_wp2_with fail
            go_ret
            rw [HR.out]
            exact ⟨rfl, rfl⟩
          | true =>
            cases bo with
            | true =>
              have HR : Hid (R = false) := hide (by rw [HRE.out]; rfl)
              clear HRE
              go_wp2_with fail
              refine (CW.out _).mono ?_
              rintro e w1 ⟨rfl, rfl⟩
              go_wp2_with fail
              go_ret
              rw [HR.out]
              exact ⟨rfl, rfl⟩
            | false =>
              cases d1 with
              | true =>
                have HR : Hid (R = false) := hide (by rw [HRE.out]; rfl)
                clear HRE
                go_wp2_with fail
                refine (CW.out _).mono ?_
                rintro e w1 ⟨rfl, rfl⟩
                go_wp2_with fail
                go_ret
                rw [HR.out]
                exact ⟨rfl, rfl⟩
              | false =>
                cases d2 with
                | true =>
                  have HR : Hid (R = false) := hide (by rw [HRE.out]; rfl)
                  clear HRE
                  go_wp2_with fail
                  refine (CW.out _).mono ?_
                  rintro e w1 ⟨rfl, rfl⟩
                  go_wp2_with fail
                  go_ret
                  rw [HR.out]
                  exact ⟨rfl, rfl⟩
                | false =>
                  cases d3 with
                  | true =>
                    have HR : Hid (R = false) := hide (by rw [HRE.out]; rfl)
                    clear HRE
                    go_wp2_with fail
                    refine (CW.out _).mono ?_
                    rintro e w1 ⟨rfl, rfl⟩
                    go_wp2_with fail
                    go_ret
                    rw [HR.out]
                    exact ⟨rfl, rfl⟩
                  | false =>
                    have HR : Hid (R = true) := hide (by rw [HRE.out]; rfl)
                    clear HRE
                    go_wp2_with fail
                    refine (CW.out _).mono ?_
                    rintro e w1 ⟨rfl, rfl⟩
                    go_wp2_with fail
                    go_ret
                    rw [HR.out]
                    exact ⟨rfl, rfl⟩
        | false =>
          cases hb with
          | false =>
            have HR : Hid (R = false) := hide (by rw [HRE.out]; rfl)
            clear HRE
            go_wp2_with fail
            refine (CH.out _ HV.out).mono ?_
            rintro e w1 ⟨rfl, rfl⟩
            go_wp2_with fail
            go_ret
            rw [HR.out]
            exact ⟨rfl, rfl⟩
          | true =>
            cases bw with
            | false =>
              have HR : Hid (R = false) := hide (by rw [HRE.out]; rfl)
              clear HRE
              go_wp2_with fail
              refine (CH.out _ HV.out).mono ?_
              rintro e w1 ⟨rfl, rfl⟩
              go_wp2_with fail
              refine (CW.out _).mono ?_
              rintro e w1 ⟨rfl, rfl⟩
              go_wp2_with fail
              go_ret
              rw [HR.out]
              exact ⟨rfl, rfl⟩
            | true =>
              cases bo with
              | true =>
                have HR : Hid (R = false) := hide (by rw [HRE.out]; rfl)
                clear HRE
                go_wp2_with fail
                refine (CH.out _ HV.out).mono ?_
                rintro e w1 ⟨rfl, rfl⟩
                go_wp2_with fail
                refine (CW.out _).mono ?_
                rintro e w1 ⟨rfl, rfl⟩
                go_wp2_with fail
                go_ret
                rw [HR.out]
                exact ⟨rfl, rfl⟩
              | false =>
                cases d1 with
                | true =>
                  have HR : Hid (R = false) := hide (by rw [HRE.out]; rfl)
                  clear HRE
                  go_wp2_with fail
                  refine (CH.out _ HV.out).mono ?_
                  rintro e w1 ⟨rfl, rfl⟩
                  go_wp2_with fail
                  refine (CW.out _).mono ?_
                  rintro e w1 ⟨rfl, rfl⟩
                  go_wp2_with fail
                  go_ret
                  rw [HR.out]
                  exact ⟨rfl, rfl⟩
                | false =>
                  cases d2 with
                  | true =>
                    have HR : Hid (R = false) := hide (by rw [HRE.out]; rfl)
                    clear HRE
                    go_wp2_with fail
                    refine (CH.out _ HV.out).mono ?_
                    rintro e w1 ⟨rfl, rfl⟩
                    go_wp2_with fail
                    refine (CW.out _).mono ?_
                    rintro e w1 ⟨rfl, rfl⟩
                    go_wp2_with fail
                    go_ret
                    rw [HR.out]
                    exact ⟨rfl, rfl⟩
                  | false =>
                    cases d3 with
                    | true =>
                      have HR : Hid (R = false) := hide (by rw [HRE.out]; rfl)
                      clear HRE
                      go_wp2_with fail
                      refine (CH.out _ HV.out).mono ?_
                      rintro e w1 ⟨rfl, rfl⟩
                      go_wp2_with fail
                      refine (CW.out _).mono ?_
                      rintro e w1 ⟨rfl, rfl⟩
                      go_wp2_with fail
                      go_ret
                      rw [HR.out]
                      exact ⟨rfl, rfl⟩
                    | false =>
                      have HR : Hid (R = true) := hide (by rw [HRE.out]; rfl)
                      clear HRE
                      go_wp2_with fail
                      refine (CH.out _ HV.out).mono ?_
                      rintro e w1 ⟨rfl, rfl⟩
                      go_wp2_with fail
                      refine (CW.out _).mono ?_
                      rintro e w1 ⟨rfl, rfl⟩
                      go_wp2_with fail
                      go_ret
                      rw [HR.out]
                      exact ⟨rfl, rfl⟩
  · have HR : Hid (R = false) := hide (by
      rw [HAL.out]
      unfold attrOk
      rw [dot_none _ hdot])
    have HAT : Hid (∀ (j : Nat) (c : UInt8), (bl s)[j]? = some c → c ≠ 46) := hide (fun j c h e => hdot (by subst e; exact List.mem_of_getElem? h))
    clear HAL hdot
    go_enter Tryz.func46, Tryz.ntmps46
    go_wp2_with fail
    go_loopg [5] s.size (fun g v wx => wx = w ∧ ∃ k : Nat, k + g = s.size ∧ v = .int .i64 (k : Int))
    case atStart => exact ⟨rfl, 0, by omega, rfl⟩
    case round =>
      obtain ⟨rfl, k, hk, rfl⟩ := hrel
      by_cases hks : k < s.size
      · obtain ⟨c, hc⟩ := getK s k hks
        have ik := fun w => idxK hc w
        have k46 : ((c.toNat : Int) != 46) = decide (c ≠ 46) := neqK c 46 (by decide)
        rw [decide_eq_true (HAT.out k c hc)] at k46
        generalize (c.toNat : Int) = z at ik k46
        clear hc
        go_wp2_with fail
        go_roundg (s.size - k - 1)
        case measure => omega
        case rel => exact ⟨rfl, k + 1, by omega, by first | rfl | simp⟩
      · go_wp2_with fail
        go_ret
        rw [HR.out]
        exact ⟨rfl, rfl⟩
end Go.Proofs.YtmogplecohkjcaaGreatDoor

namespace Go.Proofs.YtmogplecohkjcaaGreatDoor
open Go.RowKit
open Utf1 Pol8

set_option maxRecDepth 100000 in
set_option maxHeartbeats 32000000 in
theorem rright_any (v1 v2 v3 v4 v5 : Value) (p : Pol) (l1 l2 l3 l4 l5 : List ByteArray) (w : World) (hv : PolV w v1 v2 v3 v4 v5 p l1 l2 l3 l4 l5) (hf : fits p) :
    Calls Tryz.prog 31 #[.agg #[.int .i64 p.ep, v1, v2, v3, v4, v5, .int .i64 p.dp, .int .i64 p.nd, .int .i64 p.bt]] w fun e w' => e = .returned (.bool (right p)) ∧ Below w.heap.size w w' := by
  obtain ⟨f1, z1⟩ := fits_of hf (by simp) hv.e1
  obtain ⟨f2, z2⟩ := fits_of hf (by simp) hv.e2
  obtain ⟨f3, z3⟩ := fits_of hf (by simp) hv.e3
  obtain ⟨f4, z4⟩ := fits_of hf (by simp) hv.e4
  obtain ⟨f5, z5⟩ := fits_of hf (by simp) hv.e5
  obtain ⟨R, hR⟩ : ∃ R, R = right p := ⟨_, rfl⟩
  rw [← hR]
  have HAL : Hid (R = (caps p && ((words (l1.map bl) && (rises (l2.map bl) && (words (l3.map bl) && (words (l4.map bl) && words (l5.map bl))))) && ((l1.map bl).all (fun e => !never e) && ((l2.map bl).all (attrOk (l1.map bl)) && (decide (li ∈ l1.map bl → ul ∈ l1.map bl ∧ ol ∈ l1.map bl) && decide (js ∉ l3.map bl ∧ dat ∉ l3.map bl ∧ vbs ∉ l3.map bl))))))) := hide (by
    rw [hv.e1, hv.e2, hv.e3, hv.e4, hv.e5]
    exact hR)
  have HCAP : Hid (caps p = decide ((1 ≤ p.ep ∧ p.ep ≤ 1000000) ∧ (1 ≤ p.dp ∧ p.dp ≤ 64) ∧ (1 ≤ p.nd ∧ p.nd ≤ 2000) ∧ (1 ≤ p.bt ∧ p.bt ≤ 16384))) := hide rfl
  generalize caps p = cp at HAL HCAP
  obtain ⟨a0, a6, a7, a8, ha0, ha6, ha7, ha8⟩ : ∃ a0 a6 a7 a8, a0 = p.ep ∧ a6 = p.dp ∧ a7 = p.nd ∧ a8 = p.bt := ⟨_, _, _, _, rfl, rfl, rfl, rfl⟩
  rw [← ha0, ← ha6, ← ha7, ← ha8] at HCAP
  rw [← ha0, ← ha6, ← ha7, ← ha8]
  have HV : Hid (StrArg w v1 l1 ∧ StrArg w v2 l2 ∧ StrArg w v3 l3 ∧ StrArg w v4 l4 ∧ StrArg w v5 l5) := hide ⟨hv.s1, hv.s2, hv.s3, hv.s4, hv.s5⟩
  have HZ := hide (And.intro z1 (And.intro z2 (And.intro z3 (And.intro z4 z5))))
  obtain ⟨p1, q1, rfl, -, -⟩ := hv.s1
  obtain ⟨p2, q2, rfl, -, -⟩ := hv.s2
  obtain ⟨p3, q3, rfl, -, -⟩ := hv.s3
  obtain ⟨p4, q4, rfl, -, -⟩ := hv.s4
  obtain ⟨p5, q5, rfl, -, -⟩ := hv.s5
  clear hv hf hR z1 z2 z3 z4 z5 ha0 ha6 ha7 ha8
  obtain ⟨w1, hw1⟩ : ∃ w1, w1 = w.alloc (.cells #[.int .i64 a0, .slice p1 l1.length q1, .slice p2 l2.length q2, .slice p3 l3.length q3, .slice p4 l4.length q4, .slice p5 l5.length q5, .int .i64 a6, .int .i64 a7, .int .i64 a8] 33) := ⟨_, rfl⟩
  have hb1 : Below w.heap.size w w1 := by rw [hw1]; exact bel_alloc (Below.refl _ _) _
  have HB1 := hide hb1
  have hbx : w1.heap[w.heap.size]? = some (.cells #[.int .i64 a0, .slice p1 l1.length q1, .slice p2 l2.length q2, .slice p3 l3.length q3, .slice p4 l4.length q4, .slice p5 l5.length q5, .int .i64 a6, .int .i64 a7, .int .i64 a8] 33 (0, 0)) := by rw [hw1]; exact new_block _ _ _
  have HBX := hide hbx
  have y0 := tag_cell hbx 0 _ rfl
  have y6 := tag_cell hbx 6 _ rfl
  have y7 := tag_cell hbx 7 _ rfl
  have y8 := tag_cell hbx 8 _ rfl
  clear hbx hb1
  go_enter Tryz.func31, Tryz.ntmps31
  go_upto_region 1 with fail
  rw [← hw1]
  clear hw1
  go_cut [42] from 5 to 42 (fun v42 wx => wx = w1 ∧ v42 = .bool (!cp))
  case first =>
    by_cases c0 : a0 < 1
    · have HN : Hid (cp = false) := hide (by rw [HCAP.out]; exact decide_eq_false (by omega))
      clear HCAP
      go_wp2_with fail
      go_meet
      exact ⟨rfl, by rw [HN.out]; rfl⟩
    by_cases c1 : 1000000 < a0
    · have HN : Hid (cp = false) := hide (by rw [HCAP.out]; exact decide_eq_false (by omega))
      clear HCAP
      go_wp2_with fail
      go_meet
      exact ⟨rfl, by rw [HN.out]; rfl⟩
    by_cases c2 : a6 < 1
    · have HN : Hid (cp = false) := hide (by rw [HCAP.out]; exact decide_eq_false (by omega))
      clear HCAP
      go_wp2_with fail
      go_meet
      exact ⟨rfl, by rw [HN.out]; rfl⟩
    by_cases c3 : 64 < a6
    · have HN : Hid (cp = false) := hide (by rw [HCAP.out]; exact decide_eq_false (by omega))
      clear HCAP
      go_wp2_with fail
      go_meet
      exact ⟨rfl, by rw [HN.out]; rfl⟩
    by_cases c4 : a7 < 1
    · have HN : Hid (cp = false) := hide (by rw [HCAP.out]; exact decide_eq_false (by omega))
      clear HCAP
      go_wp2_with fail
      go_meet
      exact ⟨rfl, by rw [HN.out]; rfl⟩
    by_cases c5 : 2000 < a7
    · have HN : Hid (cp = false) := hide (by rw [HCAP.out]; exact decide_eq_false (by omega))
      clear HCAP
      go_wp2_with fail
      go_meet
      exact ⟨rfl, by rw [HN.out]; rfl⟩
    by_cases c6 : a8 < 1
    · have HN : Hid (cp = false) := hide (by rw [HCAP.out]; exact decide_eq_false (by omega))
      clear HCAP
      go_wp2_with fail
      go_meet
      exact ⟨rfl, by rw [HN.out]; rfl⟩
    by_cases c7 : 16384 < a8
    · have HN : Hid (cp = false) := hide (by rw [HCAP.out]; exact decide_eq_false (by omega))
      clear HCAP
      go_wp2_with fail
      go_meet
      exact ⟨rfl, by rw [HN.out]; rfl⟩
    have HN : Hid (cp = true) := hide (by rw [HCAP.out]; exact decide_eq_true (by omega))
    clear HCAP
    go_wp2_with fail
    go_meet
    exact ⟨rfl, by rw [HN.out]; rfl⟩
  case rest =>
  obtain ⟨rfl, rfl⟩ := hcut
  clear y0 y6 y7 y8 HCAP
  cases cp with
  | false =>
    have HR : Hid (R = false) := hide (by rw [HAL.out]; rfl)
    clear HAL
    go_wp2_with fail
    go_ret
    rw [HR.out]
    exact ⟨rfl, HB1.out⟩
  | true =>
    have HY : Hid (∀ wx, Below wc.heap.size wc wx → wx.heap[w.heap.size]? = some (.cells #[.int .i64 a0, .slice p1 l1.length q1, .slice p2 l2.length q2, .slice p3 l3.length q3, .slice p4 l4.length q4, .slice p5 l5.length q5, .int .i64 a6, .int .i64 a7, .int .i64 a8] 33 (0, 0))) := hide (fun wx h => (h.block _ (by have := (Array.getElem?_eq_some_iff.1 HBX.out).1; exact this)).trans HBX.out)
    have HS : Hid (∀ wx, Below wc.heap.size wc wx → StrArg wx (.slice p1 l1.length q1) l1 ∧ StrArg wx (.slice p2 l2.length q2) l2 ∧ StrArg wx (.slice p3 l3.length q3) l3 ∧ StrArg wx (.slice p4 l4.length q4) l4 ∧ StrArg wx (.slice p5 l5.length q5) l5) := hide (fun wx h => by
      have hb := bel2 HB1.out h
      exact ⟨HV.out.1.below hb, HV.out.2.1.below hb, HV.out.2.2.1.below hb, HV.out.2.2.2.1.below hb, HV.out.2.2.2.2.below hb⟩)
    have C1 := hide (fun wx h => rwords_any (.slice p1 l1.length q1) l1 (by omega) (fun x hx => by have := HZ.out.1 x hx; omega) wx (HS.out wx h).1)
    have C2 := hide (fun wx h => rrises_any (.slice p2 l2.length q2) l2 (by omega) wx (HS.out wx h).2.1)
    have C3 := hide (fun wx h => rwords_any (.slice p3 l3.length q3) l3 (by omega) (fun x hx => by have := HZ.out.2.2.1 x hx; omega) wx (HS.out wx h).2.2.1)
    have C4 := hide (fun wx h => rwords_any (.slice p4 l4.length q4) l4 (by omega) (fun x hx => by have := HZ.out.2.2.2.1 x hx; omega) wx (HS.out wx h).2.2.2.1)
    have C5 := hide (fun wx h => rwords_any (.slice p5 l5.length q5) l5 (by omega) (fun x hx => by have := HZ.out.2.2.2.2 x hx; omega) wx (HS.out wx h).2.2.2.2)
    rw [Bool.true_and] at HAL
    generalize words (l1.map bl) = t1 at HAL C1
    generalize rises (l2.map bl) = t2 at HAL C2
    generalize words (l3.map bl) = t3 at HAL C3
    generalize words (l4.map bl) = t4 at HAL C4
    generalize words (l5.map bl) = t5 at HAL C5
    go_upto_region 3 with fail
    go_cut [70] from 43 to 70 (fun v70 wx => v70 = .bool (!(t1 && (t2 && (t3 && (t4 && t5))))) ∧ Hid (Below wc.heap.size wc wx))
    case first =>
      cases t1 with
      | false =>
        have z1 := tag_cell (HY.out wc (Below.refl _ _)) 1 _ rfl
        go_wp2_with fail
        refine (C1.out _ (Below.refl _ _)).mono ?_
        rintro e x1 ⟨rfl, hb1⟩
        have HX1 := hide (hb1)
        clear hb1 z1
        go_wp2_with fail
        go_meet
        exact ⟨by simp, HX1⟩
      | true =>
        cases t2 with
        | false =>
          have z1 := tag_cell (HY.out wc (Below.refl _ _)) 1 _ rfl
          go_wp2_with fail
          refine (C1.out _ (Below.refl _ _)).mono ?_
          rintro e x1 ⟨rfl, hb1⟩
          have HX1 := hide (hb1)
          have z2 := tag_cell (HY.out x1 HX1.out) 2 _ rfl
          clear hb1 z1
          go_wp2_with fail
          refine (C2.out _ (HX1.out)).mono ?_
          rintro e x2 ⟨rfl, hb2⟩
          have HX2 := hide (bel2 HX1.out hb2)
          clear hb2 z2
          go_wp2_with fail
          go_meet
          exact ⟨by simp, HX2⟩
        | true =>
          cases t3 with
          | false =>
            have z1 := tag_cell (HY.out wc (Below.refl _ _)) 1 _ rfl
            go_wp2_with fail
            refine (C1.out _ (Below.refl _ _)).mono ?_
            rintro e x1 ⟨rfl, hb1⟩
            have HX1 := hide (hb1)
            have z2 := tag_cell (HY.out x1 HX1.out) 2 _ rfl
            clear hb1 z1
            go_wp2_with fail
            refine (C2.out _ (HX1.out)).mono ?_
            rintro e x2 ⟨rfl, hb2⟩
            have HX2 := hide (bel2 HX1.out hb2)
            have z3 := tag_cell (HY.out x2 HX2.out) 3 _ rfl
            clear hb2 z2
            go_wp2_with fail
            refine (C3.out _ (HX2.out)).mono ?_
            rintro e x3 ⟨rfl, hb3⟩
            have HX3 := hide (bel2 HX2.out hb3)
            clear hb3 z3
            go_wp2_with fail
            go_meet
            exact ⟨by simp, HX3⟩
          | true =>
            cases t4 with
            | false =>
              have z1 := tag_cell (HY.out wc (Below.refl _ _)) 1 _ rfl
              go_wp2_with fail
              refine (C1.out _ (Below.refl _ _)).mono ?_
              rintro e x1 ⟨rfl, hb1⟩
              have HX1 := hide (hb1)
              have z2 := tag_cell (HY.out x1 HX1.out) 2 _ rfl
              clear hb1 z1
              go_wp2_with fail
              refine (C2.out _ (HX1.out)).mono ?_
              rintro e x2 ⟨rfl, hb2⟩
              have HX2 := hide (bel2 HX1.out hb2)
              have z3 := tag_cell (HY.out x2 HX2.out) 3 _ rfl
              clear hb2 z2
              go_wp2_with fail
              refine (C3.out _ (HX2.out)).mono ?_
              rintro e x3 ⟨rfl, hb3⟩
              have HX3 := hide (bel2 HX2.out hb3)
              have z4 := tag_cell (HY.out x3 HX3.out) 4 _ rfl
              clear hb3 z3
              go_wp2_with fail
              refine (C4.out _ (HX3.out)).mono ?_
              rintro e x4 ⟨rfl, hb4⟩
              have HX4 := hide (bel2 HX3.out hb4)
              clear hb4 z4
              go_wp2_with fail
              go_meet
              exact ⟨by simp, HX4⟩
            | true =>
              cases t5 with
              | false =>
                have z1 := tag_cell (HY.out wc (Below.refl _ _)) 1 _ rfl
                go_wp2_with fail
                refine (C1.out _ (Below.refl _ _)).mono ?_
                rintro e x1 ⟨rfl, hb1⟩
                have HX1 := hide (hb1)
                have z2 := tag_cell (HY.out x1 HX1.out) 2 _ rfl
                clear hb1 z1
                go_wp2_with fail
                refine (C2.out _ (HX1.out)).mono ?_
                rintro e x2 ⟨rfl, hb2⟩
                have HX2 := hide (bel2 HX1.out hb2)
                have z3 := tag_cell (HY.out x2 HX2.out) 3 _ rfl
                clear hb2 z2
                go_wp2_with fail
                refine (C3.out _ (HX2.out)).mono ?_
                rintro e x3 ⟨rfl, hb3⟩
                have HX3 := hide (bel2 HX2.out hb3)
                have z4 := tag_cell (HY.out x3 HX3.out) 4 _ rfl
                clear hb3 z3
                go_wp2_with fail
                refine (C4.out _ (HX3.out)).mono ?_
                rintro e x4 ⟨rfl, hb4⟩
                have HX4 := hide (bel2 HX3.out hb4)
                have z5 := tag_cell (HY.out x4 HX4.out) 5 _ rfl
                clear hb4 z4
                go_wp2_with fail
                refine (C5.out _ (HX4.out)).mono ?_
                rintro e x5 ⟨rfl, hb5⟩
                have HX5 := hide (bel2 HX4.out hb5)
                clear hb5 z5
                go_wp2_with fail
                go_meet
                exact ⟨by simp, HX5⟩
              | true =>
                have z1 := tag_cell (HY.out wc (Below.refl _ _)) 1 _ rfl
                go_wp2_with fail
                refine (C1.out _ (Below.refl _ _)).mono ?_
                rintro e x1 ⟨rfl, hb1⟩
                have HX1 := hide (hb1)
                have z2 := tag_cell (HY.out x1 HX1.out) 2 _ rfl
                clear hb1 z1
                go_wp2_with fail
                refine (C2.out _ (HX1.out)).mono ?_
                rintro e x2 ⟨rfl, hb2⟩
                have HX2 := hide (bel2 HX1.out hb2)
                have z3 := tag_cell (HY.out x2 HX2.out) 3 _ rfl
                clear hb2 z2
                go_wp2_with fail
                refine (C3.out _ (HX2.out)).mono ?_
                rintro e x3 ⟨rfl, hb3⟩
                have HX3 := hide (bel2 HX2.out hb3)
                have z4 := tag_cell (HY.out x3 HX3.out) 4 _ rfl
                clear hb3 z3
                go_wp2_with fail
                refine (C4.out _ (HX3.out)).mono ?_
                rintro e x4 ⟨rfl, hb4⟩
                have HX4 := hide (bel2 HX3.out hb4)
                have z5 := tag_cell (HY.out x4 HX4.out) 5 _ rfl
                clear hb4 z4
                go_wp2_with fail
                refine (C5.out _ (HX4.out)).mono ?_
                rintro e x5 ⟨rfl, hb5⟩
                have HX5 := hide (bel2 HX4.out hb5)
                clear hb5 z5
                go_wp2_with fail
                go_meet
                exact ⟨by simp, HX5⟩
    case rest =>
    obtain ⟨rfl, HBC⟩ := hcut
    clear C1 C2 C3 C4 C5
    generalize (t1 && (t2 && (t3 && (t4 && t5)))) = tt at HAL
    obtain ⟨A, hA⟩ : ∃ A : Array Value, A = #[.int .i64 a0, .slice p1 l1.length q1, .slice p2 l2.length q2, .slice p3 l3.length q3, .slice p4 l4.length q4, .slice p5 l5.length q5, .int .i64 a6, .int .i64 a7, .int .i64 a8] := ⟨_, rfl⟩
    have HBP : Hid (BoxP w A wc) := hide (by rw [hA]; exact ⟨HY.out wc HBC.out, bel2 HB1.out HBC.out⟩)
    have HA1 : Hid (A[1]? = some (.slice p1 l1.length q1)) := hide (by rw [hA]; rfl)
    have HA2 : Hid (A[2]? = some (.slice p2 l2.length q2)) := hide (by rw [hA]; rfl)
    have HA3 : Hid (A[3]? = some (.slice p3 l3.length q3)) := hide (by rw [hA]; rfl)
    clear hA HY HS HBC HB1 HBX
    cases tt with
    | false =>
      have HR : Hid (R = false) := hide (by rw [HAL.out]; rfl)
      clear HAL
      go_wp2_with fail
      go_ret
      rw [HR.out]
      exact ⟨rfl, HBP.out.2⟩
    | true =>
      rw [Bool.true_and] at HAL
      go_wp2_with fail
      go_loopg [3] l1.length (fun g v wx => ∃ i : Nat, i + g = l1.length ∧ v = .int .i64 (i : Int) ∧ Hid (BoxP w A wx ∧ ∀ j z, j < i → l1[j]? = some z → (!never (bl z)) = true))
      case atStart => exact ⟨0, by omega, rfl, hide ⟨HBP.out, fun j z hj => by omega⟩⟩
      case round =>
        obtain ⟨i, hi, rfl, HU⟩ := hrel
        clear HBP
        by_cases hlt : i < l1.length
        · obtain ⟨y, hge⟩ : ∃ y, l1[i]? = some y := ⟨_, List.getElem?_eq_getElem hlt⟩
          have zb := HU.out.1.cell 1 _ HA1.out
          obtain ⟨b, off, rfl, c0⟩ : ∃ b off, p1 = some ⟨b, off, none⟩ ∧ wr.cell? ⟨b, off + i, none⟩ = some (.string y) := by
            obtain ⟨p', cap', e, -, hc⟩ := HV.out.1.below HU.out.1.2
            injection e with e1 e2 e3
            obtain ⟨b, off, e4, h⟩ := hc i y hge
            exact ⟨b, off, e1.trans e4, h⟩
          have CN := hide (rnever_any y wr)
          have HG := hide hge
          clear hge
          cases hn : never (bl y) with
          | true =>
            rw [hn] at CN
            have HR : Hid (R = false) := hide (by
              rw [HAL.out, all_false (f := fun e => !never e) HG.out (by simp only [hn]; rfl)]
              rfl)
            clear HAL hn HG
            go_wp2_with fail
            refine CN.out.mono ?_
            rintro e w2 ⟨rfl, hb2⟩
            have HB2 := hide (HU.out.1.keep hb2)
            clear hb2
            go_wp2_with fail
            go_ret
            rw [HR.out]
            exact ⟨rfl, HB2.out.2⟩
          | false =>
            rw [hn] at CN
            have HU2 := hide (upto_next (f := fun e => !never e) HG.out (by simp only [hn]; rfl) HU.out.2)
            clear hn HG
            go_wp2_with fail
            refine CN.out.mono ?_
            rintro e w2 ⟨rfl, hb2⟩
            have HB2 := hide (HU.out.1.keep hb2)
            clear hb2 HU
            go_wp2_with fail
            go_roundg (l1.length - i - 1)
            case measure => omega
            case rel => exact ⟨i + 1, by omega, by first | rfl | simp, hide ⟨HB2.out, HU2.out⟩⟩
        · have HNV : Hid ((l1.map bl).all (fun e => !never e) = true) := hide (all_true (f := fun e => !never e) fun j z hj => HU.out.2 j z (by omega))
          rw [HNV.out, Bool.true_and] at HAL
          have HBP := hide HU.out.1
          have zb := HBP.out.cell 1 _ HA1.out
          clear HU HNV
          go_wp2_with fail
          clear zb
          go_loopg [4] l2.length (fun g v wx => ∃ k : Nat, k + g = l2.length ∧ v = .int .i64 (k : Int) ∧ Hid (BoxP w A wx ∧ ∀ j z, j < k → l2[j]? = some z → attrOk (l1.map bl) (bl z) = true))
          case atStart => exact ⟨0, by omega, rfl, hide ⟨HBP.out, fun j z hj => by omega⟩⟩
          case round =>
            obtain ⟨k, hk, rfl, HU⟩ := hrel
            clear HBP
            by_cases hlt2 : k < l2.length
            · obtain ⟨y, hge⟩ : ∃ y, l2[k]? = some y := ⟨_, List.getElem?_eq_getElem hlt2⟩
              have zb1 := HU.out.1.cell 1 _ HA1.out
              have zb2 := HU.out.1.cell 2 _ HA2.out
              obtain ⟨b, off, rfl, c0⟩ : ∃ b off, p2 = some ⟨b, off, none⟩ ∧ wr.cell? ⟨b, off + k, none⟩ = some (.string y) := by
                obtain ⟨p', cap', e, -, hc⟩ := HV.out.2.1.below HU.out.1.2
                injection e with e1 e2 e3
                obtain ⟨b, off, e4, h⟩ := hc k y hge
                exact ⟨b, off, e1.trans e4, h⟩
              have hyz : y.size ≤ 1000000 := by have := HZ.out.2.1 y (List.mem_of_getElem? hge); omega
              have CA := hide (fun n => rattr_any y (.slice p1 l1.length q1) l1 hyz (by omega) (wr.drewN n) ((HV.out.1.below HU.out.1.2).below ⟨rfl, rfl, rfl, Nat.le_refl _, fun _ _ => rfl⟩))
              have HG := hide hge
              clear hge hyz
              cases hn : attrOk (l1.map bl) (bl y) with
              | false =>
                rw [hn] at CA
                have HR : Hid (R = false) := hide (by
                  rw [HAL.out, all_false HG.out hn]
                  rfl)
                clear HAL hn HG
                go_wp2_with fail
                go_quiet ((go_at_call 46; exact Calls.quiet_of_same (CA.out _)))
                go_wp2_with fail
                go_ret
                rw [HR.out]
                exact ⟨rfl, (HU.out.1.keep (bel_drewN _ _)).2⟩
              | true =>
                rw [hn] at CA
                have HU2 := hide (upto_next HG.out hn HU.out.2)
                clear hn HG
                go_wp2_with fail
                go_quiet ((go_at_call 46; exact Calls.quiet_of_same (CA.out _)))
                go_wp2_with fail
                go_roundg (l2.length - k - 1)
                case measure => omega
                case rel => exact ⟨k + 1, by omega, by first | rfl | simp, hide ⟨HU.out.1.keep ⟨rfl, rfl, rfl, Nat.le_refl _, fun _ _ => rfl⟩, HU2.out⟩⟩
            · have HAO : Hid ((l2.map bl).all (attrOk (l1.map bl)) = true) := hide (all_true fun j z hj => HU.out.2 j z (by omega))
              rw [HAO.out, Bool.true_and] at HAL
              have HBP := hide HU.out.1
              have zb1 := HBP.out.cell 1 _ HA1.out
              have zb2 := HBP.out.cell 2 _ HA2.out
              have zb3 := HBP.out.cell 3 _ HA3.out
              have HS1 := hide (HV.out.1.below HBP.out.2)
              have HS3 := hide (HV.out.2.2.1.below HBP.out.2)
              have CL := hide (rhas_any (.slice p1 l1.length q1) l1 ⟨#[108, 105]⟩ (by omega) wr HS1.out)
              have CU := hide (rhas_any (.slice p1 l1.length q1) l1 ⟨#[117, 108]⟩ (by omega) wr HS1.out)
              have CO := hide (rhas_any (.slice p1 l1.length q1) l1 ⟨#[111, 108]⟩ (by omega) wr HS1.out)
              have CJ := hide (rhas_any (.slice p3 l3.length q3) l3 ⟨#[106, 97, 118, 97, 115, 99, 114, 105, 112, 116]⟩ (by omega) wr HS3.out)
              have CD := hide (rhas_any (.slice p3 l3.length q3) l3 ⟨#[100, 97, 116, 97]⟩ (by omega) wr HS3.out)
              have CV := hide (rhas_any (.slice p3 l3.length q3) l3 ⟨#[118, 98, 115, 99, 114, 105, 112, 116]⟩ (by omega) wr HS3.out)
              have HLL : Hid (decide (li ∈ l1.map bl → ul ∈ l1.map bl ∧ ol ∈ l1.map bl) = (!decide (bl ⟨#[108, 105]⟩ ∈ l1.map bl) || (decide (bl ⟨#[117, 108]⟩ ∈ l1.map bl) && decide (bl ⟨#[111, 108]⟩ ∈ l1.map bl)))) := hide (by
                show decide (li ∈ l1.map bl → ul ∈ l1.map bl ∧ ol ∈ l1.map bl) = (!decide (li ∈ l1.map bl) || (decide (ul ∈ l1.map bl) && decide (ol ∈ l1.map bl)))
                by_cases h1 : li ∈ l1.map bl <;> by_cases h2 : ul ∈ l1.map bl <;> by_cases h3 : ol ∈ l1.map bl <;> simp only [h1, h2, h3] <;> decide)
              have HSS : Hid (decide (js ∉ l3.map bl ∧ dat ∉ l3.map bl ∧ vbs ∉ l3.map bl) = (!decide (bl ⟨#[106, 97, 118, 97, 115, 99, 114, 105, 112, 116]⟩ ∈ l3.map bl) && (!decide (bl ⟨#[100, 97, 116, 97]⟩ ∈ l3.map bl) && !decide (bl ⟨#[118, 98, 115, 99, 114, 105, 112, 116]⟩ ∈ l3.map bl)))) := hide (by
                show decide (js ∉ l3.map bl ∧ dat ∉ l3.map bl ∧ vbs ∉ l3.map bl) = (!decide (js ∈ l3.map bl) && (!decide (dat ∈ l3.map bl) && !decide (vbs ∈ l3.map bl)))
                by_cases h1 : js ∈ l3.map bl <;> by_cases h2 : dat ∈ l3.map bl <;> by_cases h3 : vbs ∈ l3.map bl <;> simp only [h1, h2, h3] <;> decide)
              rw [HLL.out, HSS.out] at HAL
              clear HU HAO HLL HSS
              generalize decide (bl ⟨#[108, 105]⟩ ∈ l1.map bl) = d1 at HAL CL
              generalize decide (bl ⟨#[117, 108]⟩ ∈ l1.map bl) = d2 at HAL CU
              generalize decide (bl ⟨#[111, 108]⟩ ∈ l1.map bl) = d3 at HAL CO
              generalize decide (bl ⟨#[106, 97, 118, 97, 115, 99, 114, 105, 112, 116]⟩ ∈ l3.map bl) = d4 at HAL CJ
              generalize decide (bl ⟨#[100, 97, 116, 97]⟩ ∈ l3.map bl) = d5 at HAL CD
              generalize decide (bl ⟨#[118, 98, 115, 99, 114, 105, 112, 116]⟩ ∈ l3.map bl) = d6 at HAL CV
              go_upto_region 15 with fail
              go_cut [114] from 100 to 114 (fun v114 wx => wx = wr ∧ v114 = .bool (d1 && (!d2 || !d3)))
              case first =>
                cases d1 with
                | false =>
                  go_wp2_with fail
                  refine CL.out.mono ?_
                  rintro e w2 ⟨rfl, rfl⟩
                  go_wp2_with fail
                  go_meet
                  exact ⟨rfl, rfl⟩
                | true =>
                  cases d2 with
                  | false =>
                    go_wp2_with fail
                    refine CL.out.mono ?_
                    rintro e w2 ⟨rfl, rfl⟩
                    go_wp2_with fail
                    refine CU.out.mono ?_
                    rintro e w2 ⟨rfl, rfl⟩
                    go_wp2_with fail
                    go_meet
                    exact ⟨rfl, rfl⟩
                  | true =>
                    cases d3 with
                    | false =>
                      go_wp2_with fail
                      refine CL.out.mono ?_
                      rintro e w2 ⟨rfl, rfl⟩
                      go_wp2_with fail
                      refine CU.out.mono ?_
                      rintro e w2 ⟨rfl, rfl⟩
                      go_wp2_with fail
                      refine CO.out.mono ?_
                      rintro e w2 ⟨rfl, rfl⟩
                      go_wp2_with fail
                      go_meet
                      exact ⟨rfl, rfl⟩
                    | true =>
                      go_wp2_with fail
                      refine CL.out.mono ?_
                      rintro e w2 ⟨rfl, rfl⟩
                      go_wp2_with fail
                      refine CU.out.mono ?_
                      rintro e w2 ⟨rfl, rfl⟩
                      go_wp2_with fail
                      refine CO.out.mono ?_
                      rintro e w2 ⟨rfl, rfl⟩
                      go_wp2_with fail
                      go_meet
                      exact ⟨rfl, rfl⟩
              case rest =>
              obtain ⟨hwc, rfl⟩ := hcut
              subst hwc
              have HD : Hid ((!d1 || (d2 && d3)) = !(d1 && (!d2 || !d3))) := hide (by cases d1 <;> cases d2 <;> cases d3 <;> rfl)
              rw [HD.out] at HAL
              generalize (d1 && (!d2 || !d3)) = dd at HAL
              clear HD CL CU CO
              cases dd with
              | true =>
                have HR : Hid (R = false) := hide (by rw [HAL.out]; rfl)
                clear HAL
                go_wp2_with fail
                go_ret
                rw [HR.out]
                exact ⟨rfl, HBP.out.2⟩
              | false =>
                cases d4 with
                | true =>
                  have HR : Hid (R = false) := hide (by rw [HAL.out]; rfl)
                  clear HAL
                  go_wp2_with fail
                  refine CJ.out.mono ?_
                  rintro e w2 ⟨rfl, rfl⟩
                  go_wp2_with fail
                  go_ret
                  rw [HR.out]
                  exact ⟨rfl, HBP.out.2⟩
                | false =>
                  cases d5 with
                  | true =>
                    have HR : Hid (R = false) := hide (by rw [HAL.out]; rfl)
                    clear HAL
                    go_wp2_with fail
                    refine CJ.out.mono ?_
                    rintro e w2 ⟨rfl, rfl⟩
                    go_wp2_with fail
                    refine CD.out.mono ?_
                    rintro e w2 ⟨rfl, rfl⟩
                    go_wp2_with fail
                    go_ret
                    rw [HR.out]
                    exact ⟨rfl, HBP.out.2⟩
                  | false =>
                    cases d6 with
                    | true =>
                      have HR : Hid (R = false) := hide (by rw [HAL.out]; rfl)
                      clear HAL
                      go_wp2_with fail
                      refine CJ.out.mono ?_
                      rintro e w2 ⟨rfl, rfl⟩
                      go_wp2_with fail
                      refine CD.out.mono ?_
                      rintro e w2 ⟨rfl, rfl⟩
                      go_wp2_with fail
                      refine CV.out.mono ?_
                      rintro e w2 ⟨rfl, rfl⟩
                      go_wp2_with fail
                      go_ret
                      rw [HR.out]
                      exact ⟨rfl, HBP.out.2⟩
                    | false =>
                      have HR : Hid (R = true) := hide (by rw [HAL.out]; rfl)
                      clear HAL
                      go_wp2_with fail
                      refine CJ.out.mono ?_
                      rintro e w2 ⟨rfl, rfl⟩
                      go_wp2_with fail
                      refine CD.out.mono ?_
                      rintro e w2 ⟨rfl, rfl⟩
                      go_wp2_with fail
                      refine CV.out.mono ?_
                      rintro e w2 ⟨rfl, rfl⟩
                      go_wp2_with fail
                      go_ret
                      rw [HR.out]
                      exact ⟨rfl, HBP.out.2⟩
end Go.Proofs.YtmogplecohkjcaaGreatDoor

namespace Go.Proofs.YtmogplecohkjcaaGreatDoor
open Go.RowKit
open Utf1 Pol8

theorem same_ext {a b : List ByteArray} (hl : a.length = b.length) (h : ∀ j x y, j < a.length → a[j]? = some x → b[j]? = some y → bl x = bl y) : a.map bl = b.map bl := by
  apply List.ext_getElem?
  intro j
  rw [List.getElem?_map, List.getElem?_map]
  by_cases hj : j < a.length
  · rw [List.getElem?_eq_getElem hj, List.getElem?_eq_getElem (by omega)]
    exact congrArg some (h j _ _ hj (List.getElem?_eq_getElem hj) (List.getElem?_eq_getElem (by omega)))
  · rw [List.getElem?_eq_none (by omega), List.getElem?_eq_none (by omega)]

set_option maxRecDepth 100000 in
set_option maxHeartbeats 8000000 in
theorem rsame_any (v u : Value) (ss rs : List ByteArray) (hr : rs.length ≤ 100000) (w : World) (hv : StrArg w v ss) (hu : StrArg w u rs) :
    Calls Tryz.prog 40 #[v, u] w fun e w' => e = .returned (.bool (decide (ss.map bl = rs.map bl))) ∧ Below w.heap.size w w' := by
  obtain ⟨R, hR⟩ : ∃ R, R = decide (ss.map bl = rs.map bl) := ⟨_, rfl⟩
  rw [← hR]
  have HAL := hide hR
  clear hR
  have HV := hide hv
  have HW := hide hu
  obtain ⟨p, cap, rfl, -, -⟩ := hv
  obtain ⟨p', cap', rfl, -, -⟩ := hu
  by_cases hne : ss.length = rs.length
  · rw [← hne] at hr HW ⊢
    obtain ⟨N, hN⟩ : ∃ N, N = ss.length := ⟨_, rfl⟩
    rw [← hN] at hr HV HW ⊢
    have HN := hide hN
    have HNE := hide hne
    clear hN hne
    go_enter Tryz.func40, Tryz.ntmps40
    go_wp2_with fail
    go_loopg [5] N (fun g v wx => ∃ i : Nat, i + g = N ∧ v = .int .i64 (i : Int) ∧ Hid (Below w.heap.size w wx ∧ ∀ j x y, j < i → ss[j]? = some x → rs[j]? = some y → bl x = bl y))
    case atStart => exact ⟨0, by omega, rfl, hide ⟨Below.refl _ _, fun j x y hj => by omega⟩⟩
    case round =>
      obtain ⟨i, hi, rfl, HU⟩ := hrel
      by_cases hlt : i < N
      · obtain ⟨x, hx⟩ : ∃ x, ss[i]? = some x := ⟨_, List.getElem?_eq_getElem (by rw [← HN.out]; exact hlt)⟩
        obtain ⟨y, hy⟩ : ∃ y, rs[i]? = some y := ⟨_, List.getElem?_eq_getElem (by rw [← HNE.out, ← HN.out]; exact hlt)⟩
        obtain ⟨b, off, rfl, c0⟩ : ∃ b off, p = some ⟨b, off, none⟩ ∧ wr.cell? ⟨b, off + i, none⟩ = some (.string x) := by
          obtain ⟨q, cq, e, -, hc⟩ := HV.out.below HU.out.1
          injection e with e1 e2 e3
          obtain ⟨b, off, e4, h⟩ := hc i x hx
          exact ⟨b, off, e1.trans e4, h⟩
        obtain ⟨b', off', rfl, c1⟩ : ∃ b off, p' = some ⟨b, off, none⟩ ∧ wr.cell? ⟨b, off + i, none⟩ = some (.string y) := by
          obtain ⟨q, cq, e, -, hc⟩ := HW.out.below HU.out.1
          injection e with e1 e2 e3
          obtain ⟨b, off, e4, h⟩ := hc i y hy
          exact ⟨b, off, e1.trans e4, h⟩
        have q0 := eq_two x y
        have HB : Hid (Below w.heap.size w wr.drew) := hide HU.out.1.drew
        have HXY := hide (And.intro hx hy)
        clear hx hy
        by_cases hxy : bl x = bl y
        · rw [decide_eq_true hxy] at q0
          have HU2 : Hid (∀ j x y, j < i + 1 → ss[j]? = some x → rs[j]? = some y → bl x = bl y) := hide (fun j a c hj h1 h2 => by
            by_cases e : j = i
            · subst e
              rw [HXY.out.1] at h1
              rw [HXY.out.2] at h2
              cases h1
              cases h2
              exact hxy
            · exact HU.out.2 j a c (by omega) h1 h2)
          clear hxy HU HXY
          go_wp2_with fail
          go_region
          go_wp2_with fail
          go_roundg (gk - 1)
          case measure => omega
          case rel => exact ⟨i + 1, by omega, by first | rfl | simp, hide ⟨HB.out, HU2.out⟩⟩
        · rw [decide_eq_false hxy] at q0
          have HR : Hid (R = false) := hide (by
            rw [HAL.out]
            apply decide_eq_false
            intro e
            have := congrArg (·[i]?) e
            simp only [List.getElem?_map, HXY.out.1, HXY.out.2, Option.map_some] at this
            exact hxy (Option.some.inj this))
          clear hxy HU HXY HAL
          go_wp2_with fail
          go_region
          go_wp2_with fail
          go_ret
          rw [HR.out]
          exact ⟨rfl, HB.out⟩
      · have HR : Hid (R = true) := hide (by
          rw [HAL.out]
          exact decide_eq_true (same_ext HNE.out fun j x y hj => HU.out.2 j x y (by rw [← HN.out] at hj; omega)))
        have HB := hide HU.out.1
        clear HU HAL
        go_wp2_with fail
        go_ret
        rw [HR.out]
        exact ⟨rfl, HB.out⟩
  · have HR : Hid (R = false) := hide (by
      rw [HAL.out]
      apply decide_eq_false
      intro e
      have := congrArg List.length e
      rw [List.length_map, List.length_map] at this
      exact hne this)
    have hni : ((ss.length : Int) != (rs.length : Int)) = true := by
      have : ¬ (ss.length : Int) = (rs.length : Int) := by omega
      simpa using this
    clear HAL
    go_enter Tryz.func40, Tryz.ntmps40
    go_wp2_with fail
    go_ret
    rw [HR.out]
    exact ⟨rfl, Below.refl _ _⟩
end Go.Proofs.YtmogplecohkjcaaGreatDoor

namespace Pol8
def sameP (p q : Pol) : Bool := decide (p.ep = q.ep) && (decide (p.el = q.el) && (decide (p.at_ = q.at_) && (decide (p.sc = q.sc) && (decide (p.cl = q.cl) && (decide (p.pr = q.pr) && (decide (p.dp = q.dp) && (decide (p.nd = q.nd) && decide (p.bt = q.bt))))))))
theorem sameP_iff (p q : Pol) : sameP p q = true ↔ p = q := by
  unfold sameP
  simp only [Bool.and_eq_true, decide_eq_true_eq]
  constructor
  · rintro ⟨h1, h2, h3, h4, h5, h6, h7, h8, h9⟩
    exact Pol.ext' h1 h2 h3 h4 h5 h6 h7 h8 h9
  · rintro rfl
    exact ⟨rfl, rfl, rfl, rfl, rfl, rfl, rfl, rfl, rfl⟩
end Pol8
namespace Go.Proofs.YtmogplecohkjcaaGreatDoor
open Go.RowKit
open Utf1 Pol8

/-- Two policies' parameters in their blocks. -/
def BoxQ (w : World) (A B : Array Value) (wx : World) : Prop := wx.heap[w.heap.size]? = some (.cells A 33 (0, 0)) ∧ wx.heap[w.heap.size + 1]? = some (.cells B 33 (0, 0)) ∧ Below w.heap.size w wx
theorem BoxQ.keep {w wx wy : World} {A B : Array Value} (h : BoxQ w A B wx) (hb : Below wx.heap.size wx wy) : BoxQ w A B wy :=
  ⟨(hb.block _ (Array.getElem?_eq_some_iff.1 h.1).1).trans h.1, (hb.block _ (Array.getElem?_eq_some_iff.1 h.2.1).1).trans h.2.1, h.2.2.trans (hb.mono h.2.2.size)⟩
theorem BoxQ.a {w wx : World} {A B : Array Value} (h : BoxQ w A B wx) (i : Nat) (v : Value) (hv : A[i]? = some v) : wx.cell? ⟨w.heap.size, i, none⟩ = some v := tag_cell h.1 i v hv
theorem BoxQ.b {w wx : World} {A B : Array Value} (h : BoxQ w A B wx) (i : Nat) (v : Value) (hv : B[i]? = some v) : wx.cell? ⟨w.heap.size + 1, i, none⟩ = some v := tag_cell h.2.1 i v hv
theorem BoxQ.new (w : World) (A B : Array Value) : BoxQ w A B ((w.alloc (.cells A 33)).alloc (.cells B 33)) := by
  have s1 : (w.alloc (.cells A 33)).heap.size = w.heap.size + 1 := by simp
  have k2 := new_block (w.alloc (.cells A 33)) B 33
  rw [s1] at k2
  refine ⟨?_, k2, bel_alloc (bel_alloc (Below.refl _ _) _) _⟩
  rw [Below.heap_alloc _ _ _ (by rw [s1]; omega)]
  exact new_block _ _ _

set_option maxRecDepth 100000 in
set_option maxHeartbeats 32000000 in
theorem rsameP_any (v1 v2 v3 v4 v5 u1 u2 u3 u4 u5 : Value) (p q : Pol) (l1 l2 l3 l4 l5 m1 m2 m3 m4 m5 : List ByteArray) (w : World) (hv : PolV w v1 v2 v3 v4 v5 p l1 l2 l3 l4 l5) (hu : PolV w u1 u2 u3 u4 u5 q m1 m2 m3 m4 m5) (hf : fits p) (hg : fits q) :
    Calls Tryz.prog 29 #[.agg #[.int .i64 p.ep, v1, v2, v3, v4, v5, .int .i64 p.dp, .int .i64 p.nd, .int .i64 p.bt], .agg #[.int .i64 q.ep, u1, u2, u3, u4, u5, .int .i64 q.dp, .int .i64 q.nd, .int .i64 q.bt]] w fun e w' => e = .returned (.bool (sameP p q)) ∧ Below w.heap.size w w' := by
  obtain ⟨f1, -⟩ := fits_of hf (by simp) hv.e1
  obtain ⟨g1, -⟩ := fits_of hg (by simp) hu.e1
  obtain ⟨f2, -⟩ := fits_of hf (by simp) hv.e2
  obtain ⟨g2, -⟩ := fits_of hg (by simp) hu.e2
  obtain ⟨f3, -⟩ := fits_of hf (by simp) hv.e3
  obtain ⟨g3, -⟩ := fits_of hg (by simp) hu.e3
  obtain ⟨f4, -⟩ := fits_of hf (by simp) hv.e4
  obtain ⟨g4, -⟩ := fits_of hg (by simp) hu.e4
  obtain ⟨f5, -⟩ := fits_of hf (by simp) hv.e5
  obtain ⟨g5, -⟩ := fits_of hg (by simp) hu.e5
  obtain ⟨A, hA⟩ : ∃ A : Array Value, A = #[.int .i64 p.ep, v1, v2, v3, v4, v5, .int .i64 p.dp, .int .i64 p.nd, .int .i64 p.bt] := ⟨_, rfl⟩
  obtain ⟨B, hB⟩ : ∃ B : Array Value, B = #[.int .i64 q.ep, u1, u2, u3, u4, u5, .int .i64 q.dp, .int .i64 q.nd, .int .i64 q.bt] := ⟨_, rfl⟩
  obtain ⟨w1, hw1⟩ : ∃ w1, w1 = (w.alloc (.cells A 33)).alloc (.cells B 33) := ⟨_, rfl⟩
  have HN : Hid (BoxQ w A B w1) := hide (by rw [hw1]; exact BoxQ.new w A B)
  have Y0 : Hid (∀ wx, BoxQ w A B wx → wx.cell? ⟨w.heap.size, 0, none⟩ = some (.int .i64 p.ep) ∧ wx.cell? ⟨w.heap.size + 1, 0, none⟩ = some (.int .i64 q.ep)) := hide (fun wx h => ⟨h.a 0 _ (by rw [hA]; rfl), h.b 0 _ (by rw [hB]; rfl)⟩)
  have Y1 : Hid (∀ wx, BoxQ w A B wx → wx.cell? ⟨w.heap.size, 1, none⟩ = some (v1) ∧ wx.cell? ⟨w.heap.size + 1, 1, none⟩ = some (u1)) := hide (fun wx h => ⟨h.a 1 _ (by rw [hA]; rfl), h.b 1 _ (by rw [hB]; rfl)⟩)
  have Y2 : Hid (∀ wx, BoxQ w A B wx → wx.cell? ⟨w.heap.size, 2, none⟩ = some (v2) ∧ wx.cell? ⟨w.heap.size + 1, 2, none⟩ = some (u2)) := hide (fun wx h => ⟨h.a 2 _ (by rw [hA]; rfl), h.b 2 _ (by rw [hB]; rfl)⟩)
  have Y3 : Hid (∀ wx, BoxQ w A B wx → wx.cell? ⟨w.heap.size, 3, none⟩ = some (v3) ∧ wx.cell? ⟨w.heap.size + 1, 3, none⟩ = some (u3)) := hide (fun wx h => ⟨h.a 3 _ (by rw [hA]; rfl), h.b 3 _ (by rw [hB]; rfl)⟩)
  have Y4 : Hid (∀ wx, BoxQ w A B wx → wx.cell? ⟨w.heap.size, 4, none⟩ = some (v4) ∧ wx.cell? ⟨w.heap.size + 1, 4, none⟩ = some (u4)) := hide (fun wx h => ⟨h.a 4 _ (by rw [hA]; rfl), h.b 4 _ (by rw [hB]; rfl)⟩)
  have Y5 : Hid (∀ wx, BoxQ w A B wx → wx.cell? ⟨w.heap.size, 5, none⟩ = some (v5) ∧ wx.cell? ⟨w.heap.size + 1, 5, none⟩ = some (u5)) := hide (fun wx h => ⟨h.a 5 _ (by rw [hA]; rfl), h.b 5 _ (by rw [hB]; rfl)⟩)
  have Y6 : Hid (∀ wx, BoxQ w A B wx → wx.cell? ⟨w.heap.size, 6, none⟩ = some (.int .i64 p.dp) ∧ wx.cell? ⟨w.heap.size + 1, 6, none⟩ = some (.int .i64 q.dp)) := hide (fun wx h => ⟨h.a 6 _ (by rw [hA]; rfl), h.b 6 _ (by rw [hB]; rfl)⟩)
  have Y7 : Hid (∀ wx, BoxQ w A B wx → wx.cell? ⟨w.heap.size, 7, none⟩ = some (.int .i64 p.nd) ∧ wx.cell? ⟨w.heap.size + 1, 7, none⟩ = some (.int .i64 q.nd)) := hide (fun wx h => ⟨h.a 7 _ (by rw [hA]; rfl), h.b 7 _ (by rw [hB]; rfl)⟩)
  have Y8 : Hid (∀ wx, BoxQ w A B wx → wx.cell? ⟨w.heap.size, 8, none⟩ = some (.int .i64 p.bt) ∧ wx.cell? ⟨w.heap.size + 1, 8, none⟩ = some (.int .i64 q.bt)) := hide (fun wx h => ⟨h.a 8 _ (by rw [hA]; rfl), h.b 8 _ (by rw [hB]; rfl)⟩)
  have C1 : Hid (∀ wx, BoxQ w A B wx → Calls Tryz.prog 40 #[v1, u1] wx fun e w' => e = .returned (.bool (decide (p.el = q.el))) ∧ BoxQ w A B w') := hide (fun wx h => by
    have := rsame_any v1 u1 l1 m1 (by omega) wx (hv.s1.below h.2.2) (hu.s1.below h.2.2)
    rw [hv.e1, hu.e1] at this
    exact this.mono fun e w' ⟨h1, h2⟩ => ⟨h1, h.keep h2⟩)
  have C2 : Hid (∀ wx, BoxQ w A B wx → Calls Tryz.prog 40 #[v2, u2] wx fun e w' => e = .returned (.bool (decide (p.at_ = q.at_))) ∧ BoxQ w A B w') := hide (fun wx h => by
    have := rsame_any v2 u2 l2 m2 (by omega) wx (hv.s2.below h.2.2) (hu.s2.below h.2.2)
    rw [hv.e2, hu.e2] at this
    exact this.mono fun e w' ⟨h1, h2⟩ => ⟨h1, h.keep h2⟩)
  have C3 : Hid (∀ wx, BoxQ w A B wx → Calls Tryz.prog 40 #[v3, u3] wx fun e w' => e = .returned (.bool (decide (p.sc = q.sc))) ∧ BoxQ w A B w') := hide (fun wx h => by
    have := rsame_any v3 u3 l3 m3 (by omega) wx (hv.s3.below h.2.2) (hu.s3.below h.2.2)
    rw [hv.e3, hu.e3] at this
    exact this.mono fun e w' ⟨h1, h2⟩ => ⟨h1, h.keep h2⟩)
  have C4 : Hid (∀ wx, BoxQ w A B wx → Calls Tryz.prog 40 #[v4, u4] wx fun e w' => e = .returned (.bool (decide (p.cl = q.cl))) ∧ BoxQ w A B w') := hide (fun wx h => by
    have := rsame_any v4 u4 l4 m4 (by omega) wx (hv.s4.below h.2.2) (hu.s4.below h.2.2)
    rw [hv.e4, hu.e4] at this
    exact this.mono fun e w' ⟨h1, h2⟩ => ⟨h1, h.keep h2⟩)
  have C5 : Hid (∀ wx, BoxQ w A B wx → Calls Tryz.prog 40 #[v5, u5] wx fun e w' => e = .returned (.bool (decide (p.pr = q.pr))) ∧ BoxQ w A B w') := hide (fun wx h => by
    have := rsame_any v5 u5 l5 m5 (by omega) wx (hv.s5.below h.2.2) (hu.s5.below h.2.2)
    rw [hv.e5, hu.e5] at this
    exact this.mono fun e w' ⟨h1, h2⟩ => ⟨h1, h.keep h2⟩)
  have HS : Hid (sameP p q = (decide (p.ep = q.ep) && (decide (p.el = q.el) && (decide (p.at_ = q.at_) && (decide (p.sc = q.sc) && (decide (p.cl = q.cl) && (decide (p.pr = q.pr) && (decide (p.dp = q.dp) && (decide (p.nd = q.nd) && decide (p.bt = q.bt)))))))))) := hide rfl
  obtain ⟨R, hR⟩ : ∃ R, R = sameP p q := ⟨_, rfl⟩
  rw [← hR] at HS ⊢
  clear hR
  have e0 : (p.ep == q.ep) = decide (p.ep = q.ep) := by by_cases h : p.ep = q.ep <;> simp [h]
  generalize decide (p.ep = q.ep) = d0 at HS e0
  have e6 : (p.dp == q.dp) = decide (p.dp = q.dp) := by by_cases h : p.dp = q.dp <;> simp [h]
  generalize decide (p.dp = q.dp) = d6 at HS e6
  have e7 : (p.nd == q.nd) = decide (p.nd = q.nd) := by by_cases h : p.nd = q.nd <;> simp [h]
  generalize decide (p.nd = q.nd) = d7 at HS e7
  have e8 : (p.bt == q.bt) = decide (p.bt = q.bt) := by by_cases h : p.bt = q.bt <;> simp [h]
  generalize decide (p.bt = q.bt) = d8 at HS e8
  generalize decide (p.el = q.el) = d1 at HS C1
  generalize decide (p.at_ = q.at_) = d2 at HS C2
  generalize decide (p.sc = q.sc) = d3 at HS C3
  generalize decide (p.cl = q.cl) = d4 at HS C4
  generalize decide (p.pr = q.pr) = d5 at HS C5
  generalize p.ep = x0 at *
  generalize q.ep = z0 at *
  generalize p.dp = x6 at *
  generalize q.dp = z6 at *
  generalize p.nd = x7 at *
  generalize q.nd = z7 at *
  generalize p.bt = x8 at *
  generalize q.bt = z8 at *
  rw [hA, hB] at hw1
  clear hv hu hf hg hA hB f1 g1 f2 g2 f3 g3 f4 g4 f5 g5
  cases d0 with
  | false =>
    have HR : Hid (R = false) := hide (by rw [HS.out]; rfl)
    clear HS
    obtain ⟨y0, y0b⟩ := Y0.out w1 HN.out
    go_enter Tryz.func29, Tryz.ntmps29
    go_upto_region 1 with fail
    rw [← hw1]
    clear hw1
    go_wp2_with fail
    go_ret
    rw [HR.out]
    exact ⟨rfl, HN.out.2.2⟩
  | true =>
    cases d1 with
    | false =>
      have HR : Hid (R = false) := hide (by rw [HS.out]; rfl)
      clear HS
      obtain ⟨y0, y0b⟩ := Y0.out w1 HN.out
      obtain ⟨y1, y1b⟩ := Y1.out w1 HN.out
      go_enter Tryz.func29, Tryz.ntmps29
      go_upto_region 1 with fail
      rw [← hw1]
      clear hw1
      go_wp2_with fail
      refine (C1.out _ HN.out).mono ?_
      rintro e X1 ⟨rfl, h1⟩
      have H1 := hide h1
      clear h1 y1 y1b y0 y0b
      go_wp2_with fail
      go_ret
      rw [HR.out]
      exact ⟨rfl, H1.out.2.2⟩
    | true =>
      cases d2 with
      | false =>
        have HR : Hid (R = false) := hide (by rw [HS.out]; rfl)
        clear HS
        obtain ⟨y0, y0b⟩ := Y0.out w1 HN.out
        obtain ⟨y1, y1b⟩ := Y1.out w1 HN.out
        go_enter Tryz.func29, Tryz.ntmps29
        go_upto_region 1 with fail
        rw [← hw1]
        clear hw1
        go_wp2_with fail
        refine (C1.out _ HN.out).mono ?_
        rintro e X1 ⟨rfl, h1⟩
        have H1 := hide h1
        clear h1 y1 y1b y0 y0b
        obtain ⟨y2, y2b⟩ := Y2.out X1 H1.out
        go_wp2_with fail
        refine (C2.out _ H1.out).mono ?_
        rintro e X2 ⟨rfl, h2⟩
        have H2 := hide h2
        clear h2 y2 y2b
        go_wp2_with fail
        go_ret
        rw [HR.out]
        exact ⟨rfl, H2.out.2.2⟩
      | true =>
        cases d3 with
        | false =>
          have HR : Hid (R = false) := hide (by rw [HS.out]; rfl)
          clear HS
          obtain ⟨y0, y0b⟩ := Y0.out w1 HN.out
          obtain ⟨y1, y1b⟩ := Y1.out w1 HN.out
          go_enter Tryz.func29, Tryz.ntmps29
          go_upto_region 1 with fail
          rw [← hw1]
          clear hw1
          go_wp2_with fail
          refine (C1.out _ HN.out).mono ?_
          rintro e X1 ⟨rfl, h1⟩
          have H1 := hide h1
          clear h1 y1 y1b y0 y0b
          obtain ⟨y2, y2b⟩ := Y2.out X1 H1.out
          go_wp2_with fail
          refine (C2.out _ H1.out).mono ?_
          rintro e X2 ⟨rfl, h2⟩
          have H2 := hide h2
          clear h2 y2 y2b
          obtain ⟨y3, y3b⟩ := Y3.out X2 H2.out
          go_wp2_with fail
          refine (C3.out _ H2.out).mono ?_
          rintro e X3 ⟨rfl, h3⟩
          have H3 := hide h3
          clear h3 y3 y3b
          go_wp2_with fail
          go_ret
          rw [HR.out]
          exact ⟨rfl, H3.out.2.2⟩
        | true =>
          cases d4 with
          | false =>
            have HR : Hid (R = false) := hide (by rw [HS.out]; rfl)
            clear HS
            obtain ⟨y0, y0b⟩ := Y0.out w1 HN.out
            obtain ⟨y1, y1b⟩ := Y1.out w1 HN.out
            go_enter Tryz.func29, Tryz.ntmps29
            go_upto_region 1 with fail
            rw [← hw1]
            clear hw1
            go_wp2_with fail
            refine (C1.out _ HN.out).mono ?_
            rintro e X1 ⟨rfl, h1⟩
            have H1 := hide h1
            clear h1 y1 y1b y0 y0b
            obtain ⟨y2, y2b⟩ := Y2.out X1 H1.out
            go_wp2_with fail
            refine (C2.out _ H1.out).mono ?_
            rintro e X2 ⟨rfl, h2⟩
            have H2 := hide h2
            clear h2 y2 y2b
            obtain ⟨y3, y3b⟩ := Y3.out X2 H2.out
            go_wp2_with fail
            refine (C3.out _ H2.out).mono ?_
            rintro e X3 ⟨rfl, h3⟩
            have H3 := hide h3
            clear h3 y3 y3b
            obtain ⟨y4, y4b⟩ := Y4.out X3 H3.out
            go_wp2_with fail
            refine (C4.out _ H3.out).mono ?_
            rintro e X4 ⟨rfl, h4⟩
            have H4 := hide h4
            clear h4 y4 y4b
            go_wp2_with fail
            go_ret
            rw [HR.out]
            exact ⟨rfl, H4.out.2.2⟩
          | true =>
            cases d5 with
            | false =>
              have HR : Hid (R = false) := hide (by rw [HS.out]; rfl)
              clear HS
              obtain ⟨y0, y0b⟩ := Y0.out w1 HN.out
              obtain ⟨y1, y1b⟩ := Y1.out w1 HN.out
              go_enter Tryz.func29, Tryz.ntmps29
              go_upto_region 1 with fail
              rw [← hw1]
              clear hw1
              go_wp2_with fail
              refine (C1.out _ HN.out).mono ?_
              rintro e X1 ⟨rfl, h1⟩
              have H1 := hide h1
              clear h1 y1 y1b y0 y0b
              obtain ⟨y2, y2b⟩ := Y2.out X1 H1.out
              go_wp2_with fail
              refine (C2.out _ H1.out).mono ?_
              rintro e X2 ⟨rfl, h2⟩
              have H2 := hide h2
              clear h2 y2 y2b
              obtain ⟨y3, y3b⟩ := Y3.out X2 H2.out
              go_wp2_with fail
              refine (C3.out _ H2.out).mono ?_
              rintro e X3 ⟨rfl, h3⟩
              have H3 := hide h3
              clear h3 y3 y3b
              obtain ⟨y4, y4b⟩ := Y4.out X3 H3.out
              go_wp2_with fail
              refine (C4.out _ H3.out).mono ?_
              rintro e X4 ⟨rfl, h4⟩
              have H4 := hide h4
              clear h4 y4 y4b
              obtain ⟨y5, y5b⟩ := Y5.out X4 H4.out
              go_wp2_with fail
              refine (C5.out _ H4.out).mono ?_
              rintro e X5 ⟨rfl, h5⟩
              have H5 := hide h5
              clear h5 y5 y5b
              go_wp2_with fail
              go_ret
              rw [HR.out]
              exact ⟨rfl, H5.out.2.2⟩
            | true =>
              cases d6 with
              | false =>
                have HR : Hid (R = false) := hide (by rw [HS.out]; rfl)
                clear HS
                obtain ⟨y0, y0b⟩ := Y0.out w1 HN.out
                obtain ⟨y1, y1b⟩ := Y1.out w1 HN.out
                go_enter Tryz.func29, Tryz.ntmps29
                go_upto_region 1 with fail
                rw [← hw1]
                clear hw1
                go_wp2_with fail
                refine (C1.out _ HN.out).mono ?_
                rintro e X1 ⟨rfl, h1⟩
                have H1 := hide h1
                clear h1 y1 y1b y0 y0b
                obtain ⟨y2, y2b⟩ := Y2.out X1 H1.out
                go_wp2_with fail
                refine (C2.out _ H1.out).mono ?_
                rintro e X2 ⟨rfl, h2⟩
                have H2 := hide h2
                clear h2 y2 y2b
                obtain ⟨y3, y3b⟩ := Y3.out X2 H2.out
                go_wp2_with fail
                refine (C3.out _ H2.out).mono ?_
                rintro e X3 ⟨rfl, h3⟩
                have H3 := hide h3
                clear h3 y3 y3b
                obtain ⟨y4, y4b⟩ := Y4.out X3 H3.out
                go_wp2_with fail
                refine (C4.out _ H3.out).mono ?_
                rintro e X4 ⟨rfl, h4⟩
                have H4 := hide h4
                clear h4 y4 y4b
                obtain ⟨y5, y5b⟩ := Y5.out X4 H4.out
                go_wp2_with fail
                refine (C5.out _ H4.out).mono ?_
                rintro e X5 ⟨rfl, h5⟩
                have H5 := hide h5
                clear h5 y5 y5b
                obtain ⟨y6, y6b⟩ := Y6.out X5 H5.out
                go_wp2_with fail
                go_ret
                rw [HR.out]
                exact ⟨rfl, H5.out.2.2⟩
              | true =>
                cases d7 with
                | false =>
                  have HR : Hid (R = false) := hide (by rw [HS.out]; rfl)
                  clear HS
                  obtain ⟨y0, y0b⟩ := Y0.out w1 HN.out
                  obtain ⟨y1, y1b⟩ := Y1.out w1 HN.out
                  go_enter Tryz.func29, Tryz.ntmps29
                  go_upto_region 1 with fail
                  rw [← hw1]
                  clear hw1
                  go_wp2_with fail
                  refine (C1.out _ HN.out).mono ?_
                  rintro e X1 ⟨rfl, h1⟩
                  have H1 := hide h1
                  clear h1 y1 y1b y0 y0b
                  obtain ⟨y2, y2b⟩ := Y2.out X1 H1.out
                  go_wp2_with fail
                  refine (C2.out _ H1.out).mono ?_
                  rintro e X2 ⟨rfl, h2⟩
                  have H2 := hide h2
                  clear h2 y2 y2b
                  obtain ⟨y3, y3b⟩ := Y3.out X2 H2.out
                  go_wp2_with fail
                  refine (C3.out _ H2.out).mono ?_
                  rintro e X3 ⟨rfl, h3⟩
                  have H3 := hide h3
                  clear h3 y3 y3b
                  obtain ⟨y4, y4b⟩ := Y4.out X3 H3.out
                  go_wp2_with fail
                  refine (C4.out _ H3.out).mono ?_
                  rintro e X4 ⟨rfl, h4⟩
                  have H4 := hide h4
                  clear h4 y4 y4b
                  obtain ⟨y5, y5b⟩ := Y5.out X4 H4.out
                  go_wp2_with fail
                  refine (C5.out _ H4.out).mono ?_
                  rintro e X5 ⟨rfl, h5⟩
                  have H5 := hide h5
                  clear h5 y5 y5b
                  obtain ⟨y6, y6b⟩ := Y6.out X5 H5.out
                  obtain ⟨y7, y7b⟩ := Y7.out X5 H5.out
                  go_wp2_with fail
                  go_ret
                  rw [HR.out]
                  exact ⟨rfl, H5.out.2.2⟩
                | true =>
                  cases d8 with
                  | false =>
                    have HR : Hid (R = false) := hide (by rw [HS.out]; rfl)
                    clear HS
                    obtain ⟨y0, y0b⟩ := Y0.out w1 HN.out
                    obtain ⟨y1, y1b⟩ := Y1.out w1 HN.out
                    go_enter Tryz.func29, Tryz.ntmps29
                    go_upto_region 1 with fail
                    rw [← hw1]
                    clear hw1
                    go_wp2_with fail
                    refine (C1.out _ HN.out).mono ?_
                    rintro e X1 ⟨rfl, h1⟩
                    have H1 := hide h1
                    clear h1 y1 y1b y0 y0b
                    obtain ⟨y2, y2b⟩ := Y2.out X1 H1.out
                    go_wp2_with fail
                    refine (C2.out _ H1.out).mono ?_
                    rintro e X2 ⟨rfl, h2⟩
                    have H2 := hide h2
                    clear h2 y2 y2b
                    obtain ⟨y3, y3b⟩ := Y3.out X2 H2.out
                    go_wp2_with fail
                    refine (C3.out _ H2.out).mono ?_
                    rintro e X3 ⟨rfl, h3⟩
                    have H3 := hide h3
                    clear h3 y3 y3b
                    obtain ⟨y4, y4b⟩ := Y4.out X3 H3.out
                    go_wp2_with fail
                    refine (C4.out _ H3.out).mono ?_
                    rintro e X4 ⟨rfl, h4⟩
                    have H4 := hide h4
                    clear h4 y4 y4b
                    obtain ⟨y5, y5b⟩ := Y5.out X4 H4.out
                    go_wp2_with fail
                    refine (C5.out _ H4.out).mono ?_
                    rintro e X5 ⟨rfl, h5⟩
                    have H5 := hide h5
                    clear h5 y5 y5b
                    obtain ⟨y6, y6b⟩ := Y6.out X5 H5.out
                    obtain ⟨y7, y7b⟩ := Y7.out X5 H5.out
                    obtain ⟨y8, y8b⟩ := Y8.out X5 H5.out
                    go_wp2_with fail
                    go_ret
                    rw [HR.out]
                    exact ⟨rfl, H5.out.2.2⟩
                  | true =>
                    have HR : Hid (R = true) := hide (by rw [HS.out]; rfl)
                    clear HS
                    obtain ⟨y0, y0b⟩ := Y0.out w1 HN.out
                    obtain ⟨y1, y1b⟩ := Y1.out w1 HN.out
                    go_enter Tryz.func29, Tryz.ntmps29
                    go_upto_region 1 with fail
                    rw [← hw1]
                    clear hw1
                    go_wp2_with fail
                    refine (C1.out _ HN.out).mono ?_
                    rintro e X1 ⟨rfl, h1⟩
                    have H1 := hide h1
                    clear h1 y1 y1b y0 y0b
                    obtain ⟨y2, y2b⟩ := Y2.out X1 H1.out
                    go_wp2_with fail
                    refine (C2.out _ H1.out).mono ?_
                    rintro e X2 ⟨rfl, h2⟩
                    have H2 := hide h2
                    clear h2 y2 y2b
                    obtain ⟨y3, y3b⟩ := Y3.out X2 H2.out
                    go_wp2_with fail
                    refine (C3.out _ H2.out).mono ?_
                    rintro e X3 ⟨rfl, h3⟩
                    have H3 := hide h3
                    clear h3 y3 y3b
                    obtain ⟨y4, y4b⟩ := Y4.out X3 H3.out
                    go_wp2_with fail
                    refine (C4.out _ H3.out).mono ?_
                    rintro e X4 ⟨rfl, h4⟩
                    have H4 := hide h4
                    clear h4 y4 y4b
                    obtain ⟨y5, y5b⟩ := Y5.out X4 H4.out
                    go_wp2_with fail
                    refine (C5.out _ H4.out).mono ?_
                    rintro e X5 ⟨rfl, h5⟩
                    have H5 := hide h5
                    clear h5 y5 y5b
                    obtain ⟨y6, y6b⟩ := Y6.out X5 H5.out
                    obtain ⟨y7, y7b⟩ := Y7.out X5 H5.out
                    obtain ⟨y8, y8b⟩ := Y8.out X5 H5.out
                    go_wp2_with fail
                    go_ret
                    rw [HR.out]
                    exact ⟨rfl, H5.out.2.2⟩
end Go.Proofs.YtmogplecohkjcaaGreatDoor
