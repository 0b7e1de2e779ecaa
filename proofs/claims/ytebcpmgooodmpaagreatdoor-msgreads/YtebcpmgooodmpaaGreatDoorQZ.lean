/-
  The document's own Has, word, rises, words.
-/
import Derived.Test.YtebcpmgooodmpaaGreatDoorPW
import Derived.Test.YtebcpmgooodmpaaGreatDoorMZ
import Derived.BigQuiet
import Derived.Test.YtebcpmgooodmpaaGreatDoorPG
import Derived.Deep.RegionHeld3
namespace Go.Proofs.YtebcpmgooodmpaaGreatDoor
open Go.RowKit
open Utf1 Pol8

set_option maxHeartbeats 4000000 in
theorem rhas_any (v : Value) (ss : List ByteArray) (X : ByteArray) (hl : ss.length ≤ 100000) (w : World) (hv : StrArg w v ss) :
    Calls Tryz.prog 62 #[v, .string X] w fun e w' => e = .returned (.bool (decide (bl X ∈ ss.map bl))) ∧ w' = w := by
  obtain ⟨R, hR⟩ : ∃ R, R = decide (bl X ∈ ss.map bl) := ⟨_, rfl⟩
  rw [← hR]
  have HAL := hide hR
  clear hR
  obtain ⟨p, cap, rfl, -, hc⟩ := hv
  have HC := hide hc
  obtain ⟨N, hN⟩ : ∃ N, N = ss.length := ⟨_, rfl⟩
  rw [← hN] at hl ⊢
  have HN := hide hN
  clear hc hN
  go_enter Tryz.func62, Tryz.ntmps62
  go_wp2_with fail
  go_loopg [5] N (fun g v wx => wx = w ∧ ∃ i : Nat, i + g = N ∧ v = .int .i64 (i : Int) ∧ Hid (bl X ∉ (ss.take i).map bl))
  case atStart => exact ⟨rfl, 0, by omega, rfl, hide (by simp)⟩
  case round =>
    obtain ⟨rfl, i, hi, rfl, HU⟩ := hrel
    by_cases hlt : i < N
    · obtain ⟨y, hge⟩ : ∃ y, ss[i]? = some y := ⟨_, List.getElem?_eq_getElem (by rw [← HN.out]; exact hlt)⟩
      obtain ⟨b, off, rfl, c0⟩ := HC.out i y hge
      have q0 := eq_two y X
      have HMS := hide (mem_step (X := X) hge)
      have HMM : Hid (bl y ∈ ss.map bl) := hide (List.mem_map_of_mem (List.mem_of_getElem? hge))
      clear hge
      by_cases hy : bl y = bl X
      · rw [decide_eq_true hy] at q0
        have HR : Hid (R = true) := hide (by
          rw [HAL.out]
          apply decide_eq_true
          rw [← hy]
          exact HMM.out)
        clear hy HU HMS
        go_wp2_with fail
        go_ret
        rw [HR.out]
        exact ⟨rfl, rfl⟩
      · rw [decide_eq_false hy] at q0
        have HU2 : Hid (bl X ∉ (ss.take (i + 1)).map bl) := hide (fun h => (HMS.out.1 h).elim HU.out hy)
        clear hy HU HMS
        go_wp2_with fail
        go_roundg (gk - 1)
        case measure => omega
        case rel => exact ⟨rfl, i + 1, by omega, by first | rfl | simp, HU2⟩
    · have HR : Hid (R = false) := hide (by
        rw [HAL.out]
        apply decide_eq_false
        have := HU.out
        rw [List.take_of_length_le (by rw [← HN.out]; omega)] at this
        exact this)
      clear HU
      go_wp2_with fail
      go_ret
      rw [HR.out]
      exact ⟨rfl, rfl⟩

set_option maxRecDepth 100000 in
set_option maxHeartbeats 8000000 in
theorem rword_any (s : ByteArray) (hs : s.size ≤ 9223372036854775807) (w : World) :
    Calls Tryz.prog 85 #[.string s] w fun e w' => e = .returned (.bool (isWord (bl s))) ∧ w' = w := by
  obtain ⟨R, hR⟩ : ∃ R, R = isWord (bl s) := ⟨_, rfl⟩
  rw [← hR]
  have HAL := hide hR
  clear hR
  go_enter Tryz.func85, Tryz.ntmps85
  go_wp2_with fail
  go_loopg [3] s.size (fun g v wx => wx = w ∧ ∃ k : Nat, k + g = s.size ∧ v = .int .i64 (k : Int) ∧ Hid (∀ j c, j < k → (bl s)[j]? = some c → wcp j c = true))
  case atStart => exact ⟨rfl, 0, by omega, rfl, hide (fun j c hj => by omega)⟩
  case round =>
    obtain ⟨rfl, k, hk, rfl, HU⟩ := hrel
    by_cases hlt : k < s.size
    · obtain ⟨c, hc⟩ := getK s k hlt
      have ip := fun w => idxK hc w
      have HOK : Hid (wcn k c.toNat = true → ∀ j d, j < k + 1 → (bl s)[j]? = some d → wcp j d = true) := hide (fun h => wup hc h HU.out)
      have HNO : Hid (wcn k c.toNat = false → R = false) := hide (fun h => by rw [HAL.out]; exact word_bad hc h)
      have hb := c.toNat_lt
      obtain ⟨n, hn⟩ : ∃ n, n = c.toNat := ⟨_, rfl⟩
      rw [← hn] at ip HOK HNO hb
      clear hc hn HU HAL
      by_cases hk0 : 0 < k
      · rcases (show n < 45 ∨ n = 45 ∨ (45 < n ∧ n < 48) ∨ (48 ≤ n ∧ n ≤ 57) ∨ (57 < n ∧ n < 97) ∨ (97 ≤ n ∧ n ≤ 122) ∨ 122 < n from by omega) with h | h | h | h | h | h | h
        · have HN := hide (HNO.out (decide_eq_false (by omega)))
          have e45 : ((n : Int) == 45) = false := beq_eq_false_iff_ne.2 (by omega)
          have g97 : decide ((97 : Int) ≤ (n : Int)) = false := decide_eq_false (by omega)
          have g48 : decide ((48 : Int) ≤ (n : Int)) = false := decide_eq_false (by omega)
          clear HOK HNO h hb
          go_wp2_with fail
          go_ret
          rw [HN.out]
          exact ⟨rfl, rfl⟩
        · subst h
          have HU := hide (HOK.out (decide_eq_true (by omega)))
          have c45 : ((45 : Nat) : Int) = 45 := rfl
          rw [c45] at ip
          clear HOK HNO hb
          go_wp2_with fail
          go_roundg (s.size - k - 1)
          case measure => omega
          case rel => exact ⟨rfl, k + 1, by omega, by first | rfl | simp, HU⟩
        · have HN := hide (HNO.out (decide_eq_false (by omega)))
          have e45 : ((n : Int) == 45) = false := beq_eq_false_iff_ne.2 (by omega)
          have g97 : decide ((97 : Int) ≤ (n : Int)) = false := decide_eq_false (by omega)
          have g48 : decide ((48 : Int) ≤ (n : Int)) = false := decide_eq_false (by omega)
          clear HOK HNO h hb
          go_wp2_with fail
          go_ret
          rw [HN.out]
          exact ⟨rfl, rfl⟩
        · have HU := hide (HOK.out (decide_eq_true (by omega)))
          have g97 : decide ((97 : Int) ≤ (n : Int)) = false := decide_eq_false (by omega)
          have g48 : decide ((48 : Int) ≤ (n : Int)) = true := decide_eq_true (by omega)
          have l57 : decide ((n : Int) ≤ 57) = true := decide_eq_true (by omega)
          clear HOK HNO h hb
          go_wp2_with fail
          go_roundg (s.size - k - 1)
          case measure => omega
          case rel => exact ⟨rfl, k + 1, by omega, by first | rfl | simp, HU⟩
        · have HN := hide (HNO.out (decide_eq_false (by omega)))
          have e45 : ((n : Int) == 45) = false := beq_eq_false_iff_ne.2 (by omega)
          have g97 : decide ((97 : Int) ≤ (n : Int)) = false := decide_eq_false (by omega)
          have g48 : decide ((48 : Int) ≤ (n : Int)) = true := decide_eq_true (by omega)
          have l57 : decide ((n : Int) ≤ 57) = false := decide_eq_false (by omega)
          clear HOK HNO h hb
          go_wp2_with fail
          go_ret
          rw [HN.out]
          exact ⟨rfl, rfl⟩
        · have HU := hide (HOK.out (decide_eq_true (by omega)))
          have g97 : decide ((97 : Int) ≤ (n : Int)) = true := decide_eq_true (by omega)
          have l122 : decide ((n : Int) ≤ 122) = true := decide_eq_true (by omega)
          clear HOK HNO h hb
          go_wp2_with fail
          go_roundg (s.size - k - 1)
          case measure => omega
          case rel => exact ⟨rfl, k + 1, by omega, by first | rfl | simp, HU⟩
        · have HN := hide (HNO.out (decide_eq_false (by omega)))
          have e45 : ((n : Int) == 45) = false := beq_eq_false_iff_ne.2 (by omega)
          have g97 : decide ((97 : Int) ≤ (n : Int)) = true := decide_eq_true (by omega)
          have l122 : decide ((n : Int) ≤ 122) = false := decide_eq_false (by omega)
          have g48 : decide ((48 : Int) ≤ (n : Int)) = true := decide_eq_true (by omega)
          have l57 : decide ((n : Int) ≤ 57) = false := decide_eq_false (by omega)
          clear HOK HNO h hb
          go_wp2_with fail
          go_ret
          rw [HN.out]
          exact ⟨rfl, rfl⟩
      · rcases (show n < 97 ∨ (97 ≤ n ∧ n ≤ 122) ∨ 122 < n from by omega) with h | h | h
        · have HN := hide (HNO.out (decide_eq_false (by omega)))
          have g97 : decide ((97 : Int) ≤ (n : Int)) = false := decide_eq_false (by omega)
          clear HOK HNO h hb
          go_wp2_with fail
          go_ret
          rw [HN.out]
          exact ⟨rfl, rfl⟩
        · have HU := hide (HOK.out (decide_eq_true (by omega)))
          have g97 : decide ((97 : Int) ≤ (n : Int)) = true := decide_eq_true (by omega)
          have l122 : decide ((n : Int) ≤ 122) = true := decide_eq_true (by omega)
          clear HOK HNO h hb
          go_wp2_with fail
          go_roundg (s.size - k - 1)
          case measure => omega
          case rel => exact ⟨rfl, k + 1, by omega, by first | rfl | simp, HU⟩
        · have HN := hide (HNO.out (decide_eq_false (by omega)))
          have g97 : decide ((97 : Int) ≤ (n : Int)) = true := decide_eq_true (by omega)
          have l122 : decide ((n : Int) ≤ 122) = false := decide_eq_false (by omega)
          clear HOK HNO h hb
          go_wp2_with fail
          go_ret
          rw [HN.out]
          exact ⟨rfl, rfl⟩
    · have HW : Hid (R = decide (1 ≤ s.size ∧ s.size ≤ 32)) := hide (by
        rw [HAL.out, word_all (fun j c hj => HU.out j c (by rw [bl_len] at hj; omega)), bl_len])
      clear HU HAL
      by_cases h1 : 1 ≤ s.size
      · by_cases h2 : s.size ≤ 32
        · have HR : Hid (R = true) := hide (by rw [HW.out]; exact decide_eq_true ⟨h1, h2⟩)
          clear HW
          go_wp2_with fail
          go_ret
          rw [HR.out]
          exact ⟨ret_bool (decide_eq_true (by omega)), rfl⟩
        · have HR : Hid (R = false) := hide (by rw [HW.out]; exact decide_eq_false (fun h => h2 h.2))
          clear HW
          go_wp2_with fail
          go_ret
          rw [HR.out]
          exact ⟨ret_bool (decide_eq_false (by omega)), rfl⟩
      · have HR : Hid (R = false) := hide (by rw [HW.out]; exact decide_eq_false (fun h => h1 h.1))
        clear HW
        go_wp2_with fail
        go_ret
        rw [HR.out]
        exact ⟨rfl, rfl⟩
end Go.Proofs.YtebcpmgooodmpaaGreatDoor

namespace Go.Proofs.YtebcpmgooodmpaaGreatDoor
open Go.RowKit
open Utf1 Pol8

set_option maxRecDepth 100000 in
set_option maxHeartbeats 8000000 in
theorem rrises_any (v : Value) (ss : List ByteArray) (hl : ss.length ≤ 100000) (w : World) (hv : StrArg w v ss) :
    Calls Tryz.prog 59 #[v] w fun e w' => e = .returned (.bool (rises (ss.map bl))) ∧ Below w.heap.size w w' := by
  obtain ⟨R, hR⟩ : ∃ R, R = rises (ss.map bl) := ⟨_, rfl⟩
  rw [← hR]
  have HAL := hide hR
  clear hR
  have HV := hide hv
  obtain ⟨p, cap, rfl, -, hc⟩ := hv
  obtain ⟨N, hN⟩ : ∃ N, N = ss.length := ⟨_, rfl⟩
  rw [← hN] at hl HV ⊢
  have HN := hide hN
  clear hc hN
  go_enter Tryz.func59, Tryz.ntmps59
  go_wp2_with fail
  go_loopg [3] (N + 1) (fun g v wx => ∃ i : Nat, 1 ≤ i ∧ N + 1 ≤ i + g ∧ i ≤ N + 1 ∧ v = .int .i64 (i : Int) ∧ Hid (Below w.heap.size w wx ∧ ∀ j a b, j + 1 < i → ss[j]? = some a → ss[j + 1]? = some b → lt (bl a) (bl b) = true))
  case atStart => exact ⟨1, by omega, by omega, by omega, rfl, hide ⟨Below.refl _ _, fun j a b hj => by omega⟩⟩
  case round =>
    obtain ⟨i, h1, hg, hiN, rfl, HU⟩ := hrel
    by_cases hlt : i < N
    · obtain ⟨k, rfl⟩ : ∃ k, i = k + 1 := ⟨i - 1, by omega⟩
      obtain ⟨x, hx⟩ : ∃ y, ss[k]? = some y := ⟨_, List.getElem?_eq_getElem (by rw [← HN.out]; omega)⟩
      obtain ⟨y, hy⟩ : ∃ y, ss[k + 1]? = some y := ⟨_, List.getElem?_eq_getElem (by rw [← HN.out]; exact hlt)⟩
      obtain ⟨b, off, rfl, c0, c1⟩ : ∃ b off, p = some ⟨b, off, none⟩ ∧ wr.cell? ⟨b, off + k, none⟩ = some (.string x) ∧ wr.cell? ⟨b, off + (k + 1), none⟩ = some (.string y) := by
        obtain ⟨p', cap', e, -, hc⟩ := HV.out.below HU.out.1
        injection e with e1 e2 e3
        obtain ⟨b, off, e4, h⟩ := hc k x hx
        obtain ⟨b', off', e5, h'⟩ := hc (k + 1) y hy
        rw [e4] at e5
        injection e5 with e5
        injection e5 with e6 e7
        subst e6
        subst e7
        exact ⟨b, off, e1.trans e4, h, h'⟩
      have hkc : ((k + 1 : Nat) : Int) - 1 = (k : Int) := by omega
      have HB : Hid (Below w.heap.size w wr.drew) := hide HU.out.1.drew
      have HYES : Hid (lt (bl x) (bl y) = true → ∀ j a b, j + 1 < k + 2 → ss[j]? = some a → ss[j + 1]? = some b → lt (bl a) (bl b) = true) := hide (fun h j a b hj ha hb => by
        by_cases e : j = k
        · subst e
          rw [hx] at ha
          rw [hy] at hb
          cases ha
          cases hb
          exact h
        · exact HU.out.2 j a b (by omega) ha hb)
      have HNO : Hid (lt (bl x) (bl y) = false → R = false) := hide (fun h => by
        rw [HAL.out]
        unfold rises
        rw [Bool.and_eq_false_iff]
        left
        cases hc : chain (ss.map bl)
        · rfl
        · have := (chain_iff _).1 hc k (bl x) (bl y) (by rw [List.getElem?_map, hx]; rfl) (by rw [List.getElem?_map, hy]; rfl)
          rw [h] at this
          cases this)
      clear hx hy HU
      cases hxy : lt (bl x) (bl y) with
      | true =>
        have HU2 := hide (HYES.out hxy)
        have hgq2 := less_is x y
        rw [hxy] at hgq2
        clear HYES HNO hxy
        go_wp2_with fail
        go_region
        go_wp2_with fail
        go_roundg (gk - 1)
        case measure => omega
        case rel => exact ⟨k + 2, by omega, by omega, by omega, by first | rfl | simp | (congr 1), hide ⟨HB.out, HU2.out⟩⟩
      | false =>
        have HR := hide (HNO.out hxy)
        have hgq2 := less_is x y
        rw [hxy] at hgq2
        clear HYES HNO hxy
        go_wp2_with fail
        go_region
        go_wp2_with fail
        go_ret
        rw [HR.out]
        exact ⟨rfl, HB.out⟩
    · have HC : Hid (chain (ss.map bl) = true) := hide (by
        rw [chain_iff]
        intro j a b ha hb
        rw [List.getElem?_map] at ha hb
        cases hx : ss[j]? with
        | none => rw [hx] at ha; cases ha
        | some x =>
          cases hy : ss[j + 1]? with
          | none => rw [hy] at hb; cases hb
          | some y =>
            rw [hx] at ha
            rw [hy] at hb
            cases ha
            cases hb
            have := (List.getElem?_eq_some_iff.1 hy).1
            exact HU.out.2 j x y (by rw [← HN.out] at this; omega) hx hy)
      have HB := hide HU.out.1
      have HR : Hid (R = decide (N ≤ 64)) := hide (by
        rw [HAL.out]
        unfold rises
        rw [HC.out, List.length_map, ← HN.out, Bool.true_and])
      clear HU HC HAL
      by_cases h64 : N ≤ 64
      · have HR2 : Hid (R = true) := hide (by rw [HR.out]; exact decide_eq_true h64)
        go_wp2_with fail
        go_ret
        rw [HR2.out]
        exact ⟨ret_bool (decide_eq_true (by omega)), HB.out⟩
      · have HR2 : Hid (R = false) := hide (by rw [HR.out]; exact decide_eq_false h64)
        go_wp2_with fail
        go_ret
        rw [HR2.out]
        exact ⟨ret_bool (decide_eq_false (by omega)), HB.out⟩

set_option maxHeartbeats 8000000 in
theorem rwords_any (v : Value) (ss : List ByteArray) (hl : ss.length ≤ 100000) (hz : ∀ x ∈ ss, x.size ≤ 9223372036854775807) (w : World) (hv : StrArg w v ss) :
    Calls Tryz.prog 58 #[v] w fun e w' => e = .returned (.bool (words (ss.map bl))) ∧ Below w.heap.size w w' := by
  obtain ⟨R, hR⟩ : ∃ R, R = words (ss.map bl) := ⟨_, rfl⟩
  rw [← hR]
  have HAL := hide hR
  clear hR
  have CR := hide (rrises_any v ss hl w hv)
  obtain ⟨p, cap, rfl, -, hc⟩ := hv
  have HC := hide hc
  obtain ⟨N, hN⟩ : ∃ N, N = ss.length := ⟨_, rfl⟩
  rw [← hN] at hl CR ⊢
  have HN := hide hN
  have HZ := hide hz
  clear hc hN hz
  go_enter Tryz.func58, Tryz.ntmps58
  go_wp2_with fail
  go_loopg [3] N (fun g v wx => wx = w ∧ ∃ i : Nat, i + g = N ∧ v = .int .i64 (i : Int) ∧ Hid (∀ j z, j < i → ss[j]? = some z → isWord (bl z) = true))
  case atStart => exact ⟨rfl, 0, by omega, rfl, hide (fun j z hj => by omega)⟩
  case round =>
    obtain ⟨rfl, i, hi, rfl, HU⟩ := hrel
    by_cases hlt : i < N
    · obtain ⟨y, hge⟩ : ∃ y, ss[i]? = some y := ⟨_, List.getElem?_eq_getElem (by rw [← HN.out]; exact hlt)⟩
      obtain ⟨b, off, rfl, c0⟩ := HC.out i y hge
      have cw := fun w => rword_any y (HZ.out y (List.mem_of_getElem? hge)) w
      have HG := hide hge
      clear hge
      cases hw : isWord (bl y) with
      | true =>
        rw [hw] at cw
        have HU2 : Hid (∀ j z, j < i + 1 → ss[j]? = some z → isWord (bl z) = true) := hide (fun j z hj hz => by
          by_cases e : j = i
          · subst e
            rw [HG.out] at hz
            cases hz
            exact hw
          · exact HU.out j z (by omega) hz)
        clear hw HU HG
        go_wp2_with fail
        refine (cw _).mono ?_
        rintro e w1 ⟨rfl, rfl⟩
        go_wp2_with fail
        go_roundg (gk - 1)
        case measure => omega
        case rel => exact ⟨rfl, i + 1, by omega, by first | rfl | simp, HU2⟩
      | false =>
        rw [hw] at cw
        have HR : Hid (R = false) := hide (by
          rw [HAL.out]
          unfold words
          rw [Bool.and_eq_false_iff]
          left
          rw [List.all_eq_false]
          exact ⟨bl y, List.mem_map_of_mem (List.mem_of_getElem? HG.out), by rw [hw]; decide⟩)
        clear hw HU HG
        go_wp2_with fail
        refine (cw _).mono ?_
        rintro e w1 ⟨rfl, rfl⟩
        go_wp2_with fail
        go_ret
        rw [HR.out]
        exact ⟨rfl, Below.refl _ _⟩
    · have HR : Hid (R = rises (ss.map bl)) := hide (by
        rw [HAL.out]
        unfold words
        have : (ss.map bl).all isWord = true := by
          rw [List.all_eq_true]
          intro z hz
          obtain ⟨y, hy, rfl⟩ := List.mem_map.1 hz
          obtain ⟨j, hj, e⟩ := List.mem_iff_getElem.1 hy
          exact HU.out j y (by rw [← HN.out] at hj; omega) (by rw [List.getElem?_eq_getElem hj, e])
        rw [this, Bool.true_and])
      clear HU HAL
      go_wp2_with fail
      refine CR.out.mono ?_
      rintro e w1 ⟨rfl, hb1⟩
      go_wp2_with fail
      go_ret
      rw [HR.out]
      exact ⟨rfl, hb1⟩
end Go.Proofs.YtebcpmgooodmpaaGreatDoor

namespace Go.Proofs.YtebcpmgooodmpaaGreatDoor
open Go.RowKit
open Utf1 Pol8

def rawB : List ByteArray := [⟨#[115, 99, 114, 105, 112, 116]⟩, ⟨#[115, 116, 121, 108, 101]⟩, ⟨#[120, 109, 112]⟩, ⟨#[105, 102, 114, 97, 109, 101]⟩, ⟨#[110, 111, 101, 109, 98, 101, 100]⟩, ⟨#[110, 111, 102, 114, 97, 109, 101, 115]⟩, ⟨#[112, 108, 97, 105, 110, 116, 101, 120, 116]⟩]
def nevB : List ByteArray := [⟨#[98, 97, 115, 101]⟩, ⟨#[101, 109, 98, 101, 100]⟩, ⟨#[102, 111, 114, 109]⟩, ⟨#[105, 110, 112, 117, 116]⟩, ⟨#[108, 105, 110, 107]⟩, ⟨#[109, 97, 116, 104]⟩, ⟨#[109, 101, 116, 97]⟩, ⟨#[111, 98, 106, 101, 99, 116]⟩, ⟨#[112, 97, 114, 97, 109]⟩, ⟨#[115, 101, 108, 101, 99, 116]⟩, ⟨#[115, 118, 103]⟩, ⟨#[116, 101, 109, 112, 108, 97, 116, 101]⟩, ⟨#[110, 111, 115, 99, 114, 105, 112, 116]⟩, ⟨#[102, 114, 97, 109, 101]⟩, ⟨#[102, 114, 97, 109, 101, 115, 101, 116]⟩]
theorem rawB_is : rawB.map bl = rawL := rfl
theorem nevB_is : nevB.map bl = neverL := rfl
theorem cell_row (w : World) (l : List ByteArray) (t : TypeId) (i : Nat) (y : ByteArray) (h : l[i]? = some y) : (w.alloc (.cells (strV l).toArray t)).cell? ⟨w.heap.size, i, none⟩ = some (.string y) := by
  obtain ⟨p, c, e, -, hc⟩ := strArg_row w l t
  obtain ⟨b, off, e2, h2⟩ := hc i y h
  injection e with e1
  rw [← e1] at e2
  injection e2 with e2
  injection e2 with e3 e4
  rw [← e3, ← e4, Nat.zero_add] at h2
  exact h2
theorem raw_in {s : L} (h : s ∈ rawL) : isRaw s = true := by
  unfold isRaw
  rw [decide_eq_true h]
  rfl
theorem raw_out {s : L} (h : s ∉ rawL) : isRaw s = decide (s ∈ rcL) := by
  unfold isRaw
  rw [decide_eq_false h]
  rfl

set_option maxRecDepth 100000 in
set_option maxHeartbeats 8000000 in
theorem rraw_any (s : ByteArray) (w : World) :
    Calls Tryz.prog 86 #[.string s] w fun e w' => (∃ x, e = .returned (.tuple #[.bool (isRaw (bl s)), .bool x])) ∧ Below w.heap.size w w' := by
  obtain ⟨R, hR⟩ : ∃ R, R = isRaw (bl s) := ⟨_, rfl⟩
  rw [← hR]
  have HAL := hide hR
  clear hR
  obtain ⟨w1, hw1⟩ : ∃ w1, w1 = w.alloc (.cells (strV rawB).toArray 9) := ⟨_, rfl⟩
  have HCELL : Hid (∀ i y, rawB[i]? = some y → w1.cell? ⟨w.heap.size, i, none⟩ = some (.string y)) := hide (by rw [hw1]; exact cell_row w rawB 9)
  have HB1 : Hid (Below w.heap.size w w1) := hide (by rw [hw1]; exact bel_alloc (Below.refl _ _) _)
  go_enter Tryz.func86, Tryz.ntmps86
  go_upto_region 2 with fail
  rw [show w.alloc (.cells #[.string ⟨#[115, 99, 114, 105, 112, 116]⟩, .string ⟨#[115, 116, 121, 108, 101]⟩, .string ⟨#[120, 109, 112]⟩, .string ⟨#[105, 102, 114, 97, 109, 101]⟩, .string ⟨#[110, 111, 101, 109, 98, 101, 100]⟩, .string ⟨#[110, 111, 102, 114, 97, 109, 101, 115]⟩, .string ⟨#[112, 108, 97, 105, 110, 116, 101, 120, 116]⟩] 9) = w1 from hw1.symm]
  clear hw1
  go_wp2_with fail
  go_loopg [5] 7 (fun g v wx => wx = w1 ∧ ∃ i : Nat, i + g = 7 ∧ v = .int .i64 (i : Int) ∧ Hid (bl s ∉ (rawB.take i).map bl))
  case atStart => exact ⟨rfl, 0, by omega, rfl, hide (by simp)⟩
  case round =>
    obtain ⟨rfl, i, hi, rfl, HU⟩ := hrel
    by_cases hlt : i < 7
    · obtain ⟨y, hge⟩ : ∃ y, rawB[i]? = some y := ⟨_, List.getElem?_eq_getElem (by show i < 7; exact hlt)⟩
      have c0 := HCELL.out i y hge
      have q0 := eq_two y s
      have HMS := hide (mem_step (X := s) hge)
      have HMM : Hid (bl y ∈ rawL) := hide (by rw [← rawB_is]; exact List.mem_map_of_mem (List.mem_of_getElem? hge))
      clear hge
      by_cases hy : bl y = bl s
      · rw [decide_eq_true hy] at q0
        have HR : Hid (R = true) := hide (by
          rw [HAL.out]
          apply raw_in
          rw [← hy]
          exact HMM.out)
        clear hy HU HMS
        go_wp2_with fail
        go_ret2
        rw [HR.out]
        exact ⟨⟨_, rfl⟩, HB1.out⟩
      · rw [decide_eq_false hy] at q0
        have HU2 : Hid (bl s ∉ (rawB.take (i + 1)).map bl) := hide (fun h => (HMS.out.1 h).elim HU.out hy)
        clear hy HU HMS
        go_wp2_with fail
        go_roundg (gk - 1)
        case measure => omega
        case rel => exact ⟨rfl, i + 1, by omega, by first | rfl | simp, HU2⟩
    · have HR : Hid (R = decide (bl s ∈ rcL)) := hide (by
        rw [HAL.out]
        apply raw_out
        have := HU.out
        rw [List.take_of_length_le (by show 7 ≤ i; omega), rawB_is] at this
        exact this)
      have e1 := eq_lit s [116, 101, 120, 116, 97, 114, 101, 97]
      have e2 := eq_lit s [116, 105, 116, 108, 101]
      clear HU HAL
      by_cases h1 : bl s = [116, 101, 120, 116, 97, 114, 101, 97]
      · rw [decide_eq_true h1] at e1
        have HR2 : Hid (R = true) := hide (by rw [HR.out, h1]; rfl)
        clear h1 e2 HR
        go_wp2_with fail
        go_ret2
        rw [HR2.out]
        exact ⟨⟨_, rfl⟩, HB1.out⟩
      · rw [decide_eq_false h1] at e1
        by_cases h2 : bl s = [116, 105, 116, 108, 101]
        · rw [decide_eq_true h2] at e2
          have HR2 : Hid (R = true) := hide (by rw [HR.out, h2]; rfl)
          clear h1 h2 HR
          go_wp2_with fail
          go_ret2
          rw [HR2.out]
          exact ⟨⟨_, rfl⟩, HB1.out⟩
        · rw [decide_eq_false h2] at e2
          have HR2 : Hid (R = false) := hide (by
            rw [HR.out]
            apply decide_eq_false
            intro hm
            rcases List.mem_cons.1 hm with hm | hm
            · exact h1 hm
            · exact h2 (List.mem_singleton.1 hm))
          clear h1 h2 HR
          go_wp2_with fail
          go_ret2
          rw [HR2.out]
          exact ⟨⟨_, rfl⟩, HB1.out⟩

set_option maxRecDepth 100000 in
set_option maxHeartbeats 8000000 in
theorem rnever_any (s : ByteArray) (w : World) :
    Calls Tryz.prog 60 #[.string s] w fun e w' => e = .returned (.bool (never (bl s))) ∧ Below w.heap.size w w' := by
  have CR := hide (fun w => rraw_any s w)
  have HNV : Hid (never (bl s) = (isRaw (bl s) || decide (bl s ∈ nevB.map bl))) := hide rfl
  rw [HNV.out]
  have CH : Hid (∀ w : World, Calls Tryz.prog 62 #[.slice (some ⟨w.heap.size, 0, none⟩) 15 15, .string s] (w.alloc (.cells #[.string ⟨#[98, 97, 115, 101]⟩, .string ⟨#[101, 109, 98, 101, 100]⟩, .string ⟨#[102, 111, 114, 109]⟩, .string ⟨#[105, 110, 112, 117, 116]⟩, .string ⟨#[108, 105, 110, 107]⟩, .string ⟨#[109, 97, 116, 104]⟩, .string ⟨#[109, 101, 116, 97]⟩, .string ⟨#[111, 98, 106, 101, 99, 116]⟩, .string ⟨#[112, 97, 114, 97, 109]⟩, .string ⟨#[115, 101, 108, 101, 99, 116]⟩, .string ⟨#[115, 118, 103]⟩, .string ⟨#[116, 101, 109, 112, 108, 97, 116, 101]⟩, .string ⟨#[110, 111, 115, 99, 114, 105, 112, 116]⟩, .string ⟨#[102, 114, 97, 109, 101]⟩, .string ⟨#[102, 114, 97, 109, 101, 115, 101, 116]⟩] 9)) fun e w' => e = .returned (.bool (decide (bl s ∈ nevB.map bl))) ∧ w' = w.alloc (.cells #[.string ⟨#[98, 97, 115, 101]⟩, .string ⟨#[101, 109, 98, 101, 100]⟩, .string ⟨#[102, 111, 114, 109]⟩, .string ⟨#[105, 110, 112, 117, 116]⟩, .string ⟨#[108, 105, 110, 107]⟩, .string ⟨#[109, 97, 116, 104]⟩, .string ⟨#[109, 101, 116, 97]⟩, .string ⟨#[111, 98, 106, 101, 99, 116]⟩, .string ⟨#[112, 97, 114, 97, 109]⟩, .string ⟨#[115, 101, 108, 101, 99, 116]⟩, .string ⟨#[115, 118, 103]⟩, .string ⟨#[116, 101, 109, 112, 108, 97, 116, 101]⟩, .string ⟨#[110, 111, 115, 99, 114, 105, 112, 116]⟩, .string ⟨#[102, 114, 97, 109, 101]⟩, .string ⟨#[102, 114, 97, 109, 101, 115, 101, 116]⟩] 9)) := hide (fun w => rhas_any _ nevB s (by decide) _ (strArg_row w nevB 9))
  generalize decide (bl s ∈ nevB.map bl) = c at CH
  cases hr : isRaw (bl s) with
  | true =>
    rw [hr] at CR
    clear hr HNV CH
    go_enter Tryz.func60, Tryz.ntmps60
    go_wp2_with fail
    refine (CR.out _).mono ?_
    rintro e w1 ⟨⟨x, rfl⟩, hb1⟩
    go_wp2_with fail
    go_ret
    exact ⟨rfl, hb1⟩
  | false =>
    rw [hr] at CR
    clear hr HNV
    go_enter Tryz.func60, Tryz.ntmps60
    go_wp2_with fail
    refine (CR.out _).mono ?_
    rintro e w1 ⟨⟨x, rfl⟩, hb1⟩
    go_wp2_with fail
    refine (CH.out _).mono ?_
    rintro e w2 ⟨rfl, rfl⟩
    go_wp2_with fail
    go_ret
    exact ⟨rfl, bel_alloc hb1 _⟩

end Go.Proofs.YtebcpmgooodmpaaGreatDoor

namespace Go.Proofs.YtebcpmgooodmpaaGreatDoor
open Go.RowKit
open Utf1 Pol8

set_option maxRecDepth 100000 in
set_option maxHeartbeats 16000000 in
theorem rattr_any (s : ByteArray) (v : Value) (ss : List ByteArray) (hs : s.size ≤ 1000000) (hl : ss.length ≤ 100000) (w : World) (hv : StrArg w v ss) :
    Calls Tryz.prog 61 #[.string s, v] w fun e w' => e = .returned (.bool (attrOk (ss.map bl) (bl s))) ∧ w' = w := by
  obtain ⟨R, hR⟩ : ∃ R, R = attrOk (ss.map bl) (bl s) := ⟨_, rfl⟩
  rw [← hR]
  have HAL := hide hR
  clear hR
  have HV := hide hv
  obtain ⟨p, cap, rfl, -, -⟩ := hv
  obtain ⟨N, hN⟩ : ∃ N, N = ss.length := ⟨_, rfl⟩
  rw [← hN] at hl HV ⊢
  have HN := hide hN
  clear hN
  by_cases hdot : (46 : UInt8) ∈ bl s
  · obtain ⟨A, B, e, hn, hsz, hEA, hEB, hat⟩ := split_ba s 46 hdot
    have HRE : Hid (R = (decide (bl A = [42] ∨ bl A ∈ ss.map bl) && may (bl B))) := hide (by
      rw [HAL.out]
      unfold attrOk
      rw [e, dot_some _ _ hn])
    have HAT := hide hat
    have HEA := hide hEA
    have CH := hide (fun w h => rhas_any (.slice p N cap) ss A (by rw [← HN.out]; exact hl) w h)
    have CW := hide (fun w => rword_any B (by omega) w)
    have HMAY : Hid (may (bl B) = (isWord (bl B) && (!isOn (bl B) && decide (bl B ≠ srcdoc ∧ bl B ≠ formaction ∧ bl B ≠ style)))) := hide rfl
    have HHAS : Hid (decide (bl A = [42] ∨ bl A ∈ ss.map bl) = (decide (bl A = [42]) || decide (bl A ∈ ss.map bl))) := hide (by
      by_cases h1 : bl A = [42]
      · rw [decide_eq_true h1, decide_eq_true (.inl h1)]
        rfl
      · by_cases h2 : bl A ∈ ss.map bl
        · rw [decide_eq_true h2, decide_eq_true (.inr h2), decide_eq_false h1]
          rfl
        · rw [decide_eq_false h2, decide_eq_false (fun h => h.elim h1 h2), decide_eq_false h1]
          rfl)
    generalize decide (bl A ∈ ss.map bl) = hb at CH HHAS
    have qS := eq_lit A [42]
    have q1 := eq_lit B [115, 114, 99, 100, 111, 99]
    have q2 := eq_lit B [102, 111, 114, 109, 97, 99, 116, 105, 111, 110]
    have q3 := eq_lit B [115, 116, 121, 108, 101]
    have qO := eq_lit (B.extract 0 2) [111, 110]
    rw [show bl (B.extract 0 2) = (bl B).take 2 from extract_bl B 0 2] at qO
    have HON : Hid (isOn (bl B) = decide ((bl B).take 2 = [111, 110])) := hide rfl
    have HON1 : Hid (B.size ≤ 1 → isOn (bl B) = false) := hide (fun h => by
      unfold isOn
      apply decide_eq_false
      intro e
      have := congrArg List.length e
      rw [List.length_take, bl_len] at this
      simp at this
      omega)
    clear hat hdot e hn HAL
    have hAs : A.size < s.size := by omega
    have hBs : B.size < s.size := by omega
    have HSZ := hide hsz
    clear hsz
    go_enter Tryz.func61, Tryz.ntmps61
    go_wp2_with fail
    go_loopg [5] A.size (fun g v wx => wx = w ∧ ∃ k : Nat, k + g = A.size ∧ v = .int .i64 (k : Int))
    case atStart => exact ⟨rfl, 0, by omega, rfl⟩
    case round =>
      obtain ⟨rfl, k, hk, rfl⟩ := hrel
      obtain ⟨c, hc⟩ := getK s k (by omega)
      have ik := fun w => idxK hc w
      have k46 : ((c.toNat : Int) != 46) = decide (c ≠ 46) := neqK c 46 (by decide)
      have hkk := HAT.out k c hc
      clear hc
      by_cases hka : k < A.size
      · rw [decide_eq_true (hkk.1 hka)] at k46
        generalize (c.toNat : Int) = z at ik k46
        have hks : k < s.size := by omega
        clear hkk qS q1 q2 q3 qO
        go_wp2_with fail
        go_roundg (A.size - k - 1)
        case measure => omega
        case rel => exact ⟨rfl, k + 1, by omega, by first | rfl | simp⟩
      · have hkA : k = A.size := by omega
        subst hkA
        rw [decide_eq_false (fun e => e (hkk.2 rfl))] at k46
        generalize (c.toNat : Int) = z at ik k46
        clear hkk hka hk HAT
        go_upto_region 6 with fail
        clear ik k46
        go_cut [7] from 22 to 29 (fun v7 wx => wx = wr ∧ v7 = .bool (isOn (bl B)))
        case first =>
          by_cases hb2 : 1 < B.size
          · obtain ⟨ob, hob⟩ : ∃ ob, ob = decide ((bl B).take 2 = [111, 110]) := ⟨_, rfl⟩
            rw [← hob] at qO
            have HOB := hide hob
            clear hob
            go_wp2_with fail
            go_meet
            exact ⟨rfl, by rw [HON.out, ← HOB.out]⟩
          · go_wp2_with fail
            go_meet
            exact ⟨rfl, by rw [HON1.out (by omega)]⟩
        case rest =>
        obtain ⟨rfl, rfl⟩ := hcut
        clear HON HON1 qO
        rw [HHAS.out, HMAY.out] at HRE
        have HBC : Hid (decide (bl B ≠ srcdoc ∧ bl B ≠ formaction ∧ bl B ≠ style) = (!decide (bl B = [115, 114, 99, 100, 111, 99]) && (!decide (bl B = [102, 111, 114, 109, 97, 99, 116, 105, 111, 110]) && !decide (bl B = [115, 116, 121, 108, 101])))) := hide (by
          show decide (bl B ≠ [115, 114, 99, 100, 111, 99] ∧ bl B ≠ [102, 111, 114, 109, 97, 99, 116, 105, 111, 110] ∧ bl B ≠ [115, 116, 121, 108, 101]) = _
          simp)
        rw [HBC.out] at HRE
        clear HBC HHAS HMAY
        have HE := hide HEA.out
        generalize isOn (bl B) = bo at HRE ⊢
        generalize isWord (bl B) = bw at HRE CW
        generalize decide (bl A = [42]) = b1 at HRE qS
        generalize decide (bl B = [115, 114, 99, 100, 111, 99]) = d1 at HRE q1
        generalize decide (bl B = [102, 111, 114, 109, 97, 99, 116, 105, 111, 110]) = d2 at HRE q2
        generalize decide (bl B = [115, 116, 121, 108, 101]) = d3 at HRE q3
        cases b1 with
        | true =>
          cases bw with
          | false =>
            have HR : Hid (R = false) := hide (by rw [HRE.out]; rfl)
            clear HRE
            go_wp2_with fail
            refine (CW.out _).mono ?_
            rintro e w1 ⟨rfl, rfl⟩
            go_wp2_with fail
            go_ret
            rw [HR.out]
            exact ⟨rfl, rfl⟩
          | true =>
            cases bo with
            | true =>
              have HR : Hid (R = false) := hide (by rw [HRE.out]; rfl)
              clear HRE
              go_wp2_with fail
              refine (CW.out _).mono ?_
              rintro e w1 ⟨rfl, rfl⟩
              go_wp2_with fail
              go_ret
              rw [HR.out]
              exact ⟨rfl, rfl⟩
            | false =>
              cases d1 with
              | true =>
                have HR : Hid (R = false) := hide (by rw [HRE.out]; rfl)
                clear HRE
                go_wp2_with fail
                refine (CW.out _).mono ?_
                rintro e w1 ⟨rfl, rfl⟩
                go_wp2_with fail
                go_ret
                rw [HR.out]
                exact ⟨rfl, rfl⟩
              | false =>
                cases d2 with
                | true =>
                  have HR : Hid (R = false) := hide (by rw [HRE.out]; rfl)
                  clear HRE
                  go_wp2_with fail
                  refine (CW.out _).mono ?_
                  rintro e w1 ⟨rfl, rfl⟩
                  go_wp2_with fail
                  go_ret
                  rw [HR.out]
                  exact ⟨rfl, rfl⟩
                | false =>
                  cases d3 with
                  | true =>
                    have HR : Hid (R = false) := hide (by rw [HRE.out]; rfl)
                    clear HRE
                    go_wp2_with fail
                    refine (CW.out _).mono ?_
                    rintro e w1 ⟨rfl, rfl⟩
                    go_wp2_with fail
                    go_ret
                    rw [HR.out]
                    exact ⟨rfl, rfl⟩
                  | false =>
                    have HR : Hid (R = true) := hide (by rw [HRE.out]; rfl)
                    clear HRE
                    go_wp2_with fail
                    refine (CW.out _).mono ?_
                    rintro e w1 ⟨rfl, rfl⟩
                    go_wp2_with fail
                    go_ret
                    rw [HR.out]
                    exact ⟨rfl, rfl⟩
        | false =>
          cases hb with
          | false =>
            have HR : Hid (R = false) := hide (by rw [HRE.out]; rfl)
            clear HRE
            go_wp2_with fail
            refine (CH.out _ HV.out).mono ?_
            rintro e w1 ⟨rfl, rfl⟩
            go_wp2_with fail
            go_ret
            rw [HR.out]
            exact ⟨rfl, rfl⟩
          | true =>
            cases bw with
            | false =>
              have HR : Hid (R = false) := hide (by rw [HRE.out]; rfl)
              clear HRE
              go_wp2_with fail
              refine (CH.out _ HV.out).mono ?_
              rintro e w1 ⟨rfl, rfl⟩
              go_wp2_with fail
              refine (CW.out _).mono ?_
              rintro e w1 ⟨rfl, rfl⟩
              go_wp2_with fail
              go_ret
              rw [HR.out]
              exact ⟨rfl, rfl⟩
            | true =>
              cases bo with
              | true =>
                have HR : Hid (R = false) := hide (by rw [HRE.out]; rfl)
                clear HRE
                go_wp2_with fail
                refine (CH.out _ HV.out).mono ?_
                rintro e w1 ⟨rfl, rfl⟩
                go_wp2_with fail
                refine (CW.out _).mono ?_
                rintro e w1 ⟨rfl, rfl⟩
                go_wp2_with fail
                go_ret
                rw [HR.out]
                exact ⟨rfl, rfl⟩
              | false =>
                cases d1 with
                | true =>
                  have HR : Hid (R = false) := hide (by rw [HRE.out]; rfl)
                  clear HRE
                  go_wp2_with fail
                  refine (CH.out _ HV.out).mono ?_
                  rintro e w1 ⟨rfl, rfl⟩
                  go_wp2_with fail
                  refine (CW.out _).mono ?_
                  rintro e w1 ⟨rfl, rfl⟩
                  go_wp2_with fail
                  go_ret
                  rw [HR.out]
                  exact ⟨rfl, rfl⟩
                | false =>
                  cases d2 with
                  | true =>
                    have HR : Hid (R = false) := hide (by rw [HRE.out]; rfl)
                    clear HRE
                    go_wp2_with fail
                    refine (CH.out _ HV.out).mono ?_
                    rintro e w1 ⟨rfl, rfl⟩
                    go_wp2_with fail
                    refine (CW.out _).mono ?_
                    rintro e w1 ⟨rfl, rfl⟩
                    go_wp2_with fail
                    go_ret
                    rw [HR.out]
                    exact ⟨rfl, rfl⟩
                  | false =>
                    cases d3 with
                    | true =>
                      have HR : Hid (R = false) := hide (by rw [HRE.out]; rfl)
                      clear HRE
                      go_wp2_with fail
                      refine (CH.out _ HV.out).mono ?_
                      rintro e w1 ⟨rfl, rfl⟩
                      go_wp2_with fail
                      refine (CW.out _).mono ?_
                      rintro e w1 ⟨rfl, rfl⟩
                      go_wp2_with fail
                      go_ret
                      rw [HR.out]
                      exact ⟨rfl, rfl⟩
                    | false =>
                      have HR : Hid (R = true) := hide (by rw [HRE.out]; rfl)
                      clear HRE
                      go_wp2_with fail
                      refine (CH.out _ HV.out).mono ?_
                      rintro e w1 ⟨rfl, rfl⟩
                      go_wp2_with fail
                      refine (CW.out _).mono ?_
                      rintro e w1 ⟨rfl, rfl⟩
                      go_wp2_with fail
                      go_ret
                      rw [HR.out]
                      exact ⟨rfl, rfl⟩
  · have HR : Hid (R = false) := hide (by
      rw [HAL.out]
      unfold attrOk
      rw [dot_none _ hdot])
    have HAT : Hid (∀ (j : Nat) (c : UInt8), (bl s)[j]? = some c → c ≠ 46) := hide (fun j c h e => hdot (by subst e; exact List.mem_of_getElem? h))
    clear HAL hdot
    go_enter Tryz.func61, Tryz.ntmps61
    go_wp2_with fail
    go_loopg [5] s.size (fun g v wx => wx = w ∧ ∃ k : Nat, k + g = s.size ∧ v = .int .i64 (k : Int))
    case atStart => exact ⟨rfl, 0, by omega, rfl⟩
    case round =>
      obtain ⟨rfl, k, hk, rfl⟩ := hrel
      by_cases hks : k < s.size
      · obtain ⟨c, hc⟩ := getK s k hks
        have ik := fun w => idxK hc w
        have k46 : ((c.toNat : Int) != 46) = decide (c ≠ 46) := neqK c 46 (by decide)
        rw [decide_eq_true (HAT.out k c hc)] at k46
        generalize (c.toNat : Int) = z at ik k46
        clear hc
        go_wp2_with fail
        go_roundg (s.size - k - 1)
        case measure => omega
        case rel => exact ⟨rfl, k + 1, by omega, by first | rfl | simp⟩
      · go_wp2_with fail
        go_ret
        rw [HR.out]
        exact ⟨rfl, rfl⟩
end Go.Proofs.YtebcpmgooodmpaaGreatDoor

namespace Go.Proofs.YtebcpmgooodmpaaGreatDoor
open Go.RowKit
open Utf1 Pol8

set_option maxRecDepth 100000 in
set_option maxHeartbeats 32000000 in
theorem rright_any (v1 v2 v3 v4 v5 : Value) (p : Pol) (l1 l2 l3 l4 l5 : List ByteArray) (w : World) (hv : PolV w v1 v2 v3 v4 v5 p l1 l2 l3 l4 l5) (hf : fits p) :
    Calls Tryz.prog 31 #[.agg #[.int .i64 p.ep, v1, v2, v3, v4, v5, .int .i64 p.dp, .int .i64 p.nd, .int .i64 p.bt]] w fun e w' => e = .returned (.bool (right p)) ∧ Below w.heap.size w w' := by
  obtain ⟨f1, z1⟩ := fits_of hf (by simp) hv.e1
  obtain ⟨f2, z2⟩ := fits_of hf (by simp) hv.e2
  obtain ⟨f3, z3⟩ := fits_of hf (by simp) hv.e3
  obtain ⟨f4, z4⟩ := fits_of hf (by simp) hv.e4
  obtain ⟨f5, z5⟩ := fits_of hf (by simp) hv.e5
  obtain ⟨R, hR⟩ : ∃ R, R = right p := ⟨_, rfl⟩
  rw [← hR]
  have HAL : Hid (R = (caps p && ((words (l1.map bl) && (rises (l2.map bl) && (words (l3.map bl) && (words (l4.map bl) && words (l5.map bl))))) && ((l1.map bl).all (fun e => !never e) && ((l2.map bl).all (attrOk (l1.map bl)) && (decide (li ∈ l1.map bl → ul ∈ l1.map bl ∧ ol ∈ l1.map bl) && decide (js ∉ l3.map bl ∧ dat ∉ l3.map bl ∧ vbs ∉ l3.map bl))))))) := hide (by
    rw [hv.e1, hv.e2, hv.e3, hv.e4, hv.e5]
    exact hR)
  have HCAP : Hid (caps p = decide ((1 ≤ p.ep ∧ p.ep ≤ 1000000) ∧ (1 ≤ p.dp ∧ p.dp ≤ 64) ∧ (1 ≤ p.nd ∧ p.nd ≤ 2000) ∧ (1 ≤ p.bt ∧ p.bt ≤ 16384))) := hide rfl
  generalize caps p = cp at HAL HCAP
  obtain ⟨a0, a6, a7, a8, ha0, ha6, ha7, ha8⟩ : ∃ a0 a6 a7 a8, a0 = p.ep ∧ a6 = p.dp ∧ a7 = p.nd ∧ a8 = p.bt := ⟨_, _, _, _, rfl, rfl, rfl, rfl⟩
  rw [← ha0, ← ha6, ← ha7, ← ha8] at HCAP
  rw [← ha0, ← ha6, ← ha7, ← ha8]
  have HV : Hid (StrArg w v1 l1 ∧ StrArg w v2 l2 ∧ StrArg w v3 l3 ∧ StrArg w v4 l4 ∧ StrArg w v5 l5) := hide ⟨hv.s1, hv.s2, hv.s3, hv.s4, hv.s5⟩
  have HZ := hide (And.intro z1 (And.intro z2 (And.intro z3 (And.intro z4 z5))))
  obtain ⟨p1, q1, rfl, -, -⟩ := hv.s1
  obtain ⟨p2, q2, rfl, -, -⟩ := hv.s2
  obtain ⟨p3, q3, rfl, -, -⟩ := hv.s3
  obtain ⟨p4, q4, rfl, -, -⟩ := hv.s4
  obtain ⟨p5, q5, rfl, -, -⟩ := hv.s5
  clear hv hf hR z1 z2 z3 z4 z5 ha0 ha6 ha7 ha8
  obtain ⟨w1, hw1⟩ : ∃ w1, w1 = w.alloc (.cells #[.int .i64 a0, .slice p1 l1.length q1, .slice p2 l2.length q2, .slice p3 l3.length q3, .slice p4 l4.length q4, .slice p5 l5.length q5, .int .i64 a6, .int .i64 a7, .int .i64 a8] 25) := ⟨_, rfl⟩
  have hb1 : Below w.heap.size w w1 := by rw [hw1]; exact bel_alloc (Below.refl _ _) _
  have HB1 := hide hb1
  have hbx : w1.heap[w.heap.size]? = some (.cells #[.int .i64 a0, .slice p1 l1.length q1, .slice p2 l2.length q2, .slice p3 l3.length q3, .slice p4 l4.length q4, .slice p5 l5.length q5, .int .i64 a6, .int .i64 a7, .int .i64 a8] 25 (0, 0)) := by rw [hw1]; exact new_block _ _ _
  have HBX := hide hbx
  have y0 := tag_cell hbx 0 _ rfl
  have y6 := tag_cell hbx 6 _ rfl
  have y7 := tag_cell hbx 7 _ rfl
  have y8 := tag_cell hbx 8 _ rfl
  clear hbx hb1
  go_enter Tryz.func31, Tryz.ntmps31
  go_upto_region 1 with fail
  rw [← hw1]
  clear hw1
  go_cut [42] from 5 to 42 (fun v42 wx => wx = w1 ∧ v42 = .bool (!cp))
  case first =>
    by_cases c0 : a0 < 1
    · have HN : Hid (cp = false) := hide (by rw [HCAP.out]; exact decide_eq_false (by omega))
      clear HCAP
      go_wp2_with fail
      go_meet
      exact ⟨rfl, by rw [HN.out]; rfl⟩
    by_cases c1 : 1000000 < a0
    · have HN : Hid (cp = false) := hide (by rw [HCAP.out]; exact decide_eq_false (by omega))
      clear HCAP
      go_wp2_with fail
      go_meet
      exact ⟨rfl, by rw [HN.out]; rfl⟩
    by_cases c2 : a6 < 1
    · have HN : Hid (cp = false) := hide (by rw [HCAP.out]; exact decide_eq_false (by omega))
      clear HCAP
      go_wp2_with fail
      go_meet
      exact ⟨rfl, by rw [HN.out]; rfl⟩
    by_cases c3 : 64 < a6
    · have HN : Hid (cp = false) := hide (by rw [HCAP.out]; exact decide_eq_false (by omega))
      clear HCAP
      go_wp2_with fail
      go_meet
      exact ⟨rfl, by rw [HN.out]; rfl⟩
    by_cases c4 : a7 < 1
    · have HN : Hid (cp = false) := hide (by rw [HCAP.out]; exact decide_eq_false (by omega))
      clear HCAP
      go_wp2_with fail
      go_meet
      exact ⟨rfl, by rw [HN.out]; rfl⟩
    by_cases c5 : 2000 < a7
    · have HN : Hid (cp = false) := hide (by rw [HCAP.out]; exact decide_eq_false (by omega))
      clear HCAP
      go_wp2_with fail
      go_meet
      exact ⟨rfl, by rw [HN.out]; rfl⟩
    by_cases c6 : a8 < 1
    · have HN : Hid (cp = false) := hide (by rw [HCAP.out]; exact decide_eq_false (by omega))
      clear HCAP
      go_wp2_with fail
      go_meet
      exact ⟨rfl, by rw [HN.out]; rfl⟩
    by_cases c7 : 16384 < a8
    · have HN : Hid (cp = false) := hide (by rw [HCAP.out]; exact decide_eq_false (by omega))
      clear HCAP
      go_wp2_with fail
      go_meet
      exact ⟨rfl, by rw [HN.out]; rfl⟩
    have HN : Hid (cp = true) := hide (by rw [HCAP.out]; exact decide_eq_true (by omega))
    clear HCAP
    go_wp2_with fail
    go_meet
    exact ⟨rfl, by rw [HN.out]; rfl⟩
  case rest =>
  obtain ⟨rfl, rfl⟩ := hcut
  clear y0 y6 y7 y8 HCAP
  cases cp with
  | false =>
    have HR : Hid (R = false) := hide (by rw [HAL.out]; rfl)
    clear HAL
    go_wp2_with fail
    go_ret
    rw [HR.out]
    exact ⟨rfl, HB1.out⟩
  | true =>
    have HY : Hid (∀ wx, Below wc.heap.size wc wx → wx.heap[w.heap.size]? = some (.cells #[.int .i64 a0, .slice p1 l1.length q1, .slice p2 l2.length q2, .slice p3 l3.length q3, .slice p4 l4.length q4, .slice p5 l5.length q5, .int .i64 a6, .int .i64 a7, .int .i64 a8] 25 (0, 0))) := hide (fun wx h => (h.block _ (by have := (Array.getElem?_eq_some_iff.1 HBX.out).1; exact this)).trans HBX.out)
    have HS : Hid (∀ wx, Below wc.heap.size wc wx → StrArg wx (.slice p1 l1.length q1) l1 ∧ StrArg wx (.slice p2 l2.length q2) l2 ∧ StrArg wx (.slice p3 l3.length q3) l3 ∧ StrArg wx (.slice p4 l4.length q4) l4 ∧ StrArg wx (.slice p5 l5.length q5) l5) := hide (fun wx h => by
      have hb := bel2 HB1.out h
      exact ⟨HV.out.1.below hb, HV.out.2.1.below hb, HV.out.2.2.1.below hb, HV.out.2.2.2.1.below hb, HV.out.2.2.2.2.below hb⟩)
    have C1 := hide (fun wx h => rwords_any (.slice p1 l1.length q1) l1 (by omega) (fun x hx => by have := HZ.out.1 x hx; omega) wx (HS.out wx h).1)
    have C2 := hide (fun wx h => rrises_any (.slice p2 l2.length q2) l2 (by omega) wx (HS.out wx h).2.1)
    have C3 := hide (fun wx h => rwords_any (.slice p3 l3.length q3) l3 (by omega) (fun x hx => by have := HZ.out.2.2.1 x hx; omega) wx (HS.out wx h).2.2.1)
    have C4 := hide (fun wx h => rwords_any (.slice p4 l4.length q4) l4 (by omega) (fun x hx => by have := HZ.out.2.2.2.1 x hx; omega) wx (HS.out wx h).2.2.2.1)
    have C5 := hide (fun wx h => rwords_any (.slice p5 l5.length q5) l5 (by omega) (fun x hx => by have := HZ.out.2.2.2.2 x hx; omega) wx (HS.out wx h).2.2.2.2)
    rw [Bool.true_and] at HAL
    generalize words (l1.map bl) = t1 at HAL C1
    generalize rises (l2.map bl) = t2 at HAL C2
    generalize words (l3.map bl) = t3 at HAL C3
    generalize words (l4.map bl) = t4 at HAL C4
    generalize words (l5.map bl) = t5 at HAL C5
    go_upto_region 3 with fail
    go_cut [70] from 43 to 70 (fun v70 wx => v70 = .bool (!(t1 && (t2 && (t3 && (t4 && t5))))) ∧ Hid (Below wc.heap.size wc wx))
    case first =>
      cases t1 with
      | false =>
        have z1 := tag_cell (HY.out wc (Below.refl _ _)) 1 _ rfl
        go_wp2_with fail
        refine (C1.out _ (Below.refl _ _)).mono ?_
        rintro e x1 ⟨rfl, hb1⟩
        have HX1 := hide (hb1)
        clear hb1 z1
        go_wp2_with fail
        go_meet
        exact ⟨by simp, HX1⟩
      | true =>
        cases t2 with
        | false =>
          have z1 := tag_cell (HY.out wc (Below.refl _ _)) 1 _ rfl
          go_wp2_with fail
          refine (C1.out _ (Below.refl _ _)).mono ?_
          rintro e x1 ⟨rfl, hb1⟩
          have HX1 := hide (hb1)
          have z2 := tag_cell (HY.out x1 HX1.out) 2 _ rfl
          clear hb1 z1
          go_wp2_with fail
          refine (C2.out _ (HX1.out)).mono ?_
          rintro e x2 ⟨rfl, hb2⟩
          have HX2 := hide (bel2 HX1.out hb2)
          clear hb2 z2
          go_wp2_with fail
          go_meet
          exact ⟨by simp, HX2⟩
        | true =>
          cases t3 with
          | false =>
            have z1 := tag_cell (HY.out wc (Below.refl _ _)) 1 _ rfl
            go_wp2_with fail
            refine (C1.out _ (Below.refl _ _)).mono ?_
            rintro e x1 ⟨rfl, hb1⟩
            have HX1 := hide (hb1)
            have z2 := tag_cell (HY.out x1 HX1.out) 2 _ rfl
            clear hb1 z1
            go_wp2_with fail
            refine (C2.out _ (HX1.out)).mono ?_
            rintro e x2 ⟨rfl, hb2⟩
            have HX2 := hide (bel2 HX1.out hb2)
            have z3 := tag_cell (HY.out x2 HX2.out) 3 _ rfl
            clear hb2 z2
            go_wp2_with fail
            refine (C3.out _ (HX2.out)).mono ?_
            rintro e x3 ⟨rfl, hb3⟩
            have HX3 := hide (bel2 HX2.out hb3)
            clear hb3 z3
            go_wp2_with fail
            go_meet
            exact ⟨by simp, HX3⟩
          | true =>
            cases t4 with
            | false =>
              have z1 := tag_cell (HY.out wc (Below.refl _ _)) 1 _ rfl
              go_wp2_with fail
              refine (C1.out _ (Below.refl _ _)).mono ?_
              rintro e x1 ⟨rfl, hb1⟩
              have HX1 := hide (hb1)
              have z2 := tag_cell (HY.out x1 HX1.out) 2 _ rfl
              clear hb1 z1
              go_wp2_with fail
              refine (C2.out _ (HX1.out)).mono ?_
              rintro e x2 ⟨rfl, hb2⟩
              have HX2 := hide (bel2 HX1.out hb2)
              have z3 := tag_cell (HY.out x2 HX2.out) 3 _ rfl
              clear hb2 z2
              go_wp2_with fail
              refine (C3.out _ (HX2.out)).mono ?_
              rintro e x3 ⟨rfl, hb3⟩
              have HX3 := hide (bel2 HX2.out hb3)
              have z4 := tag_cell (HY.out x3 HX3.out) 4 _ rfl
              clear hb3 z3
              go_wp2_with fail
              refine (C4.out _ (HX3.out)).mono ?_
              rintro e x4 ⟨rfl, hb4⟩
              have HX4 := hide (bel2 HX3.out hb4)
              clear hb4 z4
              go_wp2_with fail
              go_meet
              exact ⟨by simp, HX4⟩
            | true =>
              cases t5 with
              | false =>
                have z1 := tag_cell (HY.out wc (Below.refl _ _)) 1 _ rfl
                go_wp2_with fail
                refine (C1.out _ (Below.refl _ _)).mono ?_
                rintro e x1 ⟨rfl, hb1⟩
                have HX1 := hide (hb1)
                have z2 := tag_cell (HY.out x1 HX1.out) 2 _ rfl
                clear hb1 z1
                go_wp2_with fail
                refine (C2.out _ (HX1.out)).mono ?_
                rintro e x2 ⟨rfl, hb2⟩
                have HX2 := hide (bel2 HX1.out hb2)
                have z3 := tag_cell (HY.out x2 HX2.out) 3 _ rfl
                clear hb2 z2
                go_wp2_with fail
                refine (C3.out _ (HX2.out)).mono ?_
                rintro e x3 ⟨rfl, hb3⟩
                have HX3 := hide (bel2 HX2.out hb3)
                have z4 := tag_cell (HY.out x3 HX3.out) 4 _ rfl
                clear hb3 z3
                go_wp2_with fail
                refine (C4.out _ (HX3.out)).mono ?_
                rintro e x4 ⟨rfl, hb4⟩
                have HX4 := hide (bel2 HX3.out hb4)
                have z5 := tag_cell (HY.out x4 HX4.out) 5 _ rfl
                clear hb4 z4
                go_wp2_with fail
                refine (C5.out _ (HX4.out)).mono ?_
                rintro e x5 ⟨rfl, hb5⟩
                have HX5 := hide (bel2 HX4.out hb5)
                clear hb5 z5
                go_wp2_with fail
                go_meet
                exact ⟨by simp, HX5⟩
              | true =>
                have z1 := tag_cell (HY.out wc (Below.refl _ _)) 1 _ rfl
                go_wp2_with fail
                refine (C1.out _ (Below.refl _ _)).mono ?_
                rintro e x1 ⟨rfl, hb1⟩
                have HX1 := hide (hb1)
                have z2 := tag_cell (HY.out x1 HX1.out) 2 _ rfl
                clear hb1 z1
                go_wp2_with fail
                refine (C2.out _ (HX1.out)).mono ?_
                rintro e x2 ⟨rfl, hb2⟩
                have HX2 := hide (bel2 HX1.out hb2)
                have z3 := tag_cell (HY.out x2 HX2.out) 3 _ rfl
                clear hb2 z2
                go_wp2_with fail
                refine (C3.out _ (HX2.out)).mono ?_
                rintro e x3 ⟨rfl, hb3⟩
                have HX3 := hide (bel2 HX2.out hb3)
                have z4 := tag_cell (HY.out x3 HX3.out) 4 _ rfl
                clear hb3 z3
                go_wp2_with fail
                refine (C4.out _ (HX3.out)).mono ?_
                rintro e x4 ⟨rfl, hb4⟩
                have HX4 := hide (bel2 HX3.out hb4)
                have z5 := tag_cell (HY.out x4 HX4.out) 5 _ rfl
                clear hb4 z4
                go_wp2_with fail
                refine (C5.out _ (HX4.out)).mono ?_
                rintro e x5 ⟨rfl, hb5⟩
                have HX5 := hide (bel2 HX4.out hb5)
                clear hb5 z5
                go_wp2_with fail
                go_meet
                exact ⟨by simp, HX5⟩
    case rest =>
    obtain ⟨rfl, HBC⟩ := hcut
    clear C1 C2 C3 C4 C5
    generalize (t1 && (t2 && (t3 && (t4 && t5)))) = tt at HAL
    obtain ⟨A, hA⟩ : ∃ A : Array Value, A = #[.int .i64 a0, .slice p1 l1.length q1, .slice p2 l2.length q2, .slice p3 l3.length q3, .slice p4 l4.length q4, .slice p5 l5.length q5, .int .i64 a6, .int .i64 a7, .int .i64 a8] := ⟨_, rfl⟩
    have HBP : Hid (BoxP w A wc) := hide (by rw [hA]; exact ⟨HY.out wc HBC.out, bel2 HB1.out HBC.out⟩)
    have HA1 : Hid (A[1]? = some (.slice p1 l1.length q1)) := hide (by rw [hA]; rfl)
    have HA2 : Hid (A[2]? = some (.slice p2 l2.length q2)) := hide (by rw [hA]; rfl)
    have HA3 : Hid (A[3]? = some (.slice p3 l3.length q3)) := hide (by rw [hA]; rfl)
    clear hA HY HS HBC HB1 HBX
    cases tt with
    | false =>
      have HR : Hid (R = false) := hide (by rw [HAL.out]; rfl)
      clear HAL
      go_wp2_with fail
      go_ret
      rw [HR.out]
      exact ⟨rfl, HBP.out.2⟩
    | true =>
      rw [Bool.true_and] at HAL
      go_wp2_with fail
      go_loopg [3] l1.length (fun g v wx => ∃ i : Nat, i + g = l1.length ∧ v = .int .i64 (i : Int) ∧ Hid (BoxP w A wx ∧ ∀ j z, j < i → l1[j]? = some z → (!never (bl z)) = true))
      case atStart => exact ⟨0, by omega, rfl, hide ⟨HBP.out, fun j z hj => by omega⟩⟩
      case round =>
        obtain ⟨i, hi, rfl, HU⟩ := hrel
        clear HBP
        by_cases hlt : i < l1.length
        · obtain ⟨y, hge⟩ : ∃ y, l1[i]? = some y := ⟨_, List.getElem?_eq_getElem hlt⟩
          have zb := HU.out.1.cell 1 _ HA1.out
          obtain ⟨b, off, rfl, c0⟩ : ∃ b off, p1 = some ⟨b, off, none⟩ ∧ wr.cell? ⟨b, off + i, none⟩ = some (.string y) := by
            obtain ⟨p', cap', e, -, hc⟩ := HV.out.1.below HU.out.1.2
            injection e with e1 e2 e3
            obtain ⟨b, off, e4, h⟩ := hc i y hge
            exact ⟨b, off, e1.trans e4, h⟩
          have CN := hide (rnever_any y wr)
          have HG := hide hge
          clear hge
          cases hn : never (bl y) with
          | true =>
            rw [hn] at CN
            have HR : Hid (R = false) := hide (by
              rw [HAL.out, all_false (f := fun e => !never e) HG.out (by simp only [hn]; rfl)]
              rfl)
            clear HAL hn HG
            go_wp2_with fail
            refine CN.out.mono ?_
            rintro e w2 ⟨rfl, hb2⟩
            have HB2 := hide (HU.out.1.keep hb2)
            clear hb2
            go_wp2_with fail
            go_ret
            rw [HR.out]
            exact ⟨rfl, HB2.out.2⟩
          | false =>
            rw [hn] at CN
            have HU2 := hide (upto_next (f := fun e => !never e) HG.out (by simp only [hn]; rfl) HU.out.2)
            clear hn HG
            go_wp2_with fail
            refine CN.out.mono ?_
            rintro e w2 ⟨rfl, hb2⟩
            have HB2 := hide (HU.out.1.keep hb2)
            clear hb2 HU
            go_wp2_with fail
            go_roundg (l1.length - i - 1)
            case measure => omega
            case rel => exact ⟨i + 1, by omega, by first | rfl | simp, hide ⟨HB2.out, HU2.out⟩⟩
        · have HNV : Hid ((l1.map bl).all (fun e => !never e) = true) := hide (all_true (f := fun e => !never e) fun j z hj => HU.out.2 j z (by omega))
          rw [HNV.out, Bool.true_and] at HAL
          have HBP := hide HU.out.1
          have zb := HBP.out.cell 1 _ HA1.out
          clear HU HNV
          go_wp2_with fail
          clear zb
          go_loopg [4] l2.length (fun g v wx => ∃ k : Nat, k + g = l2.length ∧ v = .int .i64 (k : Int) ∧ Hid (BoxP w A wx ∧ ∀ j z, j < k → l2[j]? = some z → attrOk (l1.map bl) (bl z) = true))
          case atStart => exact ⟨0, by omega, rfl, hide ⟨HBP.out, fun j z hj => by omega⟩⟩
          case round =>
            obtain ⟨k, hk, rfl, HU⟩ := hrel
            clear HBP
            by_cases hlt2 : k < l2.length
            · obtain ⟨y, hge⟩ : ∃ y, l2[k]? = some y := ⟨_, List.getElem?_eq_getElem hlt2⟩
              have zb1 := HU.out.1.cell 1 _ HA1.out
              have zb2 := HU.out.1.cell 2 _ HA2.out
              obtain ⟨b, off, rfl, c0⟩ : ∃ b off, p2 = some ⟨b, off, none⟩ ∧ wr.cell? ⟨b, off + k, none⟩ = some (.string y) := by
                obtain ⟨p', cap', e, -, hc⟩ := HV.out.2.1.below HU.out.1.2
                injection e with e1 e2 e3
                obtain ⟨b, off, e4, h⟩ := hc k y hge
                exact ⟨b, off, e1.trans e4, h⟩
              have hyz : y.size ≤ 1000000 := by have := HZ.out.2.1 y (List.mem_of_getElem? hge); omega
              have CA := hide (fun n => rattr_any y (.slice p1 l1.length q1) l1 hyz (by omega) (wr.drewN n) ((HV.out.1.below HU.out.1.2).below ⟨rfl, rfl, rfl, Nat.le_refl _, fun _ _ => rfl⟩))
              have HG := hide hge
              clear hge hyz
              cases hn : attrOk (l1.map bl) (bl y) with
              | false =>
                rw [hn] at CA
                have HR : Hid (R = false) := hide (by
                  rw [HAL.out, all_false HG.out hn]
                  rfl)
                clear HAL hn HG
                go_wp2_with fail
                go_quiet ((go_at_call 61; exact Calls.quiet_of_same (CA.out _)))
                go_wp2_with fail
                go_ret
                rw [HR.out]
                exact ⟨rfl, (HU.out.1.keep (bel_drewN _ _)).2⟩
              | true =>
                rw [hn] at CA
                have HU2 := hide (upto_next HG.out hn HU.out.2)
                clear hn HG
                go_wp2_with fail
                go_quiet ((go_at_call 61; exact Calls.quiet_of_same (CA.out _)))
                go_wp2_with fail
                go_roundg (l2.length - k - 1)
                case measure => omega
                case rel => exact ⟨k + 1, by omega, by first | rfl | simp, hide ⟨HU.out.1.keep ⟨rfl, rfl, rfl, Nat.le_refl _, fun _ _ => rfl⟩, HU2.out⟩⟩
            · have HAO : Hid ((l2.map bl).all (attrOk (l1.map bl)) = true) := hide (all_true fun j z hj => HU.out.2 j z (by omega))
              rw [HAO.out, Bool.true_and] at HAL
              have HBP := hide HU.out.1
              have zb1 := HBP.out.cell 1 _ HA1.out
              have zb2 := HBP.out.cell 2 _ HA2.out
              have zb3 := HBP.out.cell 3 _ HA3.out
              have HS1 := hide (HV.out.1.below HBP.out.2)
              have HS3 := hide (HV.out.2.2.1.below HBP.out.2)
              have CL := hide (rhas_any (.slice p1 l1.length q1) l1 ⟨#[108, 105]⟩ (by omega) wr HS1.out)
              have CU := hide (rhas_any (.slice p1 l1.length q1) l1 ⟨#[117, 108]⟩ (by omega) wr HS1.out)
              have CO := hide (rhas_any (.slice p1 l1.length q1) l1 ⟨#[111, 108]⟩ (by omega) wr HS1.out)
              have CJ := hide (rhas_any (.slice p3 l3.length q3) l3 ⟨#[106, 97, 118, 97, 115, 99, 114, 105, 112, 116]⟩ (by omega) wr HS3.out)
              have CD := hide (rhas_any (.slice p3 l3.length q3) l3 ⟨#[100, 97, 116, 97]⟩ (by omega) wr HS3.out)
              have CV := hide (rhas_any (.slice p3 l3.length q3) l3 ⟨#[118, 98, 115, 99, 114, 105, 112, 116]⟩ (by omega) wr HS3.out)
              have HLL : Hid (decide (li ∈ l1.map bl → ul ∈ l1.map bl ∧ ol ∈ l1.map bl) = (!decide (bl ⟨#[108, 105]⟩ ∈ l1.map bl) || (decide (bl ⟨#[117, 108]⟩ ∈ l1.map bl) && decide (bl ⟨#[111, 108]⟩ ∈ l1.map bl)))) := hide (by
                show decide (li ∈ l1.map bl → ul ∈ l1.map bl ∧ ol ∈ l1.map bl) = (!decide (li ∈ l1.map bl) || (decide (ul ∈ l1.map bl) && decide (ol ∈ l1.map bl)))
                by_cases h1 : li ∈ l1.map bl <;> by_cases h2 : ul ∈ l1.map bl <;> by_cases h3 : ol ∈ l1.map bl <;> simp only [h1, h2, h3] <;> decide)
              have HSS : Hid (decide (js ∉ l3.map bl ∧ dat ∉ l3.map bl ∧ vbs ∉ l3.map bl) = (!decide (bl ⟨#[106, 97, 118, 97, 115, 99, 114, 105, 112, 116]⟩ ∈ l3.map bl) && (!decide (bl ⟨#[100, 97, 116, 97]⟩ ∈ l3.map bl) && !decide (bl ⟨#[118, 98, 115, 99, 114, 105, 112, 116]⟩ ∈ l3.map bl)))) := hide (by
                show decide (js ∉ l3.map bl ∧ dat ∉ l3.map bl ∧ vbs ∉ l3.map bl) = (!decide (js ∈ l3.map bl) && (!decide (dat ∈ l3.map bl) && !decide (vbs ∈ l3.map bl)))
                by_cases h1 : js ∈ l3.map bl <;> by_cases h2 : dat ∈ l3.map bl <;> by_cases h3 : vbs ∈ l3.map bl <;> simp only [h1, h2, h3] <;> decide)
              rw [HLL.out, HSS.out] at HAL
              clear HU HAO HLL HSS
              generalize decide (bl ⟨#[108, 105]⟩ ∈ l1.map bl) = d1 at HAL CL
              generalize decide (bl ⟨#[117, 108]⟩ ∈ l1.map bl) = d2 at HAL CU
              generalize decide (bl ⟨#[111, 108]⟩ ∈ l1.map bl) = d3 at HAL CO
              generalize decide (bl ⟨#[106, 97, 118, 97, 115, 99, 114, 105, 112, 116]⟩ ∈ l3.map bl) = d4 at HAL CJ
              generalize decide (bl ⟨#[100, 97, 116, 97]⟩ ∈ l3.map bl) = d5 at HAL CD
              generalize decide (bl ⟨#[118, 98, 115, 99, 114, 105, 112, 116]⟩ ∈ l3.map bl) = d6 at HAL CV
              go_upto_region 15 with fail
              go_cut [114] from 100 to 114 (fun v114 wx => wx = wr ∧ v114 = .bool (d1 && (!d2 || !d3)))
              case first =>
                cases d1 with
                | false =>
                  go_wp2_with fail
                  refine CL.out.mono ?_
                  rintro e w2 ⟨rfl, rfl⟩
                  go_wp2_with fail
                  go_meet
                  exact ⟨rfl, rfl⟩
                | true =>
                  cases d2 with
                  | false =>
                    go_wp2_with fail
                    refine CL.out.mono ?_
                    rintro e w2 ⟨rfl, rfl⟩
                    go_wp2_with fail
                    refine CU.out.mono ?_
                    rintro e w2 ⟨rfl, rfl⟩
                    go_wp2_with fail
                    go_meet
                    exact ⟨rfl, rfl⟩
                  | true =>
                    cases d3 with
                    | false =>
                      go_wp2_with fail
                      refine CL.out.mono ?_
                      rintro e w2 ⟨rfl, rfl⟩
                      go_wp2_with fail
                      refine CU.out.mono ?_
                      rintro e w2 ⟨rfl, rfl⟩
                      go_wp2_with fail
                      refine CO.out.mono ?_
                      rintro e w2 ⟨rfl, rfl⟩
                      go_wp2_with fail
                      go_meet
                      exact ⟨rfl, rfl⟩
                    | true =>
                      go_wp2_with fail
                      refine CL.out.mono ?_
                      rintro e w2 ⟨rfl, rfl⟩
                      go_wp2_with fail
                      refine CU.out.mono ?_
                      rintro e w2 ⟨rfl, rfl⟩
                      go_wp2_with fail
                      refine CO.out.mono ?_
                      rintro e w2 ⟨rfl, rfl⟩
                      go_wp2_with fail
                      go_meet
                      exact ⟨rfl, rfl⟩
              case rest =>
              obtain ⟨hwc, rfl⟩ := hcut
              subst hwc
              have HD : Hid ((!d1 || (d2 && d3)) = !(d1 && (!d2 || !d3))) := hide (by cases d1 <;> cases d2 <;> cases d3 <;> rfl)
              rw [HD.out] at HAL
              generalize (d1 && (!d2 || !d3)) = dd at HAL
              clear HD CL CU CO
              cases dd with
              | true =>
                have HR : Hid (R = false) := hide (by rw [HAL.out]; rfl)
                clear HAL
                go_wp2_with fail
                go_ret
                rw [HR.out]
                exact ⟨rfl, HBP.out.2⟩
              | false =>
                cases d4 with
                | true =>
                  have HR : Hid (R = false) := hide (by rw [HAL.out]; rfl)
                  clear HAL
                  go_wp2_with fail
                  refine CJ.out.mono ?_
                  rintro e w2 ⟨rfl, rfl⟩
                  go_wp2_with fail
                  go_ret
                  rw [HR.out]
                  exact ⟨rfl, HBP.out.2⟩
                | false =>
                  cases d5 with
                  | true =>
                    have HR : Hid (R = false) := hide (by rw [HAL.out]; rfl)
                    clear HAL
                    go_wp2_with fail
                    refine CJ.out.mono ?_
                    rintro e w2 ⟨rfl, rfl⟩
                    go_wp2_with fail
                    refine CD.out.mono ?_
                    rintro e w2 ⟨rfl, rfl⟩
                    go_wp2_with fail
                    go_ret
                    rw [HR.out]
                    exact ⟨rfl, HBP.out.2⟩
                  | false =>
                    cases d6 with
                    | true =>
                      have HR : Hid (R = false) := hide (by rw [HAL.out]; rfl)
                      clear HAL
                      go_wp2_with fail
                      refine CJ.out.mono ?_
                      rintro e w2 ⟨rfl, rfl⟩
                      go_wp2_with fail
                      refine CD.out.mono ?_
                      rintro e w2 ⟨rfl, rfl⟩
                      go_wp2_with fail
                      refine CV.out.mono ?_
                      rintro e w2 ⟨rfl, rfl⟩
                      go_wp2_with fail
                      go_ret
                      rw [HR.out]
                      exact ⟨rfl, HBP.out.2⟩
                    | false =>
                      have HR : Hid (R = true) := hide (by rw [HAL.out]; rfl)
                      clear HAL
                      go_wp2_with fail
                      refine CJ.out.mono ?_
                      rintro e w2 ⟨rfl, rfl⟩
                      go_wp2_with fail
                      refine CD.out.mono ?_
                      rintro e w2 ⟨rfl, rfl⟩
                      go_wp2_with fail
                      refine CV.out.mono ?_
                      rintro e w2 ⟨rfl, rfl⟩
                      go_wp2_with fail
                      go_ret
                      rw [HR.out]
                      exact ⟨rfl, HBP.out.2⟩
end Go.Proofs.YtebcpmgooodmpaaGreatDoor

namespace Go.Proofs.YtebcpmgooodmpaaGreatDoor
open Go.RowKit
open Utf1 Pol8

theorem conv_one (w : World) (t : TypeId) (c : Nat) (hc : c < 256) :
    (convert 44 9 (.slice (some ⟨w.heap.size, 0, none⟩) 1 1)).run Tryz.prog (w.alloc (.cells #[.int .u8 (c : Int)] t)) = .ok (.string ⟨#[UInt8.ofNat c]⟩) (w.alloc (.cells #[.int .u8 (c : Int)] t)) := by
  have := run_convert_bytes_back (P := Tryz.prog) (w.alloc (.cells #[.int .u8 (c : Int)] t)) 44 9 5 ⟨w.heap.size, 0, none⟩ 1 [UInt8.ofNat c] Tryz.underlying44 Tryz.underlying5 Tryz.underlying9 (by
    intro j hj
    have : j = 0 := by simp at hj; omega
    subst this
    rw [add_plain]
    have e : ([UInt8.ofNat c][0]'hj).toNat = c := toNat_ofNat hc
    rw [e]
    simp)
  exact this

set_option maxRecDepth 100000 in
set_option maxHeartbeats 8000000 in
theorem rdecimal_any (n : Nat) (hn : n ≤ 1000000000) (w : World) :
    Calls Tryz.prog 44 #[.int .i64 (n : Int)] w fun e w' => e = .returned (.string ⟨(dec n).toArray⟩) ∧ Below w.heap.size w w' := by
  obtain ⟨R, hR⟩ : ∃ R : ByteArray, R = ⟨(dec n).toArray⟩ := ⟨_, rfl⟩
  rw [← hR]
  have HR : Hid (bl R = dec n) := hide (by rw [hR])
  clear hR
  go_enter Tryz.func44, Tryz.ntmps44
  go_wp2_with fail
  go_loopg [0, 3] n (fun g v0 v3 wx => ∃ (m : Nat) (acc : ByteArray), m ≤ g ∧ m ≤ n ∧ acc.size + m ≤ n ∧ v0 = .int .i64 (m : Int) ∧ v3 = .string acc ∧ Hid (dec n = dec m ++ bl acc ∧ Below w.heap.size w wx))
  case atStart => exact ⟨n, ⟨#[]⟩, Nat.le_refl _, Nat.le_refl _, (by show 0 + n ≤ n; omega), rfl, rfl, hide ⟨by rw [show bl ⟨#[]⟩ = [] from rfl, List.append_nil], Below.refl _ _⟩⟩
  case round =>
    obtain ⟨m, acc, hg, hmn, has, rfl, rfl, HA⟩ := hrel
    by_cases h10 : m < 10
    · have hc := conv_one wr 5 (48 + m) (by omega)
      have e48 : ((48 + m : Nat) : Int) = 48 + (m : Int) := by omega
      rw [e48] at hc
      have HE : Hid (R = ⟨#[UInt8.ofNat (48 + m)]⟩ ++ acc) := hide (by
        apply ba_ext
        rw [HR.out, HA.out.1, dec_small m h10, app_bl])
      have HB := hide (bel_alloc HA.out.2 (.cells #[.int .u8 (48 + (m : Int))] 5))
      have hDs : (⟨#[UInt8.ofNat (48 + m)]⟩ : ByteArray).size = 1 := rfl
      generalize (⟨#[UInt8.ofNat (48 + m)]⟩ : ByteArray) = D at hc HE hDs
      have hacc : acc.size ≤ 1000000000 := by omega
      clear e48
      go_wp2_with fail
      go_ret
      rw [HE.out]
      exact ⟨rfl, HB.out⟩
    · obtain ⟨d, hd⟩ : ∃ d : Nat, d = m % 10 := ⟨_, rfl⟩
      obtain ⟨q, hq⟩ : ∃ q : Nat, q = m / 10 := ⟨_, rfl⟩
      have hrem : (m : Int).tmod 10 = (d : Int) := by rw [hd]; rfl
      have hquo : (m : Int).tdiv 10 = (q : Int) := by rw [hq]; rfl
      have hd10 : d < 10 := by omega
      have hq1 : q + 1 ≤ m := by omega
      have hc := conv_one wr 5 (48 + d) (by omega)
      have e48 : ((48 + d : Nat) : Int) = 48 + (d : Int) := by omega
      rw [e48] at hc
      have HE : Hid (dec n = dec q ++ bl (⟨#[UInt8.ofNat (48 + d)]⟩ ++ acc)) := hide (by
        rw [HA.out.1, dec_big m h10, app_bl, hd, hq, List.append_assoc])
      have HB := hide (bel_alloc HA.out.2 (.cells #[.int .u8 (48 + (d : Int))] 5))
      have hDs : (⟨#[UInt8.ofNat (48 + d)]⟩ : ByteArray).size = 1 := rfl
      generalize (⟨#[UInt8.ofNat (48 + d)]⟩ : ByteArray) = D at hc HE hDs
      have hacc : acc.size ≤ 1000000000 := by omega
      have hms : m ≤ 1000000000 := by omega
      have hAS : (D ++ acc).size + q ≤ n := by rw [app_size]; omega
      clear e48 hd hq HA
      go_wp2_with fail
      go_roundg (gk - 1)
      case measure => omega
      case rel => exact ⟨q, D ++ acc, by omega, by omega, hAS, by first | rfl | simp, rfl, hide ⟨HE.out, HB.out⟩⟩

theorem lns_take (head : L) : ∀ (l : List L) (i : Nat) (x : L), l[i]? = some x → lns head (l.take (i + 1)) = lns head (l.take i) ++ ln head x
  | [], i, x, h => by simp at h
  | y :: l, 0, x, h => by
    have : y = x := by simpa using h
    subst this
    simp [lns]
  | y :: l, i + 1, x, h => by
    have h' : l[i]? = some x := by simpa using h
    rw [List.take_succ_cons, List.take_succ_cons, lns, lns, lns_take head l i x h', List.append_assoc]
theorem lns_len (head : L) : ∀ l : List L, (∀ x ∈ l, x.length ≤ 100000) → (lns head l).length ≤ l.length * (head.length + 100002)
  | [], _ => by simp [lns]
  | x :: l, h => by
    have := lns_len head l (fun y hy => h y (by simp [hy]))
    have hx := h x (by simp)
    rw [lns, List.length_append]
    simp only [ln, List.length_append, List.length_cons, List.length_nil]
    rw [Nat.succ_mul]
    omega

set_option maxRecDepth 100000 in
set_option maxHeartbeats 8000000 in
theorem rlines_any (hd : ByteArray) (v : Value) (ss : List ByteArray) (hh : hd.size ≤ 100) (hl : ss.length ≤ 100000) (hz : ∀ x ∈ ss, x.size ≤ 100000) (w : World) (hv : StrArg w v ss) :
    Calls Tryz.prog 45 #[.string hd, v] w fun e w' => e = .returned (.string ⟨(lns (bl hd) (ss.map bl)).toArray⟩) ∧ w' = w := by
  obtain ⟨R, hR⟩ : ∃ R : ByteArray, R = ⟨(lns (bl hd) (ss.map bl)).toArray⟩ := ⟨_, rfl⟩
  rw [← hR]
  have HR : Hid (bl R = lns (bl hd) (ss.map bl)) := hide (by rw [hR])
  clear hR
  obtain ⟨p, cap, rfl, -, hc⟩ := hv
  have HC := hide hc
  have HZ := hide hz
  obtain ⟨N, hN⟩ : ∃ N, N = ss.length := ⟨_, rfl⟩
  rw [← hN] at hl ⊢
  have HN := hide hN
  clear hc hN hz
  go_enter Tryz.func45, Tryz.ntmps45
  go_wp2_with fail
  go_loopg [5, 6] N (fun g v5 v6 wx => wx = w ∧ ∃ (i : Nat) (acc : ByteArray), i + g = N ∧ v5 = .string acc ∧ v6 = .int .i64 (i : Int) ∧ acc.size ≤ i * 100200 ∧ Hid (bl acc = lns (bl hd) ((ss.map bl).take i)))
  case atStart => exact ⟨rfl, 0, ⟨#[]⟩, by omega, rfl, rfl, by show 0 ≤ _; omega, hide rfl⟩
  case round =>
    obtain ⟨rfl, i, acc, hi, rfl, rfl, has, HA⟩ := hrel
    by_cases hlt : i < N
    · obtain ⟨y, hge⟩ : ∃ y, ss[i]? = some y := ⟨_, List.getElem?_eq_getElem (by rw [← HN.out]; exact hlt)⟩
      obtain ⟨b, off, rfl, c0⟩ := HC.out i y hge
      have hyz := HZ.out y (List.mem_of_getElem? hge)
      have hsz : (acc ++ hd ++ ⟨#[32]⟩ ++ y ++ ⟨#[10]⟩).size ≤ (i + 1) * 100200 := by
        rw [app_size, app_size, app_size, app_size, Nat.succ_mul]
        show _ + _ + 1 + _ + 1 ≤ _
        omega
      have hbound : acc.size ≤ 10020000000 := by
        have : i * 100200 ≤ 100000 * 100200 := Nat.mul_le_mul_right _ (by omega)
        omega
      have HA2 : Hid (bl (acc ++ hd ++ ⟨#[32]⟩ ++ y ++ ⟨#[10]⟩) = lns (bl hd) ((ss.map bl).take (i + 1))) := hide (by
        rw [app_bl, app_bl, app_bl, app_bl, HA.out, lns_take (bl hd) (ss.map bl) i (bl y) (by rw [List.getElem?_map, hge]; rfl)]
        show lns (bl hd) ((ss.map bl).take i) ++ bl hd ++ [32] ++ bl y ++ [10] = _
        simp [ln])
      clear hge HA has
      go_wp2_with fail
      go_roundg (gk - 1)
      case measure => omega
      case rel => exact ⟨rfl, i + 1, acc ++ hd ++ ⟨#[32]⟩ ++ y ++ ⟨#[10]⟩, by omega, by first | rfl | simp, by first | rfl | simp, hsz, HA2⟩
    · have HE : Hid (R = acc) := hide (by
        apply ba_ext
        rw [HR.out, HA.out, List.take_of_length_le (by rw [List.length_map, ← HN.out]; omega)])
      clear HA has
      go_wp2_with fail
      go_ret
      rw [HE.out]
      exact ⟨rfl, rfl⟩
end Go.Proofs.YtebcpmgooodmpaaGreatDoor

namespace Go.Proofs.YtebcpmgooodmpaaGreatDoor
open Go.RowKit
open Utf1 Pol8

theorem BoxP.drew {w wx : World} {A : Array Value} (h : BoxP w A wx) : BoxP w A wx.drew := h.keep ((Below.refl _ _).drew)
theorem lns_size (hd : ByteArray) (ss : List ByteArray) (hh : hd.size ≤ 100) (hl : ss.length ≤ 100000) (hz : ∀ x ∈ ss, x.size ≤ 100000) : (⟨(lns (bl hd) (ss.map bl)).toArray⟩ : ByteArray).size ≤ 10020000000 := by
  rw [size_mk]
  have h1 := lns_len (bl hd) (ss.map bl) (fun x hx => by
    obtain ⟨y, hy, rfl⟩ := List.mem_map.1 hx
    have := hz y hy
    rwa [bl_len])
  rw [List.length_map, bl_len] at h1
  have : ss.length * (hd.size + 100002) ≤ 100000 * 100102 := Nat.mul_le_mul hl (by omega)
  omega
theorem dec_size (n : Nat) (hn : n ≤ 1000000) : (⟨(dec n).toArray⟩ : ByteArray).size ≤ 7 := by
  rw [size_mk]
  exact dec_len n 6 (by omega)

theorem add_str (a b : ByteArray) (h : a.size + b.size ≤ 9223372036854775807) (w : World) : (Op.stringOp .add a b).run Tryz.prog w = .ok (.string (a ++ b)) w := by
  unfold Op.stringOp
  have : ¬ (((a.size + b.size : Nat) : Int) > IntKind.i64.max) := by
    show ¬ (((a.size + b.size : Nat) : Int) > 9223372036854775807)
    omega
  simp only [this, if_false]
  rfl

set_option maxRecDepth 100000 in
set_option maxHeartbeats 32000000 in
theorem rtext_any (v1 v2 v3 v4 v5 : Value) (p : Pol) (l1 l2 l3 l4 l5 : List ByteArray) (w : World) (hv : PolV w v1 v2 v3 v4 v5 p l1 l2 l3 l4 l5) (hf : fits p) :
    Calls Tryz.prog 24 #[.agg #[.int .i64 p.ep, v1, v2, v3, v4, v5, .int .i64 p.dp, .int .i64 p.nd, .int .i64 p.bt]] w fun e w' => e = .returned (.tuple #[.string (if right p = true then ⟨(text p).toArray⟩ else ⟨#[]⟩), .int .i64 (if right p = true then 0 else 2)]) ∧ Below w.heap.size w w' := by
  obtain ⟨f1, z1⟩ := fits_of hf (by simp) hv.e1
  obtain ⟨f2, z2⟩ := fits_of hf (by simp) hv.e2
  obtain ⟨f3, z3⟩ := fits_of hf (by simp) hv.e3
  obtain ⟨f4, z4⟩ := fits_of hf (by simp) hv.e4
  obtain ⟨f5, z5⟩ := fits_of hf (by simp) hv.e5
  have CR := hide (fun wx h => rright_any v1 v2 v3 v4 v5 p l1 l2 l3 l4 l5 wx (hv.below h) hf)
  obtain ⟨A, hA⟩ : ∃ A : Array Value, A = #[.int .i64 p.ep, v1, v2, v3, v4, v5, .int .i64 p.dp, .int .i64 p.nd, .int .i64 p.bt] := ⟨_, rfl⟩
  have HNEW : Hid (BoxP w A (w.alloc (.cells A 25))) := hide ⟨new_block _ _ _, bel_alloc (Below.refl _ _) _⟩
  cases hr : right p with
  | false =>
    rw [hr] at CR
    obtain ⟨w1, hw1⟩ : ∃ w1, w1 = w.alloc (.cells A 25) := ⟨_, rfl⟩
    rw [← hw1] at HNEW
    have y0 := HNEW.out.cell 0 (.int .i64 p.ep) (by rw [hA]; rfl)
    have y1 := HNEW.out.cell 1 v1 (by rw [hA]; rfl)
    have y2 := HNEW.out.cell 2 v2 (by rw [hA]; rfl)
    have y3 := HNEW.out.cell 3 v3 (by rw [hA]; rfl)
    have y4 := HNEW.out.cell 4 v4 (by rw [hA]; rfl)
    have y5 := HNEW.out.cell 5 v5 (by rw [hA]; rfl)
    have y6 := HNEW.out.cell 6 (.int .i64 p.dp) (by rw [hA]; rfl)
    have y7 := HNEW.out.cell 7 (.int .i64 p.nd) (by rw [hA]; rfl)
    have y8 := HNEW.out.cell 8 (.int .i64 p.bt) (by rw [hA]; rfl)
    rw [hA] at hw1
    clear hr hv hf hA
    go_enter Tryz.func24, Tryz.ntmps24
    go_upto_region 1 with fail
    rw [← hw1]
    clear hw1
    go_wp2_with fail
    refine (CR.out _ HNEW.out.2).mono ?_
    rintro e w2 ⟨rfl, hb2⟩
    have HB2 := hide (HNEW.out.keep hb2)
    clear hb2 y0 y1 y2 y3 y4 y5 y6 y7 y8
    go_wp2_with fail
    go_ret2
    exact ⟨rfl, HB2.out.2⟩
  | true =>
    rw [hr] at CR
    obtain ⟨⟨h1, h2⟩, ⟨h3, h4⟩, ⟨h5, h6⟩, h7, h8⟩ := ((right_iff p).1 hr).c
    obtain ⟨n0, hn0⟩ : ∃ n0 : Nat, p.ep = (n0 : Int) := ⟨p.ep.toNat, by omega⟩
    obtain ⟨n6, hn6⟩ : ∃ n6 : Nat, p.dp = (n6 : Int) := ⟨p.dp.toNat, by omega⟩
    obtain ⟨n7, hn7⟩ : ∃ n7 : Nat, p.nd = (n7 : Int) := ⟨p.nd.toNat, by omega⟩
    obtain ⟨n8, hn8⟩ : ∃ n8 : Nat, p.bt = (n8 : Int) := ⟨p.bt.toNat, by omega⟩
    obtain ⟨D0, hD0⟩ : ∃ D : ByteArray, D = ⟨(dec n0).toArray⟩ := ⟨_, rfl⟩
    obtain ⟨D6, hD6⟩ : ∃ D : ByteArray, D = ⟨(dec n6).toArray⟩ := ⟨_, rfl⟩
    obtain ⟨D7, hD7⟩ : ∃ D : ByteArray, D = ⟨(dec n7).toArray⟩ := ⟨_, rfl⟩
    obtain ⟨D8, hD8⟩ : ∃ D : ByteArray, D = ⟨(dec n8).toArray⟩ := ⟨_, rfl⟩
    have s0 : D0.size ≤ 7 := by rw [hD0]; exact dec_size n0 (by omega)
    have s6 : D6.size ≤ 7 := by rw [hD6]; exact dec_size n6 (by omega)
    have s7 : D7.size ≤ 7 := by rw [hD7]; exact dec_size n7 (by omega)
    have s8 : D8.size ≤ 7 := by rw [hD8]; exact dec_size n8 (by omega)
    have CD0 := hide (fun wx (h : BoxP w A wx) => (rdecimal_any n0 (by omega) wx).mono (R' := fun e w' => e = .returned (.string D0) ∧ BoxP w A w') (fun e w' ⟨h1, h2⟩ => ⟨by rw [h1, hD0], h.keep h2⟩))
    have CD6 := hide (fun wx (h : BoxP w A wx) => (rdecimal_any n6 (by omega) wx).mono (R' := fun e w' => e = .returned (.string D6) ∧ BoxP w A w') (fun e w' ⟨h1, h2⟩ => ⟨by rw [h1, hD6], h.keep h2⟩))
    have CD7 := hide (fun wx (h : BoxP w A wx) => (rdecimal_any n7 (by omega) wx).mono (R' := fun e w' => e = .returned (.string D7) ∧ BoxP w A w') (fun e w' ⟨h1, h2⟩ => ⟨by rw [h1, hD7], h.keep h2⟩))
    have CD8 := hide (fun wx (h : BoxP w A wx) => (rdecimal_any n8 (by omega) wx).mono (R' := fun e w' => e = .returned (.string D8) ∧ BoxP w A w') (fun e w' ⟨h1, h2⟩ => ⟨by rw [h1, hD8], h.keep h2⟩))
    obtain ⟨L1, hL1⟩ : ∃ D : ByteArray, D = ⟨(lns (bl ⟨#[101, 108, 101, 109]⟩) (l1.map bl)).toArray⟩ := ⟨_, rfl⟩
    have t1 : L1.size ≤ 10020000000 := by rw [hL1]; exact lns_size ⟨#[101, 108, 101, 109]⟩ l1 (by decide) f1 z1
    have CL1 := hide (fun wx (h : BoxP w A wx) => (rlines_any ⟨#[101, 108, 101, 109]⟩ v1 l1 (by decide) f1 z1 wx (hv.s1.below h.2)).mono (R' := fun e w' => e = .returned (.string L1) ∧ BoxP w A w') (fun e w' ⟨h1, h2⟩ => ⟨by rw [h1, hL1], h2 ▸ h⟩))
    obtain ⟨L2, hL2⟩ : ∃ D : ByteArray, D = ⟨(lns (bl ⟨#[97, 116, 116, 114]⟩) (l2.map bl)).toArray⟩ := ⟨_, rfl⟩
    have t2 : L2.size ≤ 10020000000 := by rw [hL2]; exact lns_size ⟨#[97, 116, 116, 114]⟩ l2 (by decide) f2 z2
    have CL2 := hide (fun wx (h : BoxP w A wx) => (rlines_any ⟨#[97, 116, 116, 114]⟩ v2 l2 (by decide) f2 z2 wx (hv.s2.below h.2)).mono (R' := fun e w' => e = .returned (.string L2) ∧ BoxP w A w') (fun e w' ⟨h1, h2⟩ => ⟨by rw [h1, hL2], h2 ▸ h⟩))
    obtain ⟨L3, hL3⟩ : ∃ D : ByteArray, D = ⟨(lns (bl ⟨#[115, 99, 104, 101, 109, 101]⟩) (l3.map bl)).toArray⟩ := ⟨_, rfl⟩
    have t3 : L3.size ≤ 10020000000 := by rw [hL3]; exact lns_size ⟨#[115, 99, 104, 101, 109, 101]⟩ l3 (by decide) f3 z3
    have CL3 := hide (fun wx (h : BoxP w A wx) => (rlines_any ⟨#[115, 99, 104, 101, 109, 101]⟩ v3 l3 (by decide) f3 z3 wx (hv.s3.below h.2)).mono (R' := fun e w' => e = .returned (.string L3) ∧ BoxP w A w') (fun e w' ⟨h1, h2⟩ => ⟨by rw [h1, hL3], h2 ▸ h⟩))
    obtain ⟨L4, hL4⟩ : ∃ D : ByteArray, D = ⟨(lns (bl ⟨#[99, 108, 97, 115, 115]⟩) (l4.map bl)).toArray⟩ := ⟨_, rfl⟩
    have t4 : L4.size ≤ 10020000000 := by rw [hL4]; exact lns_size ⟨#[99, 108, 97, 115, 115]⟩ l4 (by decide) f4 z4
    have CL4 := hide (fun wx (h : BoxP w A wx) => (rlines_any ⟨#[99, 108, 97, 115, 115]⟩ v4 l4 (by decide) f4 z4 wx (hv.s4.below h.2)).mono (R' := fun e w' => e = .returned (.string L4) ∧ BoxP w A w') (fun e w' ⟨h1, h2⟩ => ⟨by rw [h1, hL4], h2 ▸ h⟩))
    obtain ⟨L5, hL5⟩ : ∃ D : ByteArray, D = ⟨(lns (bl ⟨#[112, 114, 111, 112]⟩) (l5.map bl)).toArray⟩ := ⟨_, rfl⟩
    have t5 : L5.size ≤ 10020000000 := by rw [hL5]; exact lns_size ⟨#[112, 114, 111, 112]⟩ l5 (by decide) f5 z5
    have CL5 := hide (fun wx (h : BoxP w A wx) => (rlines_any ⟨#[112, 114, 111, 112]⟩ v5 l5 (by decide) f5 z5 wx (hv.s5.below h.2)).mono (R' := fun e w' => e = .returned (.string L5) ∧ BoxP w A w') (fun e w' ⟨h1, h2⟩ => ⟨by rw [h1, hL5], h2 ▸ h⟩))
    obtain ⟨E1, hE1⟩ : ∃ T : ByteArray, T = ⟨#[101, 112, 111, 99, 104, 32]⟩ ++ D0 := ⟨_, rfl⟩
    obtain ⟨E2, hE2⟩ : ∃ T : ByteArray, T = E1 ++ ⟨#[10]⟩ := ⟨_, rfl⟩
    obtain ⟨E3, hE3⟩ : ∃ T : ByteArray, T = E2 ++ L1 := ⟨_, rfl⟩
    obtain ⟨E4, hE4⟩ : ∃ T : ByteArray, T = E3 ++ L2 := ⟨_, rfl⟩
    obtain ⟨E5, hE5⟩ : ∃ T : ByteArray, T = E4 ++ L3 := ⟨_, rfl⟩
    obtain ⟨E6, hE6⟩ : ∃ T : ByteArray, T = E5 ++ L4 := ⟨_, rfl⟩
    obtain ⟨T1, hT1⟩ : ∃ T : ByteArray, T = E6 ++ L5 := ⟨_, rfl⟩
    obtain ⟨G1, hG1⟩ : ∃ T : ByteArray, T = T1 ++ ⟨#[99, 97, 112, 115, 32]⟩ := ⟨_, rfl⟩
    obtain ⟨G2, hG2⟩ : ∃ T : ByteArray, T = G1 ++ D6 := ⟨_, rfl⟩
    obtain ⟨G3, hG3⟩ : ∃ T : ByteArray, T = G2 ++ ⟨#[32]⟩ := ⟨_, rfl⟩
    obtain ⟨G4, hG4⟩ : ∃ T : ByteArray, T = G3 ++ D7 := ⟨_, rfl⟩
    obtain ⟨G5, hG5⟩ : ∃ T : ByteArray, T = G4 ++ ⟨#[32]⟩ := ⟨_, rfl⟩
    obtain ⟨G6, hG6⟩ : ∃ T : ByteArray, T = G5 ++ D8 := ⟨_, rfl⟩
    obtain ⟨TT, hTT⟩ : ∃ T : ByteArray, T = G6 ++ ⟨#[10]⟩ := ⟨_, rfl⟩
    have HTX : Hid ((⟨(text p).toArray⟩ : ByteArray) = TT) := hide (by
      apply ba_ext
      rw [hTT, hG6, hG5, hG4, hG3, hG2, hG1, hT1, hE6, hE5, hE4, hE3, hE2, hE1]
      simp only [app_bl]
      rw [hD0, hD6, hD7, hD8, hL1, hL2, hL3, hL4, hL5]
      show text p = [101, 112, 111, 99, 104, 32] ++ dec n0 ++ [10] ++ lns kElem (l1.map bl) ++ lns kAttr (l2.map bl) ++ lns kScheme (l3.map bl) ++ lns kClass (l4.map bl) ++ lns kProp (l5.map bl) ++ [99, 97, 112, 115, 32] ++ dec n6 ++ [32] ++ dec n7 ++ [32] ++ dec n8 ++ [10]
      unfold text
      rw [hn0, hn6, hn7, hn8, hv.e1, hv.e2, hv.e3, hv.e4, hv.e5]
      simp [kEpoch, kCaps])
    have zE1 : E1.size = 6 + D0.size := by rw [hE1, app_size] <;> rfl
    have zE2 : E2.size = E1.size + 1 := by rw [hE2, app_size] <;> rfl
    have zE3 : E3.size = E2.size + L1.size := by rw [hE3, app_size] <;> rfl
    have zE4 : E4.size = E3.size + L2.size := by rw [hE4, app_size] <;> rfl
    have zE5 : E5.size = E4.size + L3.size := by rw [hE5, app_size] <;> rfl
    have zE6 : E6.size = E5.size + L4.size := by rw [hE6, app_size] <;> rfl
    have zT1 : T1.size = E6.size + L5.size := by rw [hT1, app_size] <;> rfl
    have zG1 : G1.size = T1.size + 5 := by rw [hG1, app_size] <;> rfl
    have zG2 : G2.size = G1.size + D6.size := by rw [hG2, app_size] <;> rfl
    have zG3 : G3.size = G2.size + 1 := by rw [hG3, app_size] <;> rfl
    have zG4 : G4.size = G3.size + D7.size := by rw [hG4, app_size] <;> rfl
    have zG5 : G5.size = G4.size + 1 := by rw [hG5, app_size] <;> rfl
    have zG6 : G6.size = G5.size + D8.size := by rw [hG6, app_size] <;> rfl
    have zTT : TT.size = G6.size + 1 := by rw [hTT, app_size] <;> rfl
    have aE1 : ∀ w, (Op.stringOp .add ⟨#[101, 112, 111, 99, 104, 32]⟩ D0).run Tryz.prog w = .ok (.string E1) w := fun w => by rw [hE1]; exact add_str _ _ (by first | omega | (show 6 + _ ≤ _; omega) | (show _ + 1 ≤ _; omega) | (show _ + 5 ≤ _; omega)) w
    have aE2 : ∀ w, (Op.stringOp .add E1 ⟨#[10]⟩).run Tryz.prog w = .ok (.string E2) w := fun w => by rw [hE2]; exact add_str _ _ (by first | omega | (show 6 + _ ≤ _; omega) | (show _ + 1 ≤ _; omega) | (show _ + 5 ≤ _; omega)) w
    have aE3 : ∀ w, (Op.stringOp .add E2 L1).run Tryz.prog w = .ok (.string E3) w := fun w => by rw [hE3]; exact add_str _ _ (by first | omega | (show 6 + _ ≤ _; omega) | (show _ + 1 ≤ _; omega) | (show _ + 5 ≤ _; omega)) w
    have aE4 : ∀ w, (Op.stringOp .add E3 L2).run Tryz.prog w = .ok (.string E4) w := fun w => by rw [hE4]; exact add_str _ _ (by first | omega | (show 6 + _ ≤ _; omega) | (show _ + 1 ≤ _; omega) | (show _ + 5 ≤ _; omega)) w
    have aE5 : ∀ w, (Op.stringOp .add E4 L3).run Tryz.prog w = .ok (.string E5) w := fun w => by rw [hE5]; exact add_str _ _ (by first | omega | (show 6 + _ ≤ _; omega) | (show _ + 1 ≤ _; omega) | (show _ + 5 ≤ _; omega)) w
    have aE6 : ∀ w, (Op.stringOp .add E5 L4).run Tryz.prog w = .ok (.string E6) w := fun w => by rw [hE6]; exact add_str _ _ (by first | omega | (show 6 + _ ≤ _; omega) | (show _ + 1 ≤ _; omega) | (show _ + 5 ≤ _; omega)) w
    have aT1 : ∀ w, (Op.stringOp .add E6 L5).run Tryz.prog w = .ok (.string T1) w := fun w => by rw [hT1]; exact add_str _ _ (by first | omega | (show 6 + _ ≤ _; omega) | (show _ + 1 ≤ _; omega) | (show _ + 5 ≤ _; omega)) w
    have aG1 : ∀ w, (Op.stringOp .add T1 ⟨#[99, 97, 112, 115, 32]⟩).run Tryz.prog w = .ok (.string G1) w := fun w => by rw [hG1]; exact add_str _ _ (by first | omega | (show 6 + _ ≤ _; omega) | (show _ + 1 ≤ _; omega) | (show _ + 5 ≤ _; omega)) w
    have aG2 : ∀ w, (Op.stringOp .add G1 D6).run Tryz.prog w = .ok (.string G2) w := fun w => by rw [hG2]; exact add_str _ _ (by first | omega | (show 6 + _ ≤ _; omega) | (show _ + 1 ≤ _; omega) | (show _ + 5 ≤ _; omega)) w
    have aG3 : ∀ w, (Op.stringOp .add G2 ⟨#[32]⟩).run Tryz.prog w = .ok (.string G3) w := fun w => by rw [hG3]; exact add_str _ _ (by first | omega | (show 6 + _ ≤ _; omega) | (show _ + 1 ≤ _; omega) | (show _ + 5 ≤ _; omega)) w
    have aG4 : ∀ w, (Op.stringOp .add G3 D7).run Tryz.prog w = .ok (.string G4) w := fun w => by rw [hG4]; exact add_str _ _ (by first | omega | (show 6 + _ ≤ _; omega) | (show _ + 1 ≤ _; omega) | (show _ + 5 ≤ _; omega)) w
    have aG5 : ∀ w, (Op.stringOp .add G4 ⟨#[32]⟩).run Tryz.prog w = .ok (.string G5) w := fun w => by rw [hG5]; exact add_str _ _ (by first | omega | (show 6 + _ ≤ _; omega) | (show _ + 1 ≤ _; omega) | (show _ + 5 ≤ _; omega)) w
    have aG6 : ∀ w, (Op.stringOp .add G5 D8).run Tryz.prog w = .ok (.string G6) w := fun w => by rw [hG6]; exact add_str _ _ (by first | omega | (show 6 + _ ≤ _; omega) | (show _ + 1 ≤ _; omega) | (show _ + 5 ≤ _; omega)) w
    have aTT : ∀ w, (Op.stringOp .add G6 ⟨#[10]⟩).run Tryz.prog w = .ok (.string TT) w := fun w => by rw [hTT]; exact add_str _ _ (by first | omega | (show 6 + _ ≤ _; omega) | (show _ + 1 ≤ _; omega) | (show _ + 5 ≤ _; omega)) w
    clear zE1 zE2 zE3 zE4 zE5 zE6 zT1 zG1 zG2 zG3 zG4 zG5 zG6 zTT
    rw [hn0, hn6, hn7, hn8] at CR hA
    rw [hn0, hn6, hn7, hn8, if_pos rfl, if_pos rfl, HTX.out]
    have HA0 : Hid (A[0]? = some (.int .i64 (n0 : Int)) ∧ A[1]? = some v1 ∧ A[2]? = some v2 ∧ A[3]? = some v3 ∧ A[4]? = some v4 ∧ A[5]? = some v5 ∧ A[6]? = some (.int .i64 (n6 : Int)) ∧ A[7]? = some (.int .i64 (n7 : Int)) ∧ A[8]? = some (.int .i64 (n8 : Int))) := hide (by rw [hA]; exact ⟨rfl, rfl, rfl, rfl, rfl, rfl, rfl, rfl, rfl⟩)
    have S3 : Hid (∀ wx, BoxP w A wx → wx.cell? ⟨w.heap.size, 0, none⟩ = some (.int .i64 (n0 : Int)) ∧ wx.cell? ⟨w.heap.size, 1, none⟩ = some v1 ∧ wx.cell? ⟨w.heap.size, 2, none⟩ = some v2 ∧ wx.cell? ⟨w.heap.size, 3, none⟩ = some v3 ∧ wx.cell? ⟨w.heap.size, 4, none⟩ = some v4 ∧ wx.cell? ⟨w.heap.size, 5, none⟩ = some v5 ∧ Hid (BoxP w A wx)) := hide (fun wx h => ⟨h.cell 0 _ HA0.out.1, h.cell 1 _ HA0.out.2.1, h.cell 2 _ HA0.out.2.2.1, h.cell 3 _ HA0.out.2.2.2.1, h.cell 4 _ HA0.out.2.2.2.2.1, h.cell 5 _ HA0.out.2.2.2.2.2.1, hide h⟩)
    have SB3 : Hid (∀ wx, (wx.cell? ⟨w.heap.size, 0, none⟩ = some (.int .i64 (n0 : Int)) ∧ wx.cell? ⟨w.heap.size, 1, none⟩ = some v1 ∧ wx.cell? ⟨w.heap.size, 2, none⟩ = some v2 ∧ wx.cell? ⟨w.heap.size, 3, none⟩ = some v3 ∧ wx.cell? ⟨w.heap.size, 4, none⟩ = some v4 ∧ wx.cell? ⟨w.heap.size, 5, none⟩ = some v5 ∧ Hid (BoxP w A wx)) → BoxP w A wx) := hide (fun wx h => h.2.2.2.2.2.2.out)
    have SB4 : Hid (∀ wx, (wx.cell? ⟨w.heap.size, 6, none⟩ = some (.int .i64 (n6 : Int)) ∧ wx.cell? ⟨w.heap.size, 7, none⟩ = some (.int .i64 (n7 : Int)) ∧ wx.cell? ⟨w.heap.size, 8, none⟩ = some (.int .i64 (n8 : Int)) ∧ Hid (BoxP w A wx)) → BoxP w A wx) := hide (fun wx h => h.2.2.2.out)
    have S4 : Hid (∀ wx, BoxP w A wx → wx.cell? ⟨w.heap.size, 6, none⟩ = some (.int .i64 (n6 : Int)) ∧ wx.cell? ⟨w.heap.size, 7, none⟩ = some (.int .i64 (n7 : Int)) ∧ wx.cell? ⟨w.heap.size, 8, none⟩ = some (.int .i64 (n8 : Int)) ∧ Hid (BoxP w A wx)) := hide (fun wx h => ⟨h.cell 6 _ HA0.out.2.2.2.2.2.2.1, h.cell 7 _ HA0.out.2.2.2.2.2.2.2.1, h.cell 8 _ HA0.out.2.2.2.2.2.2.2.2, hide h⟩)
    obtain ⟨w1, hw1⟩ : ∃ w1, w1 = w.alloc (.cells A 25) := ⟨_, rfl⟩
    rw [← hw1] at HNEW
    have y0 := (S3.out w1 HNEW.out).1
    have y1 := (S3.out w1 HNEW.out).2.1
    have y2 := (S3.out w1 HNEW.out).2.2.1
    have y3 := (S3.out w1 HNEW.out).2.2.2.1
    have y4 := (S3.out w1 HNEW.out).2.2.2.2.1
    have y5 := (S3.out w1 HNEW.out).2.2.2.2.2.1
    have y6 := (S4.out w1 HNEW.out).1
    have y7 := (S4.out w1 HNEW.out).2.1
    have y8 := (S4.out w1 HNEW.out).2.2.1
    rw [hA] at hw1
    clear hr hv hf hA hE1 hE2 hE3 hE4 hE5 hE6 hT1 hG1 hG2 hG3 hG4 hG5 hG6 hTT HTX hD0 hD6 hD7 hD8 hL1 hL2 hL3 hL4 hL5 hn0 hn6 hn7 hn8 h1 h2 h3 h4 h5 h6 h7 h8 s0 s6 s7 s8 t1 t2 t3 t4 t5 z1 z2 z3 z4 z5 f1 f2 f3 f4 f5
    go_enter Tryz.func24, Tryz.ntmps24
    go_upto_region 1 with fail
    rw [← hw1]
    clear hw1
    go_wp2_with fail
    refine (CR.out _ HNEW.out.2).mono ?_
    rintro e w2 ⟨rfl, hb2⟩
    have HB2 := hide (HNEW.out.keep hb2)
    clear hb2 y0 y1 y2 y3 y4 y5 y6 y7 y8 CR HNEW
    go_wp2_with fail
    go_region_held3 (fun wx => wx.cell? ⟨w.heap.size, 0, none⟩ = some (.int .i64 (n0 : Int)) ∧ wx.cell? ⟨w.heap.size, 1, none⟩ = some v1 ∧ wx.cell? ⟨w.heap.size, 2, none⟩ = some v2 ∧ wx.cell? ⟨w.heap.size, 3, none⟩ = some v3 ∧ wx.cell? ⟨w.heap.size, 4, none⟩ = some v4 ∧ wx.cell? ⟨w.heap.size, 5, none⟩ = some v5 ∧ Hid (BoxP w A wx))
      (first | exact S3.out _ HB2.out.drew | exact S3.out _ (by assumption))
      (first
        | (go_at_call 44; refine (CD0.out _ (SB3.out _ (by assumption))).mono ?_; rintro e w3 ⟨rfl, hB3⟩)
        | (go_at_call_of 45 v1; refine (CL1.out _ (SB3.out _ (by assumption))).mono ?_; rintro e w3 ⟨rfl, hB3⟩)
        | (go_at_call_of 45 v2; refine (CL2.out _ (SB3.out _ (by assumption))).mono ?_; rintro e w3 ⟨rfl, hB3⟩)
        | (go_at_call_of 45 v3; refine (CL3.out _ (SB3.out _ (by assumption))).mono ?_; rintro e w3 ⟨rfl, hB3⟩)
        | (go_at_call_of 45 v4; refine (CL4.out _ (SB3.out _ (by assumption))).mono ?_; rintro e w3 ⟨rfl, hB3⟩)
        | (go_at_call_of 45 v5; refine (CL5.out _ (SB3.out _ (by assumption))).mono ?_; rintro e w3 ⟨rfl, hB3⟩))
    have HB3 := hide (SB3.out _ (by assumption))
    clear S3 SB3 CD0 CL1 CL2 CL3 CL4 CL5
    go_wp2_with fail
    go_region_held3 (fun wx => wx.cell? ⟨w.heap.size, 6, none⟩ = some (.int .i64 (n6 : Int)) ∧ wx.cell? ⟨w.heap.size, 7, none⟩ = some (.int .i64 (n7 : Int)) ∧ wx.cell? ⟨w.heap.size, 8, none⟩ = some (.int .i64 (n8 : Int)) ∧ Hid (BoxP w A wx))
      (first | exact S4.out _ HB3.out.drew | exact S4.out _ (by assumption))
      (first
        | (go_at_call_of 44 n6; refine (CD6.out _ (SB4.out _ (by assumption))).mono ?_; rintro e w5 ⟨rfl, hB5⟩)
        | (go_at_call_of 44 n7; refine (CD7.out _ (SB4.out _ (by assumption))).mono ?_; rintro e w5 ⟨rfl, hB5⟩)
        | (go_at_call_of 44 n8; refine (CD8.out _ (SB4.out _ (by assumption))).mono ?_; rintro e w5 ⟨rfl, hB5⟩))
    have HB4 := hide (SB4.out _ (by assumption))
    go_wp2_with fail
    go_ret2
    exact ⟨rfl, HB4.out.2⟩
end Go.Proofs.YtebcpmgooodmpaaGreatDoor

namespace Go.Proofs.YtebcpmgooodmpaaGreatDoor
open Go.RowKit
open Utf1 Pol8

theorem drop_segs (c : UInt8) (s : L) (f i : Nat) (hfi : f ≤ i) (hi : i < s.length) (h : s[i]? = some c) (hn : ∀ j, f ≤ j → j < i → s[j]? ≠ some c) : segs c (s.drop f) = (s.drop f).take (i - f) :: segs c (s.drop (i + 1)) := by
  have e : s.drop f = (s.drop f).take (i - f) ++ c :: s.drop (i + 1) := by
    conv => lhs; rw [← List.take_append_drop (i - f) (s.drop f)]
    congr 1
    rw [List.drop_drop, show f + (i - f) = i by omega, List.drop_eq_getElem_cons hi]
    congr 1
    rw [List.getElem?_eq_getElem hi] at h
    exact Option.some.inj h
  have hno : c ∉ (s.drop f).take (i - f) := by
    intro hm
    obtain ⟨j, hj⟩ := List.mem_iff_getElem?.1 hm
    rw [List.getElem?_take] at hj
    split at hj
    · rw [List.getElem?_drop] at hj
      exact hn (f + j) (by omega) (by omega) hj
    · cases hj
  conv => lhs; rw [e]
  exact segs_semi c _ _ hno
theorem last_segs (c : UInt8) (s : L) (f : Nat) (hn : ∀ j, f ≤ j → j < s.length → s[j]? ≠ some c) : segs c (s.drop f) = [s.drop f] := by
  apply segs_end c
  intro hm
  obtain ⟨j, hj⟩ := List.mem_iff_getElem?.1 hm
  have := (List.getElem?_eq_some_iff.1 hj).1
  rw [List.length_drop] at this
  rw [List.getElem?_drop] at hj
  exact hn (f + j) (by omega) (by omega) hj

theorem beqC (a b : UInt8) : ((a.toNat : Int) == (b.toNat : Int)) = decide (a = b) := by
  by_cases h : a = b
  · rw [h, decide_eq_true rfl]
    simp
  · rw [decide_eq_false h]
    apply beq_eq_false_iff_ne.2
    intro e
    exact h (UInt8.toNat_inj.1 (by omega))

set_option maxRecDepth 100000 in
set_option maxHeartbeats 8000000 in
theorem rcut_any (c : UInt8) (s : ByteArray) (hs : s.size ≤ 100000) (w : World) :
    Calls Tryz.prog 69 #[.string s, .int .u8 (c.toNat : Int)] w fun e w' => ∃ v ps, e = .returned v ∧ StrArg w' v ps ∧ ps.map bl = segs c (bl s) ∧ Below w.heap.size w w' := by
  obtain ⟨i0, hi, hz0, hz1, hz2⟩ := info_parts infoStr
  go_enter Tryz.func69, Tryz.ntmps69
  go_wp2_with fail
  go_loopg [5, 6, 7] (s.size + 1) (fun g v5 v6 v7 wr => ∃ (f i n cp : Nat) (p : Option Addr) (ps : List ByteArray), i + g = s.size + 1 ∧ f ≤ i ∧ n ≤ i ∧ v5 = .slice p n cp ∧ v6 = .int .i64 (f : Int) ∧ v7 = .int .i64 (i : Int) ∧ Hid (n = ps.length ∧ wr.ownsRow w.heap.size 9 1 (.slice p n cp) n (strV ps) ∧ Below w.heap.size w wr ∧
    ((i ≤ s.size ∧ ps.map bl ++ segs c ((bl s).drop f) = segs c (bl s) ∧ ∀ j, f ≤ j → j < i → (bl s)[j]? ≠ some c) ∨ (i = s.size + 1 ∧ ps.map bl = segs c (bl s)))))
  case atStart => exact ⟨0, 0, 0, 0, none, [], by omega, Nat.le_refl _, Nat.le_refl _, rfl, rfl, rfl, hide ⟨rfl, ⟨rfl, .inl ⟨rfl, rfl⟩⟩, Below.refl _ _, .inl ⟨Nat.zero_le _, rfl, fun j h1 h2 => by omega⟩⟩⟩
  case round =>
    obtain ⟨f, i, n, cp, p, ps, hig, hfi, hni, rfl, rfl, rfl, HR⟩ := hrel
    by_cases hlt : i < s.size
    · obtain ⟨d, hd⟩ := getK s i hlt
      have ip := fun w => idxK hd w
      have hno : ps.map bl ++ segs c ((bl s).drop f) = segs c (bl s) ∧ ∀ j, f ≤ j → j < i → (bl s)[j]? ≠ some c := by
        rcases HR.out.2.2.2 with h | h
        · exact h.2
        · omega
      have HNO := hide hno
      have k59 : ((d.toNat : Int) == (c.toNat : Int)) = decide (d = c) := beqC d c
      have keq : ((i : Int) == (s.size : Int)) = false := beq_eq_false_iff_ne.2 (by omega)
      have HD := hide hd
      clear hno hd
      by_cases h59 : d = c
      · rw [decide_eq_true h59] at k59
        have HSE : Hid ((ps ++ [s.extract f i]).map bl ++ segs c ((bl s).drop (i + 1)) = segs c (bl s)) := hide (by
          rw [← HNO.out.1, drop_segs c (bl s) f i hfi (by rw [bl_len]; exact hlt) (by rw [HD.out, h59]) HNO.out.2, List.map_append, List.append_assoc]
          congr 1
          show [bl (s.extract f i)] ++ _ = _
          rw [extract_bl]
          rfl)
        generalize (d.toNat : Int) = z at ip k59
        clear h59 HNO HD
        have HOW : Hid ((wr.alloc (.cells #[.string (s.extract f i)] 9)).ownsRow w.heap.size 9 1 (.slice p n cp) n (strV ps)) := hide (HR.out.2.1.alloc _)
        have HSZ : Hid (w.heap.size ≤ (wr.alloc (.cells #[.string (s.extract f i)] 9)).heap.size) := hide (by have := HR.out.2.2.1.size; simp; omega)
        go_wp2_with (at_builtin; refine wpList_append_own _ rfl _ _ 22 rfl w.heap.size 9 i0 _ 1 16 Tryz.underlying22 hi hz0 hz1 hz2 rfl (by decide) (.slice p n cp) n (strV ps) rfl HOW.out ⟨wr.heap.size, 0, none⟩ 1 1 [.string (s.extract f i)] rfl rfl (one_new _ _ _) (by simp [Value.oneCell']) (by unfold maxLen; omega) (by omega) HSZ.out ?_)
        intro u' w3 hown3 hg3 _
        obtain ⟨p', c', rfl, -⟩ := own_shape hown3
        have HR3 : Hid (n + 1 = (ps ++ [s.extract f i]).length ∧ w3.ownsRow w.heap.size 9 1 (.slice p' (n + 1) c') (n + 1) (strV (ps ++ [s.extract f i])) ∧ Below w.heap.size w w3) := hide ⟨by rw [List.length_append, ← HR.out.1]; rfl, by rw [strV_app]; exact hown3, (HR.out.2.2.1.alloc HR.out.2.2.1.size _).grown hg3 (by have := HR.out.2.2.1.size; simp; omega) (fun k hk => by
          have := HR.out.2.1
          rcases this.2 with ⟨e, _⟩ | ⟨g, cap, cur, e, hg, _⟩
          · rw [e] at hk; simp [Value.ownBlock] at hk
          · rw [e] at hk; simp only [Value.ownBlock, Option.some.injEq] at hk; omega)⟩
        clear hown3 hg3 HOW HSZ HR
        go_wp2_with fail
        go_roundg (gk - 1)
        case measure => omega
        case rel => exact ⟨i + 1, i + 1, n + 1, c', p', ps ++ [s.extract f i], by omega, Nat.le_refl _, by omega, rfl, by first | rfl | simp, by first | rfl | simp, hide ⟨HR3.out.1, HR3.out.2.1, HR3.out.2.2, .inl ⟨by omega, HSE.out, fun j h1 h2 => by omega⟩⟩⟩
      · rw [decide_eq_false h59] at k59
        have HN2 : Hid (∀ j, f ≤ j → j < i + 1 → (bl s)[j]? ≠ some c) := hide (fun j h1 h2 => by
          by_cases e : j = i
          · subst e
            rw [HD.out]
            intro e'
            exact h59 (Option.some.inj e')
          · exact HNO.out.2 j h1 (by omega))
        have HR2 := hide (show i + 1 ≤ s.size ∧ ps.map bl ++ segs c ((bl s).drop f) = segs c (bl s) ∧ ∀ j, f ≤ j → j < i + 1 → (bl s)[j]? ≠ some c from ⟨by omega, HNO.out.1, HN2.out⟩)
        generalize (d.toNat : Int) = z at ip k59
        clear h59 HNO HD HN2
        go_wp2_with fail
        go_roundg (gk - 1)
        case measure => omega
        case rel => exact ⟨f, i + 1, n, cp, p, ps, by omega, by omega, by omega, rfl, rfl, by first | rfl | simp, hide ⟨HR.out.1, HR.out.2.1, HR.out.2.2.1, .inl HR2.out⟩⟩
    · by_cases heq : i = s.size
      · subst heq
        have hno : ps.map bl ++ segs c ((bl s).drop f) = segs c (bl s) ∧ ∀ j, f ≤ j → j < s.size → (bl s)[j]? ≠ some c := by
          rcases HR.out.2.2.2 with h | h
          · exact h.2
          · omega
        have HSE : Hid ((ps ++ [s.extract f s.size]).map bl = segs c (bl s)) := hide (by
          rw [← hno.1, last_segs c (bl s) f (by rw [bl_len]; exact hno.2), List.map_append]
          congr 1
          show [bl (s.extract f s.size)] = _
          rw [extract_bl, List.take_of_length_le (by rw [List.length_drop, bl_len]; omega)])
        have keq : ((s.size : Int) == (s.size : Int)) = true := by simp
        clear hno hlt
        have HOW : Hid ((wr.alloc (.cells #[.string (s.extract f s.size)] 9)).ownsRow w.heap.size 9 1 (.slice p n cp) n (strV ps)) := hide (HR.out.2.1.alloc _)
        have HSZ : Hid (w.heap.size ≤ (wr.alloc (.cells #[.string (s.extract f s.size)] 9)).heap.size) := hide (by have := HR.out.2.2.1.size; simp; omega)
        go_wp2_with (at_builtin; refine wpList_append_own _ rfl _ _ 22 rfl w.heap.size 9 i0 _ 1 16 Tryz.underlying22 hi hz0 hz1 hz2 rfl (by decide) (.slice p n cp) n (strV ps) rfl HOW.out ⟨wr.heap.size, 0, none⟩ 1 1 [.string (s.extract f s.size)] rfl rfl (one_new _ _ _) (by simp [Value.oneCell']) (by unfold maxLen; omega) (by omega) HSZ.out ?_)
        intro u' w3 hown3 hg3 _
        obtain ⟨p', c', rfl, -⟩ := own_shape hown3
        have HR3 : Hid (n + 1 = (ps ++ [s.extract f s.size]).length ∧ w3.ownsRow w.heap.size 9 1 (.slice p' (n + 1) c') (n + 1) (strV (ps ++ [s.extract f s.size])) ∧ Below w.heap.size w w3) := hide ⟨by rw [List.length_append, ← HR.out.1]; rfl, by rw [strV_app]; exact hown3, (HR.out.2.2.1.alloc HR.out.2.2.1.size _).grown hg3 (by have := HR.out.2.2.1.size; simp; omega) (fun k hk => by
          have := HR.out.2.1
          rcases this.2 with ⟨e, _⟩ | ⟨g, cap, cur, e, hg, _⟩
          · rw [e] at hk; simp [Value.ownBlock] at hk
          · rw [e] at hk; simp only [Value.ownBlock, Option.some.injEq] at hk; omega)⟩
        clear hown3 hg3 HOW HSZ HR
        go_wp2_with fail
        go_roundg (gk - 1)
        case measure => omega
        case rel => exact ⟨s.size + 1, s.size + 1, n + 1, c', p', ps ++ [s.extract f s.size], by omega, Nat.le_refl _, by omega, rfl, by first | rfl | simp, by first | rfl | simp, hide ⟨HR3.out.1, HR3.out.2.1, HR3.out.2.2, .inr ⟨rfl, HSE.out⟩⟩⟩
      · have HE : Hid (StrArg wr (.slice p n cp) ps ∧ ps.map bl = segs c (bl s) ∧ Below w.heap.size w wr) := hide (by
          refine ⟨?_, ?_, HR.out.2.2.1⟩
          · have h1 := HR.out.2.1
            exact own_arg (B := w.heap.size) (by rw [← HR.out.1]; exact h1)
          · rcases HR.out.2.2.2 with h | h
            · omega
            · exact h.2)
        have hle : ¬ i ≤ s.size := by omega
        clear HR
        go_wp2_with fail
        go_ret
        exact ⟨_, ps, rfl, HE.out⟩

theorem num_bad {l : L} {k : Nat} {c : UInt8} (h : l[k]? = some c) (hc : dig c = false) : num l = 0 := by
  unfold num
  rw [if_neg]
  rintro ⟨h1, _⟩
  have := List.all_eq_true.1 h1 c (List.mem_of_getElem? h)
  rw [hc] at this
  cases this
theorem num_long {l : L} (h : 7 < l.length) : num l = 0 := by
  unfold num
  rw [if_neg]
  rintro ⟨_, h1⟩
  omega
theorem numTo_step {l : L} {k : Nat} {c : UInt8} (h : l[k]? = some c) : numTo 0 (l.take (k + 1)) = stepN (numTo 0 (l.take k)) c := by
  rw [List.take_add_one, h]
  exact (numTo_app (l.take k) [c] 0).trans (numTo_one _ _)
theorem numTo_lt (l : L) : ∀ n : Nat, l.all dig = true → numTo n l < (n + 1) * 10 ^ l.length := by
  induction l with
  | nil =>
    intro n _
    rw [List.length_nil, Nat.pow_zero, Nat.mul_one]
    exact Nat.lt_succ_self n
  | cons c l ih =>
    intro n h
    rw [List.all_cons, Bool.and_eq_true] at h
    have hc := of_decide_eq_true h.1
    have i1 := ih (stepN n c) h.2
    unfold stepN at i1
    have h1 : n * 10 + (c.toNat - 48) + 1 ≤ (n + 1) * 10 := by omega
    have h2 := Nat.mul_le_mul_right (10 ^ l.length) h1
    have h3 : (n + 1) * 10 * 10 ^ l.length = (n + 1) * 10 ^ (c :: l).length := by
      rw [List.length_cons, Nat.pow_succ, Nat.mul_assoc, Nat.mul_comm 10]
    rw [numTo_cons]
    unfold stepN
    rw [h3] at h2
    exact Nat.lt_of_lt_of_le i1 h2

set_option maxRecDepth 100000 in
set_option maxHeartbeats 8000000 in
theorem rnumber_any (s : ByteArray) (hs : s.size ≤ 100000) (w : World) :
    Calls Tryz.prog 70 #[.string s] w fun e w' => e = .returned (.int .i64 (num (bl s) : Int)) ∧ w' = w := by
  obtain ⟨R, hR⟩ : ∃ R : Int, R = (num (bl s) : Int) := ⟨_, rfl⟩
  rw [← hR]
  have HAL := hide hR
  clear hR
  go_enter Tryz.func70, Tryz.ntmps70
  go_wp2_with fail
  go_loopg [3, 4] s.size (fun g v3 v4 wx => wx = w ∧ ∃ k n : Nat, k + g = s.size ∧ v4 = .int .i64 (k : Int) ∧ v3 = .int .i64 (n : Int) ∧ n ≤ 99999999 ∧ Hid ((0 < k → s.size ≤ 7) ∧ n = numTo 0 ((bl s).take k) ∧ ((bl s).take k).all dig = true))
  case atStart => exact ⟨rfl, 0, 0, by omega, rfl, rfl, by omega, hide ⟨fun h => by omega, rfl, rfl⟩⟩
  case round =>
    obtain ⟨rfl, k, n, hk, rfl, rfl, hn, HU⟩ := hrel
    by_cases hlt : k < s.size
    · obtain ⟨c, hc⟩ := getK s k hlt
      have ip := fun w => idxK hc w
      have hb := c.toNat_lt
      have HNO : Hid (dig c = false → R = 0) := hide (fun h => by rw [HAL.out, num_bad hc h]; rfl)
      have HST : Hid (numTo 0 ((bl s).take (k + 1)) = numTo 0 ((bl s).take k) * 10 + (c.toNat - 48)) := hide (numTo_step hc)
      have HAD : Hid (dig c = true → ((bl s).take (k + 1)).all dig = true) := hide (fun h => by
        rw [List.take_add_one, hc, List.all_append, HU.out.2.2]
        simp [h])
      have HDG : Hid (dig c = decide (48 ≤ c.toNat ∧ c.toNat ≤ 57)) := hide rfl
      obtain ⟨m, hm⟩ : ∃ m, m = c.toNat := ⟨_, rfl⟩
      rw [← hm] at ip hb HST HDG
      clear hc hm
      rcases (show m < 48 ∨ 57 < m ∨ (48 ≤ m ∧ m ≤ 57) from by omega) with h | h | h
      · have HR : Hid (R = 0) := hide (HNO.out (by rw [HDG.out]; exact decide_eq_false (by omega)))
        have l48 : decide ((m : Int) < 48) = true := decide_eq_true (by omega)
        clear HNO HST HAD HDG HU h hb HAL
        go_wp2_with fail
        go_ret
        rw [HR.out]
        exact ⟨rfl, rfl⟩
      · have HR : Hid (R = 0) := hide (HNO.out (by rw [HDG.out]; exact decide_eq_false (by omega)))
        have l48 : decide ((m : Int) < 48) = false := decide_eq_false (by omega)
        have g57 : decide ((57 : Int) < (m : Int)) = true := decide_eq_true (by omega)
        clear HNO HST HAD HDG HU h hb HAL
        go_wp2_with fail
        go_ret
        rw [HR.out]
        exact ⟨rfl, rfl⟩
      · have l48 : decide ((m : Int) < 48) = false := decide_eq_false (by omega)
        have g57 : decide ((57 : Int) < (m : Int)) = false := decide_eq_false (by omega)
        by_cases h7 : 7 < s.size
        · have HR : Hid (R = 0) := hide (by rw [HAL.out, num_long (by rw [bl_len]; exact h7)]; rfl)
          clear HNO HST HAD HDG HU HAL
          go_wp2_with fail
          go_ret
          rw [HR.out]
          exact ⟨rfl, rfl⟩
        · obtain ⟨d, hd⟩ : ∃ d : Nat, m = 48 + d := ⟨m - 48, by omega⟩
          subst hd
          have hd10 : d < 10 := by omega
          have HU2 : Hid ((0 < k + 1 → s.size ≤ 7) ∧ n * 10 + d = numTo 0 ((bl s).take (k + 1)) ∧ ((bl s).take (k + 1)).all dig = true) := hide ⟨fun _ => by omega, by rw [HST.out, ← HU.out.2.1]; omega, HAD.out (by rw [HDG.out]; exact decide_eq_true (by omega))⟩
          have hn2 : n * 10 + d ≤ 99999999 := by
            have h1 := HU2.out.2.1
            have h2 := numTo_lt ((bl s).take (k + 1)) 0 HU2.out.2.2
            have h3 : ((bl s).take (k + 1)).length ≤ 7 := by
              rw [List.length_take, bl_len]
              omega
            have h4 : 10 ^ ((bl s).take (k + 1)).length ≤ 10 ^ 7 := Nat.pow_le_pow_right (by omega) h3
            omega
          clear HNO HST HAD HDG HU HAL hb h
          have hcast : ((48 + d : Nat) : Int) = 48 + (d : Int) := by omega
          rw [hcast] at ip l48 g57
          clear hcast
          go_wp2_with fail
          go_roundg (s.size - k - 1)
          case measure => omega
          case rel => exact ⟨rfl, k + 1, n * 10 + d, by omega, by first | rfl | simp, by first | rfl | (simp; done) | (simp; omega), hn2, HU2⟩
    · have HR : Hid (R = (n : Int)) := hide (by
        have h1 : (bl s).take k = bl s := List.take_of_length_le (by rw [bl_len]; omega)
        have h2 := HU.out
        rw [h1] at h2
        have h7 : (bl s).length ≤ 7 := by
          rw [bl_len]
          by_cases h0 : 0 < k
          · exact h2.1 h0
          · omega
        have e : num (bl s) = n := by
          unfold num
          rw [if_pos ⟨h2.2.2, h7⟩]
          exact h2.2.1.symm
        rw [HAL.out, e])
      clear HU HAL
      go_wp2_with fail
      go_ret
      rw [HR.out]
      exact ⟨rfl, rfl⟩
end Go.Proofs.YtebcpmgooodmpaaGreatDoor

namespace Go.Proofs.YtebcpmgooodmpaaGreatDoor
open Go.RowKit
open Utf1 Pol8

theorem same_ext {a b : List ByteArray} (hl : a.length = b.length) (h : ∀ j x y, j < a.length → a[j]? = some x → b[j]? = some y → bl x = bl y) : a.map bl = b.map bl := by
  apply List.ext_getElem?
  intro j
  rw [List.getElem?_map, List.getElem?_map]
  by_cases hj : j < a.length
  · rw [List.getElem?_eq_getElem hj, List.getElem?_eq_getElem (by omega)]
    exact congrArg some (h j _ _ hj (List.getElem?_eq_getElem hj) (List.getElem?_eq_getElem (by omega)))
  · rw [List.getElem?_eq_none (by omega), List.getElem?_eq_none (by omega)]

set_option maxRecDepth 100000 in
set_option maxHeartbeats 8000000 in
theorem rsame_any (v u : Value) (ss rs : List ByteArray) (hr : rs.length ≤ 100000) (w : World) (hv : StrArg w v ss) (hu : StrArg w u rs) :
    Calls Tryz.prog 57 #[v, u] w fun e w' => e = .returned (.bool (decide (ss.map bl = rs.map bl))) ∧ Below w.heap.size w w' := by
  obtain ⟨R, hR⟩ : ∃ R, R = decide (ss.map bl = rs.map bl) := ⟨_, rfl⟩
  rw [← hR]
  have HAL := hide hR
  clear hR
  have HV := hide hv
  have HW := hide hu
  obtain ⟨p, cap, rfl, -, -⟩ := hv
  obtain ⟨p', cap', rfl, -, -⟩ := hu
  by_cases hne : ss.length = rs.length
  · rw [← hne] at hr HW ⊢
    obtain ⟨N, hN⟩ : ∃ N, N = ss.length := ⟨_, rfl⟩
    rw [← hN] at hr HV HW ⊢
    have HN := hide hN
    have HNE := hide hne
    clear hN hne
    go_enter Tryz.func57, Tryz.ntmps57
    go_wp2_with fail
    go_loopg [5] N (fun g v wx => ∃ i : Nat, i + g = N ∧ v = .int .i64 (i : Int) ∧ Hid (Below w.heap.size w wx ∧ ∀ j x y, j < i → ss[j]? = some x → rs[j]? = some y → bl x = bl y))
    case atStart => exact ⟨0, by omega, rfl, hide ⟨Below.refl _ _, fun j x y hj => by omega⟩⟩
    case round =>
      obtain ⟨i, hi, rfl, HU⟩ := hrel
      by_cases hlt : i < N
      · obtain ⟨x, hx⟩ : ∃ x, ss[i]? = some x := ⟨_, List.getElem?_eq_getElem (by rw [← HN.out]; exact hlt)⟩
        obtain ⟨y, hy⟩ : ∃ y, rs[i]? = some y := ⟨_, List.getElem?_eq_getElem (by rw [← HNE.out, ← HN.out]; exact hlt)⟩
        obtain ⟨b, off, rfl, c0⟩ : ∃ b off, p = some ⟨b, off, none⟩ ∧ wr.cell? ⟨b, off + i, none⟩ = some (.string x) := by
          obtain ⟨q, cq, e, -, hc⟩ := HV.out.below HU.out.1
          injection e with e1 e2 e3
          obtain ⟨b, off, e4, h⟩ := hc i x hx
          exact ⟨b, off, e1.trans e4, h⟩
        obtain ⟨b', off', rfl, c1⟩ : ∃ b off, p' = some ⟨b, off, none⟩ ∧ wr.cell? ⟨b, off + i, none⟩ = some (.string y) := by
          obtain ⟨q, cq, e, -, hc⟩ := HW.out.below HU.out.1
          injection e with e1 e2 e3
          obtain ⟨b, off, e4, h⟩ := hc i y hy
          exact ⟨b, off, e1.trans e4, h⟩
        have q0 := eq_two x y
        have HB : Hid (Below w.heap.size w wr.drew) := hide HU.out.1.drew
        have HXY := hide (And.intro hx hy)
        clear hx hy
        by_cases hxy : bl x = bl y
        · rw [decide_eq_true hxy] at q0
          have HU2 : Hid (∀ j x y, j < i + 1 → ss[j]? = some x → rs[j]? = some y → bl x = bl y) := hide (fun j a c hj h1 h2 => by
            by_cases e : j = i
            · subst e
              rw [HXY.out.1] at h1
              rw [HXY.out.2] at h2
              cases h1
              cases h2
              exact hxy
            · exact HU.out.2 j a c (by omega) h1 h2)
          clear hxy HU HXY
          go_wp2_with fail
          go_region
          go_wp2_with fail
          go_roundg (gk - 1)
          case measure => omega
          case rel => exact ⟨i + 1, by omega, by first | rfl | simp, hide ⟨HB.out, HU2.out⟩⟩
        · rw [decide_eq_false hxy] at q0
          have HR : Hid (R = false) := hide (by
            rw [HAL.out]
            apply decide_eq_false
            intro e
            have := congrArg (·[i]?) e
            simp only [List.getElem?_map, HXY.out.1, HXY.out.2, Option.map_some] at this
            exact hxy (Option.some.inj this))
          clear hxy HU HXY HAL
          go_wp2_with fail
          go_region
          go_wp2_with fail
          go_ret
          rw [HR.out]
          exact ⟨rfl, HB.out⟩
      · have HR : Hid (R = true) := hide (by
          rw [HAL.out]
          exact decide_eq_true (same_ext HNE.out fun j x y hj => HU.out.2 j x y (by rw [← HN.out] at hj; omega)))
        have HB := hide HU.out.1
        clear HU HAL
        go_wp2_with fail
        go_ret
        rw [HR.out]
        exact ⟨rfl, HB.out⟩
  · have HR : Hid (R = false) := hide (by
      rw [HAL.out]
      apply decide_eq_false
      intro e
      have := congrArg List.length e
      rw [List.length_map, List.length_map] at this
      exact hne this)
    have hni : ((ss.length : Int) != (rs.length : Int)) = true := by
      have : ¬ (ss.length : Int) = (rs.length : Int) := by omega
      simpa using this
    clear HAL
    go_enter Tryz.func57, Tryz.ntmps57
    go_wp2_with fail
    go_ret
    rw [HR.out]
    exact ⟨rfl, Below.refl _ _⟩
end Go.Proofs.YtebcpmgooodmpaaGreatDoor

namespace Pol8
def sameP (p q : Pol) : Bool := decide (p.ep = q.ep) && (decide (p.el = q.el) && (decide (p.at_ = q.at_) && (decide (p.sc = q.sc) && (decide (p.cl = q.cl) && (decide (p.pr = q.pr) && (decide (p.dp = q.dp) && (decide (p.nd = q.nd) && decide (p.bt = q.bt))))))))
theorem sameP_iff (p q : Pol) : sameP p q = true ↔ p = q := by
  unfold sameP
  simp only [Bool.and_eq_true, decide_eq_true_eq]
  constructor
  · rintro ⟨h1, h2, h3, h4, h5, h6, h7, h8, h9⟩
    exact Pol.ext' h1 h2 h3 h4 h5 h6 h7 h8 h9
  · rintro rfl
    exact ⟨rfl, rfl, rfl, rfl, rfl, rfl, rfl, rfl, rfl⟩
end Pol8
namespace Go.Proofs.YtebcpmgooodmpaaGreatDoor
open Go.RowKit
open Utf1 Pol8

/-- Two policies' parameters in their blocks. -/
def BoxQ (w : World) (A B : Array Value) (wx : World) : Prop := wx.heap[w.heap.size]? = some (.cells A 25 (0, 0)) ∧ wx.heap[w.heap.size + 1]? = some (.cells B 25 (0, 0)) ∧ Below w.heap.size w wx
theorem BoxQ.keep {w wx wy : World} {A B : Array Value} (h : BoxQ w A B wx) (hb : Below wx.heap.size wx wy) : BoxQ w A B wy :=
  ⟨(hb.block _ (Array.getElem?_eq_some_iff.1 h.1).1).trans h.1, (hb.block _ (Array.getElem?_eq_some_iff.1 h.2.1).1).trans h.2.1, h.2.2.trans (hb.mono h.2.2.size)⟩
theorem BoxQ.a {w wx : World} {A B : Array Value} (h : BoxQ w A B wx) (i : Nat) (v : Value) (hv : A[i]? = some v) : wx.cell? ⟨w.heap.size, i, none⟩ = some v := tag_cell h.1 i v hv
theorem BoxQ.b {w wx : World} {A B : Array Value} (h : BoxQ w A B wx) (i : Nat) (v : Value) (hv : B[i]? = some v) : wx.cell? ⟨w.heap.size + 1, i, none⟩ = some v := tag_cell h.2.1 i v hv
theorem BoxQ.new (w : World) (A B : Array Value) : BoxQ w A B ((w.alloc (.cells A 25)).alloc (.cells B 25)) := by
  have s1 : (w.alloc (.cells A 25)).heap.size = w.heap.size + 1 := by simp
  have k2 := new_block (w.alloc (.cells A 25)) B 25
  rw [s1] at k2
  refine ⟨?_, k2, bel_alloc (bel_alloc (Below.refl _ _) _) _⟩
  rw [Below.heap_alloc _ _ _ (by rw [s1]; omega)]
  exact new_block _ _ _

set_option maxRecDepth 100000 in
set_option maxHeartbeats 32000000 in
theorem rsameP_any (v1 v2 v3 v4 v5 u1 u2 u3 u4 u5 : Value) (p q : Pol) (l1 l2 l3 l4 l5 m1 m2 m3 m4 m5 : List ByteArray) (w : World) (hv : PolV w v1 v2 v3 v4 v5 p l1 l2 l3 l4 l5) (hu : PolV w u1 u2 u3 u4 u5 q m1 m2 m3 m4 m5) (hf : fits p) (hg : fits q) :
    Calls Tryz.prog 30 #[.agg #[.int .i64 p.ep, v1, v2, v3, v4, v5, .int .i64 p.dp, .int .i64 p.nd, .int .i64 p.bt], .agg #[.int .i64 q.ep, u1, u2, u3, u4, u5, .int .i64 q.dp, .int .i64 q.nd, .int .i64 q.bt]] w fun e w' => e = .returned (.bool (sameP p q)) ∧ Below w.heap.size w w' := by
  obtain ⟨f1, -⟩ := fits_of hf (by simp) hv.e1
  obtain ⟨g1, -⟩ := fits_of hg (by simp) hu.e1
  obtain ⟨f2, -⟩ := fits_of hf (by simp) hv.e2
  obtain ⟨g2, -⟩ := fits_of hg (by simp) hu.e2
  obtain ⟨f3, -⟩ := fits_of hf (by simp) hv.e3
  obtain ⟨g3, -⟩ := fits_of hg (by simp) hu.e3
  obtain ⟨f4, -⟩ := fits_of hf (by simp) hv.e4
  obtain ⟨g4, -⟩ := fits_of hg (by simp) hu.e4
  obtain ⟨f5, -⟩ := fits_of hf (by simp) hv.e5
  obtain ⟨g5, -⟩ := fits_of hg (by simp) hu.e5
  obtain ⟨A, hA⟩ : ∃ A : Array Value, A = #[.int .i64 p.ep, v1, v2, v3, v4, v5, .int .i64 p.dp, .int .i64 p.nd, .int .i64 p.bt] := ⟨_, rfl⟩
  obtain ⟨B, hB⟩ : ∃ B : Array Value, B = #[.int .i64 q.ep, u1, u2, u3, u4, u5, .int .i64 q.dp, .int .i64 q.nd, .int .i64 q.bt] := ⟨_, rfl⟩
  obtain ⟨w1, hw1⟩ : ∃ w1, w1 = (w.alloc (.cells A 25)).alloc (.cells B 25) := ⟨_, rfl⟩
  have HN : Hid (BoxQ w A B w1) := hide (by rw [hw1]; exact BoxQ.new w A B)
  have Y0 : Hid (∀ wx, BoxQ w A B wx → wx.cell? ⟨w.heap.size, 0, none⟩ = some (.int .i64 p.ep) ∧ wx.cell? ⟨w.heap.size + 1, 0, none⟩ = some (.int .i64 q.ep)) := hide (fun wx h => ⟨h.a 0 _ (by rw [hA]; rfl), h.b 0 _ (by rw [hB]; rfl)⟩)
  have Y1 : Hid (∀ wx, BoxQ w A B wx → wx.cell? ⟨w.heap.size, 1, none⟩ = some (v1) ∧ wx.cell? ⟨w.heap.size + 1, 1, none⟩ = some (u1)) := hide (fun wx h => ⟨h.a 1 _ (by rw [hA]; rfl), h.b 1 _ (by rw [hB]; rfl)⟩)
  have Y2 : Hid (∀ wx, BoxQ w A B wx → wx.cell? ⟨w.heap.size, 2, none⟩ = some (v2) ∧ wx.cell? ⟨w.heap.size + 1, 2, none⟩ = some (u2)) := hide (fun wx h => ⟨h.a 2 _ (by rw [hA]; rfl), h.b 2 _ (by rw [hB]; rfl)⟩)
  have Y3 : Hid (∀ wx, BoxQ w A B wx → wx.cell? ⟨w.heap.size, 3, none⟩ = some (v3) ∧ wx.cell? ⟨w.heap.size + 1, 3, none⟩ = some (u3)) := hide (fun wx h => ⟨h.a 3 _ (by rw [hA]; rfl), h.b 3 _ (by rw [hB]; rfl)⟩)
  have Y4 : Hid (∀ wx, BoxQ w A B wx → wx.cell? ⟨w.heap.size, 4, none⟩ = some (v4) ∧ wx.cell? ⟨w.heap.size + 1, 4, none⟩ = some (u4)) := hide (fun wx h => ⟨h.a 4 _ (by rw [hA]; rfl), h.b 4 _ (by rw [hB]; rfl)⟩)
  have Y5 : Hid (∀ wx, BoxQ w A B wx → wx.cell? ⟨w.heap.size, 5, none⟩ = some (v5) ∧ wx.cell? ⟨w.heap.size + 1, 5, none⟩ = some (u5)) := hide (fun wx h => ⟨h.a 5 _ (by rw [hA]; rfl), h.b 5 _ (by rw [hB]; rfl)⟩)
  have Y6 : Hid (∀ wx, BoxQ w A B wx → wx.cell? ⟨w.heap.size, 6, none⟩ = some (.int .i64 p.dp) ∧ wx.cell? ⟨w.heap.size + 1, 6, none⟩ = some (.int .i64 q.dp)) := hide (fun wx h => ⟨h.a 6 _ (by rw [hA]; rfl), h.b 6 _ (by rw [hB]; rfl)⟩)
  have Y7 : Hid (∀ wx, BoxQ w A B wx → wx.cell? ⟨w.heap.size, 7, none⟩ = some (.int .i64 p.nd) ∧ wx.cell? ⟨w.heap.size + 1, 7, none⟩ = some (.int .i64 q.nd)) := hide (fun wx h => ⟨h.a 7 _ (by rw [hA]; rfl), h.b 7 _ (by rw [hB]; rfl)⟩)
  have Y8 : Hid (∀ wx, BoxQ w A B wx → wx.cell? ⟨w.heap.size, 8, none⟩ = some (.int .i64 p.bt) ∧ wx.cell? ⟨w.heap.size + 1, 8, none⟩ = some (.int .i64 q.bt)) := hide (fun wx h => ⟨h.a 8 _ (by rw [hA]; rfl), h.b 8 _ (by rw [hB]; rfl)⟩)
  have C1 : Hid (∀ wx, BoxQ w A B wx → Calls Tryz.prog 57 #[v1, u1] wx fun e w' => e = .returned (.bool (decide (p.el = q.el))) ∧ BoxQ w A B w') := hide (fun wx h => by
    have := rsame_any v1 u1 l1 m1 (by omega) wx (hv.s1.below h.2.2) (hu.s1.below h.2.2)
    rw [hv.e1, hu.e1] at this
    exact this.mono fun e w' ⟨h1, h2⟩ => ⟨h1, h.keep h2⟩)
  have C2 : Hid (∀ wx, BoxQ w A B wx → Calls Tryz.prog 57 #[v2, u2] wx fun e w' => e = .returned (.bool (decide (p.at_ = q.at_))) ∧ BoxQ w A B w') := hide (fun wx h => by
    have := rsame_any v2 u2 l2 m2 (by omega) wx (hv.s2.below h.2.2) (hu.s2.below h.2.2)
    rw [hv.e2, hu.e2] at this
    exact this.mono fun e w' ⟨h1, h2⟩ => ⟨h1, h.keep h2⟩)
  have C3 : Hid (∀ wx, BoxQ w A B wx → Calls Tryz.prog 57 #[v3, u3] wx fun e w' => e = .returned (.bool (decide (p.sc = q.sc))) ∧ BoxQ w A B w') := hide (fun wx h => by
    have := rsame_any v3 u3 l3 m3 (by omega) wx (hv.s3.below h.2.2) (hu.s3.below h.2.2)
    rw [hv.e3, hu.e3] at this
    exact this.mono fun e w' ⟨h1, h2⟩ => ⟨h1, h.keep h2⟩)
  have C4 : Hid (∀ wx, BoxQ w A B wx → Calls Tryz.prog 57 #[v4, u4] wx fun e w' => e = .returned (.bool (decide (p.cl = q.cl))) ∧ BoxQ w A B w') := hide (fun wx h => by
    have := rsame_any v4 u4 l4 m4 (by omega) wx (hv.s4.below h.2.2) (hu.s4.below h.2.2)
    rw [hv.e4, hu.e4] at this
    exact this.mono fun e w' ⟨h1, h2⟩ => ⟨h1, h.keep h2⟩)
  have C5 : Hid (∀ wx, BoxQ w A B wx → Calls Tryz.prog 57 #[v5, u5] wx fun e w' => e = .returned (.bool (decide (p.pr = q.pr))) ∧ BoxQ w A B w') := hide (fun wx h => by
    have := rsame_any v5 u5 l5 m5 (by omega) wx (hv.s5.below h.2.2) (hu.s5.below h.2.2)
    rw [hv.e5, hu.e5] at this
    exact this.mono fun e w' ⟨h1, h2⟩ => ⟨h1, h.keep h2⟩)
  have HS : Hid (sameP p q = (decide (p.ep = q.ep) && (decide (p.el = q.el) && (decide (p.at_ = q.at_) && (decide (p.sc = q.sc) && (decide (p.cl = q.cl) && (decide (p.pr = q.pr) && (decide (p.dp = q.dp) && (decide (p.nd = q.nd) && decide (p.bt = q.bt)))))))))) := hide rfl
  obtain ⟨R, hR⟩ : ∃ R, R = sameP p q := ⟨_, rfl⟩
  rw [← hR] at HS ⊢
  clear hR
  have e0 : (p.ep == q.ep) = decide (p.ep = q.ep) := by by_cases h : p.ep = q.ep <;> simp [h]
  generalize decide (p.ep = q.ep) = d0 at HS e0
  have e6 : (p.dp == q.dp) = decide (p.dp = q.dp) := by by_cases h : p.dp = q.dp <;> simp [h]
  generalize decide (p.dp = q.dp) = d6 at HS e6
  have e7 : (p.nd == q.nd) = decide (p.nd = q.nd) := by by_cases h : p.nd = q.nd <;> simp [h]
  generalize decide (p.nd = q.nd) = d7 at HS e7
  have e8 : (p.bt == q.bt) = decide (p.bt = q.bt) := by by_cases h : p.bt = q.bt <;> simp [h]
  generalize decide (p.bt = q.bt) = d8 at HS e8
  generalize decide (p.el = q.el) = d1 at HS C1
  generalize decide (p.at_ = q.at_) = d2 at HS C2
  generalize decide (p.sc = q.sc) = d3 at HS C3
  generalize decide (p.cl = q.cl) = d4 at HS C4
  generalize decide (p.pr = q.pr) = d5 at HS C5
  generalize p.ep = x0 at *
  generalize q.ep = z0 at *
  generalize p.dp = x6 at *
  generalize q.dp = z6 at *
  generalize p.nd = x7 at *
  generalize q.nd = z7 at *
  generalize p.bt = x8 at *
  generalize q.bt = z8 at *
  rw [hA, hB] at hw1
  clear hv hu hf hg hA hB f1 g1 f2 g2 f3 g3 f4 g4 f5 g5
  cases d0 with
  | false =>
    have HR : Hid (R = false) := hide (by rw [HS.out]; rfl)
    clear HS
    obtain ⟨y0, y0b⟩ := Y0.out w1 HN.out
    go_enter Tryz.func30, Tryz.ntmps30
    go_upto_region 1 with fail
    rw [← hw1]
    clear hw1
    go_wp2_with fail
    go_ret
    rw [HR.out]
    exact ⟨rfl, HN.out.2.2⟩
  | true =>
    cases d1 with
    | false =>
      have HR : Hid (R = false) := hide (by rw [HS.out]; rfl)
      clear HS
      obtain ⟨y0, y0b⟩ := Y0.out w1 HN.out
      obtain ⟨y1, y1b⟩ := Y1.out w1 HN.out
      go_enter Tryz.func30, Tryz.ntmps30
      go_upto_region 1 with fail
      rw [← hw1]
      clear hw1
      go_wp2_with fail
      refine (C1.out _ HN.out).mono ?_
      rintro e X1 ⟨rfl, h1⟩
      have H1 := hide h1
      clear h1 y1 y1b y0 y0b
      go_wp2_with fail
      go_ret
      rw [HR.out]
      exact ⟨rfl, H1.out.2.2⟩
    | true =>
      cases d2 with
      | false =>
        have HR : Hid (R = false) := hide (by rw [HS.out]; rfl)
        clear HS
        obtain ⟨y0, y0b⟩ := Y0.out w1 HN.out
        obtain ⟨y1, y1b⟩ := Y1.out w1 HN.out
        go_enter Tryz.func30, Tryz.ntmps30
        go_upto_region 1 with fail
        rw [← hw1]
        clear hw1
        go_wp2_with fail
        refine (C1.out _ HN.out).mono ?_
        rintro e X1 ⟨rfl, h1⟩
        have H1 := hide h1
        clear h1 y1 y1b y0 y0b
        obtain ⟨y2, y2b⟩ := Y2.out X1 H1.out
        go_wp2_with fail
        refine (C2.out _ H1.out).mono ?_
        rintro e X2 ⟨rfl, h2⟩
        have H2 := hide h2
        clear h2 y2 y2b
        go_wp2_with fail
        go_ret
        rw [HR.out]
        exact ⟨rfl, H2.out.2.2⟩
      | true =>
        cases d3 with
        | false =>
          have HR : Hid (R = false) := hide (by rw [HS.out]; rfl)
          clear HS
          obtain ⟨y0, y0b⟩ := Y0.out w1 HN.out
          obtain ⟨y1, y1b⟩ := Y1.out w1 HN.out
          go_enter Tryz.func30, Tryz.ntmps30
          go_upto_region 1 with fail
          rw [← hw1]
          clear hw1
          go_wp2_with fail
          refine (C1.out _ HN.out).mono ?_
          rintro e X1 ⟨rfl, h1⟩
          have H1 := hide h1
          clear h1 y1 y1b y0 y0b
          obtain ⟨y2, y2b⟩ := Y2.out X1 H1.out
          go_wp2_with fail
          refine (C2.out _ H1.out).mono ?_
          rintro e X2 ⟨rfl, h2⟩
          have H2 := hide h2
          clear h2 y2 y2b
          obtain ⟨y3, y3b⟩ := Y3.out X2 H2.out
          go_wp2_with fail
          refine (C3.out _ H2.out).mono ?_
          rintro e X3 ⟨rfl, h3⟩
          have H3 := hide h3
          clear h3 y3 y3b
          go_wp2_with fail
          go_ret
          rw [HR.out]
          exact ⟨rfl, H3.out.2.2⟩
        | true =>
          cases d4 with
          | false =>
            have HR : Hid (R = false) := hide (by rw [HS.out]; rfl)
            clear HS
            obtain ⟨y0, y0b⟩ := Y0.out w1 HN.out
            obtain ⟨y1, y1b⟩ := Y1.out w1 HN.out
            go_enter Tryz.func30, Tryz.ntmps30
            go_upto_region 1 with fail
            rw [← hw1]
            clear hw1
            go_wp2_with fail
            refine (C1.out _ HN.out).mono ?_
            rintro e X1 ⟨rfl, h1⟩
            have H1 := hide h1
            clear h1 y1 y1b y0 y0b
            obtain ⟨y2, y2b⟩ := Y2.out X1 H1.out
            go_wp2_with fail
            refine (C2.out _ H1.out).mono ?_
            rintro e X2 ⟨rfl, h2⟩
            have H2 := hide h2
            clear h2 y2 y2b
            obtain ⟨y3, y3b⟩ := Y3.out X2 H2.out
            go_wp2_with fail
            refine (C3.out _ H2.out).mono ?_
            rintro e X3 ⟨rfl, h3⟩
            have H3 := hide h3
            clear h3 y3 y3b
            obtain ⟨y4, y4b⟩ := Y4.out X3 H3.out
            go_wp2_with fail
            refine (C4.out _ H3.out).mono ?_
            rintro e X4 ⟨rfl, h4⟩
            have H4 := hide h4
            clear h4 y4 y4b
            go_wp2_with fail
            go_ret
            rw [HR.out]
            exact ⟨rfl, H4.out.2.2⟩
          | true =>
            cases d5 with
            | false =>
              have HR : Hid (R = false) := hide (by rw [HS.out]; rfl)
              clear HS
              obtain ⟨y0, y0b⟩ := Y0.out w1 HN.out
              obtain ⟨y1, y1b⟩ := Y1.out w1 HN.out
              go_enter Tryz.func30, Tryz.ntmps30
              go_upto_region 1 with fail
              rw [← hw1]
              clear hw1
              go_wp2_with fail
              refine (C1.out _ HN.out).mono ?_
              rintro e X1 ⟨rfl, h1⟩
              have H1 := hide h1
              clear h1 y1 y1b y0 y0b
              obtain ⟨y2, y2b⟩ := Y2.out X1 H1.out
              go_wp2_with fail
              refine (C2.out _ H1.out).mono ?_
              rintro e X2 ⟨rfl, h2⟩
              have H2 := hide h2
              clear h2 y2 y2b
              obtain ⟨y3, y3b⟩ := Y3.out X2 H2.out
              go_wp2_with fail
              refine (C3.out _ H2.out).mono ?_
              rintro e X3 ⟨rfl, h3⟩
              have H3 := hide h3
              clear h3 y3 y3b
              obtain ⟨y4, y4b⟩ := Y4.out X3 H3.out
              go_wp2_with fail
              refine (C4.out _ H3.out).mono ?_
              rintro e X4 ⟨rfl, h4⟩
              have H4 := hide h4
              clear h4 y4 y4b
              obtain ⟨y5, y5b⟩ := Y5.out X4 H4.out
              go_wp2_with fail
              refine (C5.out _ H4.out).mono ?_
              rintro e X5 ⟨rfl, h5⟩
              have H5 := hide h5
              clear h5 y5 y5b
              go_wp2_with fail
              go_ret
              rw [HR.out]
              exact ⟨rfl, H5.out.2.2⟩
            | true =>
              cases d6 with
              | false =>
                have HR : Hid (R = false) := hide (by rw [HS.out]; rfl)
                clear HS
                obtain ⟨y0, y0b⟩ := Y0.out w1 HN.out
                obtain ⟨y1, y1b⟩ := Y1.out w1 HN.out
                go_enter Tryz.func30, Tryz.ntmps30
                go_upto_region 1 with fail
                rw [← hw1]
                clear hw1
                go_wp2_with fail
                refine (C1.out _ HN.out).mono ?_
                rintro e X1 ⟨rfl, h1⟩
                have H1 := hide h1
                clear h1 y1 y1b y0 y0b
                obtain ⟨y2, y2b⟩ := Y2.out X1 H1.out
                go_wp2_with fail
                refine (C2.out _ H1.out).mono ?_
                rintro e X2 ⟨rfl, h2⟩
                have H2 := hide h2
                clear h2 y2 y2b
                obtain ⟨y3, y3b⟩ := Y3.out X2 H2.out
                go_wp2_with fail
                refine (C3.out _ H2.out).mono ?_
                rintro e X3 ⟨rfl, h3⟩
                have H3 := hide h3
                clear h3 y3 y3b
                obtain ⟨y4, y4b⟩ := Y4.out X3 H3.out
                go_wp2_with fail
                refine (C4.out _ H3.out).mono ?_
                rintro e X4 ⟨rfl, h4⟩
                have H4 := hide h4
                clear h4 y4 y4b
                obtain ⟨y5, y5b⟩ := Y5.out X4 H4.out
                go_wp2_with fail
                refine (C5.out _ H4.out).mono ?_
                rintro e X5 ⟨rfl, h5⟩
                have H5 := hide h5
                clear h5 y5 y5b
                obtain ⟨y6, y6b⟩ := Y6.out X5 H5.out
                go_wp2_with fail
                go_ret
                rw [HR.out]
                exact ⟨rfl, H5.out.2.2⟩
              | true =>
                cases d7 with
                | false =>
                  have HR : Hid (R = false) := hide (by rw [HS.out]; rfl)
                  clear HS
                  obtain ⟨y0, y0b⟩ := Y0.out w1 HN.out
                  obtain ⟨y1, y1b⟩ := Y1.out w1 HN.out
                  go_enter Tryz.func30, Tryz.ntmps30
                  go_upto_region 1 with fail
                  rw [← hw1]
                  clear hw1
                  go_wp2_with fail
                  refine (C1.out _ HN.out).mono ?_
                  rintro e X1 ⟨rfl, h1⟩
                  have H1 := hide h1
                  clear h1 y1 y1b y0 y0b
                  obtain ⟨y2, y2b⟩ := Y2.out X1 H1.out
                  go_wp2_with fail
                  refine (C2.out _ H1.out).mono ?_
                  rintro e X2 ⟨rfl, h2⟩
                  have H2 := hide h2
                  clear h2 y2 y2b
                  obtain ⟨y3, y3b⟩ := Y3.out X2 H2.out
                  go_wp2_with fail
                  refine (C3.out _ H2.out).mono ?_
                  rintro e X3 ⟨rfl, h3⟩
                  have H3 := hide h3
                  clear h3 y3 y3b
                  obtain ⟨y4, y4b⟩ := Y4.out X3 H3.out
                  go_wp2_with fail
                  refine (C4.out _ H3.out).mono ?_
                  rintro e X4 ⟨rfl, h4⟩
                  have H4 := hide h4
                  clear h4 y4 y4b
                  obtain ⟨y5, y5b⟩ := Y5.out X4 H4.out
                  go_wp2_with fail
                  refine (C5.out _ H4.out).mono ?_
                  rintro e X5 ⟨rfl, h5⟩
                  have H5 := hide h5
                  clear h5 y5 y5b
                  obtain ⟨y6, y6b⟩ := Y6.out X5 H5.out
                  obtain ⟨y7, y7b⟩ := Y7.out X5 H5.out
                  go_wp2_with fail
                  go_ret
                  rw [HR.out]
                  exact ⟨rfl, H5.out.2.2⟩
                | true =>
                  cases d8 with
                  | false =>
                    have HR : Hid (R = false) := hide (by rw [HS.out]; rfl)
                    clear HS
                    obtain ⟨y0, y0b⟩ := Y0.out w1 HN.out
                    obtain ⟨y1, y1b⟩ := Y1.out w1 HN.out
                    go_enter Tryz.func30, Tryz.ntmps30
                    go_upto_region 1 with fail
                    rw [← hw1]
                    clear hw1
                    go_wp2_with fail
                    refine (C1.out _ HN.out).mono ?_
                    rintro e X1 ⟨rfl, h1⟩
                    have H1 := hide h1
                    clear h1 y1 y1b y0 y0b
                    obtain ⟨y2, y2b⟩ := Y2.out X1 H1.out
                    go_wp2_with fail
                    refine (C2.out _ H1.out).mono ?_
                    rintro e X2 ⟨rfl, h2⟩
                    have H2 := hide h2
                    clear h2 y2 y2b
                    obtain ⟨y3, y3b⟩ := Y3.out X2 H2.out
                    go_wp2_with fail
                    refine (C3.out _ H2.out).mono ?_
                    rintro e X3 ⟨rfl, h3⟩
                    have H3 := hide h3
                    clear h3 y3 y3b
                    obtain ⟨y4, y4b⟩ := Y4.out X3 H3.out
                    go_wp2_with fail
                    refine (C4.out _ H3.out).mono ?_
                    rintro e X4 ⟨rfl, h4⟩
                    have H4 := hide h4
                    clear h4 y4 y4b
                    obtain ⟨y5, y5b⟩ := Y5.out X4 H4.out
                    go_wp2_with fail
                    refine (C5.out _ H4.out).mono ?_
                    rintro e X5 ⟨rfl, h5⟩
                    have H5 := hide h5
                    clear h5 y5 y5b
                    obtain ⟨y6, y6b⟩ := Y6.out X5 H5.out
                    obtain ⟨y7, y7b⟩ := Y7.out X5 H5.out
                    obtain ⟨y8, y8b⟩ := Y8.out X5 H5.out
                    go_wp2_with fail
                    go_ret
                    rw [HR.out]
                    exact ⟨rfl, H5.out.2.2⟩
                  | true =>
                    have HR : Hid (R = true) := hide (by rw [HS.out]; rfl)
                    clear HS
                    obtain ⟨y0, y0b⟩ := Y0.out w1 HN.out
                    obtain ⟨y1, y1b⟩ := Y1.out w1 HN.out
                    go_enter Tryz.func30, Tryz.ntmps30
                    go_upto_region 1 with fail
                    rw [← hw1]
                    clear hw1
                    go_wp2_with fail
                    refine (C1.out _ HN.out).mono ?_
                    rintro e X1 ⟨rfl, h1⟩
                    have H1 := hide h1
                    clear h1 y1 y1b y0 y0b
                    obtain ⟨y2, y2b⟩ := Y2.out X1 H1.out
                    go_wp2_with fail
                    refine (C2.out _ H1.out).mono ?_
                    rintro e X2 ⟨rfl, h2⟩
                    have H2 := hide h2
                    clear h2 y2 y2b
                    obtain ⟨y3, y3b⟩ := Y3.out X2 H2.out
                    go_wp2_with fail
                    refine (C3.out _ H2.out).mono ?_
                    rintro e X3 ⟨rfl, h3⟩
                    have H3 := hide h3
                    clear h3 y3 y3b
                    obtain ⟨y4, y4b⟩ := Y4.out X3 H3.out
                    go_wp2_with fail
                    refine (C4.out _ H3.out).mono ?_
                    rintro e X4 ⟨rfl, h4⟩
                    have H4 := hide h4
                    clear h4 y4 y4b
                    obtain ⟨y5, y5b⟩ := Y5.out X4 H4.out
                    go_wp2_with fail
                    refine (C5.out _ H4.out).mono ?_
                    rintro e X5 ⟨rfl, h5⟩
                    have H5 := hide h5
                    clear h5 y5 y5b
                    obtain ⟨y6, y6b⟩ := Y6.out X5 H5.out
                    obtain ⟨y7, y7b⟩ := Y7.out X5 H5.out
                    obtain ⟨y8, y8b⟩ := Y8.out X5 H5.out
                    go_wp2_with fail
                    go_ret
                    rw [HR.out]
                    exact ⟨rfl, H5.out.2.2⟩
end Go.Proofs.YtebcpmgooodmpaaGreatDoor
