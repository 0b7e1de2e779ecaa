/-
  The document's own Has, word, rises, words.
-/
import Derived.Test.YtlabdbkmlkmnkaaPW
import Derived.Test.YtlabdbkmlkmnkaaPM
namespace Go.Proofs.Ytlabdbkmlkmnkaa
open Go.RowKit
open Utf1 Pol8

set_option maxHeartbeats 4000000 in
theorem rhas_any (v : Value) (ss : List ByteArray) (X : ByteArray) (hl : ss.length ≤ 100000) (w : World) (hv : StrArg w v ss) :
    Calls Try.prog 53 #[v, .string X] w fun e w' => e = .returned (.bool (decide (bl X ∈ ss.map bl))) ∧ w' = w := by
  obtain ⟨R, hR⟩ : ∃ R, R = decide (bl X ∈ ss.map bl) := ⟨_, rfl⟩
  rw [← hR]
  have HAL := hide hR
  clear hR
  obtain ⟨p, cap, rfl, -, hc⟩ := hv
  have HC := hide hc
  obtain ⟨N, hN⟩ : ∃ N, N = ss.length := ⟨_, rfl⟩
  rw [← hN] at hl ⊢
  have HN := hide hN
  clear hc hN
  go_enter Try.func53, Try.ntmps53
  go_wp2_with fail
  go_loopg [5] N (fun g v wx => wx = w ∧ ∃ i : Nat, i + g = N ∧ v = .int .i64 (i : Int) ∧ Hid (bl X ∉ (ss.take i).map bl))
  case atStart => exact ⟨rfl, 0, by omega, rfl, hide (by simp)⟩
  case round =>
    obtain ⟨rfl, i, hi, rfl, HU⟩ := hrel
    by_cases hlt : i < N
    · obtain ⟨y, hge⟩ : ∃ y, ss[i]? = some y := ⟨_, List.getElem?_eq_getElem (by rw [← HN.out]; exact hlt)⟩
      obtain ⟨b, off, rfl, c0⟩ := HC.out i y hge
      have q0 := eq_two y X
      have HMS := hide (mem_step (X := X) hge)
      have HMM : Hid (bl y ∈ ss.map bl) := hide (List.mem_map_of_mem (List.mem_of_getElem? hge))
      clear hge
      by_cases hy : bl y = bl X
      · rw [decide_eq_true hy] at q0
        have HR : Hid (R = true) := hide (by
          rw [HAL.out]
          apply decide_eq_true
          rw [← hy]
          exact HMM.out)
        clear hy HU HMS
        go_wp2_with fail
        go_ret
        rw [HR.out]
        exact ⟨rfl, rfl⟩
      · rw [decide_eq_false hy] at q0
        have HU2 : Hid (bl X ∉ (ss.take (i + 1)).map bl) := hide (fun h => (HMS.out.1 h).elim HU.out hy)
        clear hy HU HMS
        go_wp2_with fail
        go_roundg (gk - 1)
        case measure => omega
        case rel => exact ⟨rfl, i + 1, by omega, by first | rfl | simp, HU2⟩
    · have HR : Hid (R = false) := hide (by
        rw [HAL.out]
        apply decide_eq_false
        have := HU.out
        rw [List.take_of_length_le (by rw [← HN.out]; omega)] at this
        exact this)
      clear HU
      go_wp2_with fail
      go_ret
      rw [HR.out]
      exact ⟨rfl, rfl⟩

set_option maxRecDepth 100000 in
set_option maxHeartbeats 8000000 in
theorem rword_any (s : ByteArray) (hs : s.size ≤ 9223372036854775807) (w : World) :
    Calls Try.prog 61 #[.string s] w fun e w' => e = .returned (.bool (isWord (bl s))) ∧ w' = w := by
  obtain ⟨R, hR⟩ : ∃ R, R = isWord (bl s) := ⟨_, rfl⟩
  rw [← hR]
  have HAL := hide hR
  clear hR
  go_enter Try.func61, Try.ntmps61
  go_wp2_with fail
  go_loopg [3] s.size (fun g v wx => wx = w ∧ ∃ k : Nat, k + g = s.size ∧ v = .int .i64 (k : Int) ∧ Hid (∀ j c, j < k → (bl s)[j]? = some c → wcp j c = true))
  case atStart => exact ⟨rfl, 0, by omega, rfl, hide (fun j c hj => by omega)⟩
  case round =>
    obtain ⟨rfl, k, hk, rfl, HU⟩ := hrel
    by_cases hlt : k < s.size
    · obtain ⟨c, hc⟩ := getK s k hlt
      have ip := fun w => idxK hc w
      have HOK : Hid (wcn k c.toNat = true → ∀ j d, j < k + 1 → (bl s)[j]? = some d → wcp j d = true) := hide (fun h => wup hc h HU.out)
      have HNO : Hid (wcn k c.toNat = false → R = false) := hide (fun h => by rw [HAL.out]; exact word_bad hc h)
      have hb := c.toNat_lt
      obtain ⟨n, hn⟩ : ∃ n, n = c.toNat := ⟨_, rfl⟩
      rw [← hn] at ip HOK HNO hb
      clear hc hn HU HAL
      by_cases hk0 : 0 < k
      · rcases (show n < 45 ∨ n = 45 ∨ (45 < n ∧ n < 48) ∨ (48 ≤ n ∧ n ≤ 57) ∨ (57 < n ∧ n < 97) ∨ (97 ≤ n ∧ n ≤ 122) ∨ 122 < n from by omega) with h | h | h | h | h | h | h
        · have HN := hide (HNO.out (decide_eq_false (by omega)))
          have e45 : ((n : Int) == 45) = false := beq_eq_false_iff_ne.2 (by omega)
          have g97 : decide ((97 : Int) ≤ (n : Int)) = false := decide_eq_false (by omega)
          have g48 : decide ((48 : Int) ≤ (n : Int)) = false := decide_eq_false (by omega)
          clear HOK HNO h hb
          go_wp2_with fail
          go_ret
          rw [HN.out]
          exact ⟨rfl, rfl⟩
        · subst h
          have HU := hide (HOK.out (decide_eq_true (by omega)))
          have c45 : ((45 : Nat) : Int) = 45 := rfl
          rw [c45] at ip
          clear HOK HNO hb
          go_wp2_with fail
          go_roundg (s.size - k - 1)
          case measure => omega
          case rel => exact ⟨rfl, k + 1, by omega, by first | rfl | simp, HU⟩
        · have HN := hide (HNO.out (decide_eq_false (by omega)))
          have e45 : ((n : Int) == 45) = false := beq_eq_false_iff_ne.2 (by omega)
          have g97 : decide ((97 : Int) ≤ (n : Int)) = false := decide_eq_false (by omega)
          have g48 : decide ((48 : Int) ≤ (n : Int)) = false := decide_eq_false (by omega)
          clear HOK HNO h hb
          go_wp2_with fail
          go_ret
          rw [HN.out]
          exact ⟨rfl, rfl⟩
        · have HU := hide (HOK.out (decide_eq_true (by omega)))
          have g97 : decide ((97 : Int) ≤ (n : Int)) = false := decide_eq_false (by omega)
          have g48 : decide ((48 : Int) ≤ (n : Int)) = true := decide_eq_true (by omega)
          have l57 : decide ((n : Int) ≤ 57) = true := decide_eq_true (by omega)
          clear HOK HNO h hb
          go_wp2_with fail
          go_roundg (s.size - k - 1)
          case measure => omega
          case rel => exact ⟨rfl, k + 1, by omega, by first | rfl | simp, HU⟩
        · have HN := hide (HNO.out (decide_eq_false (by omega)))
          have e45 : ((n : Int) == 45) = false := beq_eq_false_iff_ne.2 (by omega)
          have g97 : decide ((97 : Int) ≤ (n : Int)) = false := decide_eq_false (by omega)
          have g48 : decide ((48 : Int) ≤ (n : Int)) = true := decide_eq_true (by omega)
          have l57 : decide ((n : Int) ≤ 57) = false := decide_eq_false (by omega)
          clear HOK HNO h hb
          go_wp2_with fail
          go_ret
          rw [HN.out]
          exact ⟨rfl, rfl⟩
        · have HU := hide (HOK.out (decide_eq_true (by omega)))
          have g97 : decide ((97 : Int) ≤ (n : Int)) = true := decide_eq_true (by omega)
          have l122 : decide ((n : Int) ≤ 122) = true := decide_eq_true (by omega)
          clear HOK HNO h hb
          go_wp2_with fail
          go_roundg (s.size - k - 1)
          case measure => omega
          case rel => exact ⟨rfl, k + 1, by omega, by first | rfl | simp, HU⟩
        · have HN := hide (HNO.out (decide_eq_false (by omega)))
          have e45 : ((n : Int) == 45) = false := beq_eq_false_iff_ne.2 (by omega)
          have g97 : decide ((97 : Int) ≤ (n : Int)) = true := decide_eq_true (by omega)
          have l122 : decide ((n : Int) ≤ 122) = false := decide_eq_false (by omega)
          have g48 : decide ((48 : Int) ≤ (n : Int)) = true := decide_eq_true (by omega)
          have l57 : decide ((n : Int) ≤ 57) = false := decide_eq_false (by omega)
          clear HOK HNO h hb
          go_wp2_with fail
          go_ret
          rw [HN.out]
          exact ⟨rfl, rfl⟩
      · rcases (show n < 97 ∨ (97 ≤ n ∧ n ≤ 122) ∨ 122 < n from by omega) with h | h | h
        · have HN := hide (HNO.out (decide_eq_false (by omega)))
          have g97 : decide ((97 : Int) ≤ (n : Int)) = false := decide_eq_false (by omega)
          clear HOK HNO h hb
          go_wp2_with fail
          go_ret
          rw [HN.out]
          exact ⟨rfl, rfl⟩
        · have HU := hide (HOK.out (decide_eq_true (by omega)))
          have g97 : decide ((97 : Int) ≤ (n : Int)) = true := decide_eq_true (by omega)
          have l122 : decide ((n : Int) ≤ 122) = true := decide_eq_true (by omega)
          clear HOK HNO h hb
          go_wp2_with fail
          go_roundg (s.size - k - 1)
          case measure => omega
          case rel => exact ⟨rfl, k + 1, by omega, by first | rfl | simp, HU⟩
        · have HN := hide (HNO.out (decide_eq_false (by omega)))
          have g97 : decide ((97 : Int) ≤ (n : Int)) = true := decide_eq_true (by omega)
          have l122 : decide ((n : Int) ≤ 122) = false := decide_eq_false (by omega)
          clear HOK HNO h hb
          go_wp2_with fail
          go_ret
          rw [HN.out]
          exact ⟨rfl, rfl⟩
    · have HW : Hid (R = decide (1 ≤ s.size ∧ s.size ≤ 32)) := hide (by
        rw [HAL.out, word_all (fun j c hj => HU.out j c (by rw [bl_len] at hj; omega)), bl_len])
      clear HU HAL
      by_cases h1 : 1 ≤ s.size
      · by_cases h2 : s.size ≤ 32
        · have HR : Hid (R = true) := hide (by rw [HW.out]; exact decide_eq_true ⟨h1, h2⟩)
          clear HW
          go_wp2_with fail
          go_ret
          rw [HR.out]
          exact ⟨ret_bool (decide_eq_true (by omega)), rfl⟩
        · have HR : Hid (R = false) := hide (by rw [HW.out]; exact decide_eq_false (fun h => h2 h.2))
          clear HW
          go_wp2_with fail
          go_ret
          rw [HR.out]
          exact ⟨ret_bool (decide_eq_false (by omega)), rfl⟩
      · have HR : Hid (R = false) := hide (by rw [HW.out]; exact decide_eq_false (fun h => h1 h.1))
        clear HW
        go_wp2_with fail
        go_ret
        rw [HR.out]
        exact ⟨rfl, rfl⟩
end Go.Proofs.Ytlabdbkmlkmnkaa
