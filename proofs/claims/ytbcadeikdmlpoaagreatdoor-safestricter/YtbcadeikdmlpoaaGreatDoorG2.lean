/-
  What the document's has, Void and Block answer.
-/
import Derived.Test.YtbcadeikdmlpoaaGreatDoorG1
namespace Go.Proofs.YtbcadeikdmlpoaaGreatDoor.Dm
open Go.RowKit
open Utf1

theorem new_cell (w : World) (A : Array Value) (t : TypeId) (i : Nat) : (w.alloc (.cells A t)).cell? ⟨w.heap.size, i, none⟩ = A[i]? := by
  have h : (w.alloc (.cells A t)).heap[w.heap.size]? = some (.cells A t (0, 0)) := by
    show (w.heap.push _)[w.heap.size]? = _
    exact Array.getElem?_push_size
  unfold World.cell?
  rw [h]
  rfl

set_option maxHeartbeats 4000000 in
theorem has_any (names : List ByteArray) (g cap : Nat) (n : ByteArray) (w : World) (hl : names.length ≤ 100000) (hc : ∀ i x, names[i]? = some x → w.cell? ⟨g, i, none⟩ = some (.string x)) :
    Calls Tryz.prog 87 #[.slice (some ⟨g, 0, none⟩) names.length cap, .string n] w fun e w' => e = .returned (.bool (decide (bl n ∈ names.map bl))) ∧ w' = w := by
  obtain ⟨R, hR⟩ : ∃ R, R = decide (bl n ∈ names.map bl) := ⟨_, rfl⟩
  rw [← hR]
  have HR := hide hR
  have HC := hide hc
  clear hR hc
  obtain ⟨N, hN⟩ : ∃ N, N = names.length := ⟨_, rfl⟩
  rw [← hN] at hl ⊢
  have HN := hide hN
  clear hN
  go_enter Tryz.func87, Tryz.ntmps87
  go_wp2_with fail
  go_loopg [5] N (fun k v wr => ∃ i : Nat, i + k = N ∧ v = .int .i64 (i : Int) ∧ wr = w ∧ Hid (bl n ∉ (names.take i).map bl))
  case atStart => exact ⟨0, by omega, rfl, rfl, hide (by simp)⟩
  case round =>
    obtain ⟨i, hig, rfl, rfl, HNO⟩ := hrel
    by_cases hlt : i < N
    · have hi : i < names.length := by rw [← HN.out]; exact hlt
      have hge : names[i]? = some names[i] := List.getElem?_eq_getElem hi
      have c0 := HC.out i _ hge
      have hm : names[i] ∈ names := List.getElem_mem hi
      generalize names[i] = x at hge c0 hm
      by_cases h : bl x = bl n
      · have y0 : (x.toList == n.toList) = true := beq_same h
        have HRT : Hid (R = true) := hide (by
          rw [HR.out]
          exact decide_eq_true (List.mem_map.2 ⟨x, hm, h⟩))
        clear hge hm h HNO hi
        go_wp2_with fail
        go_ret
        rw [HRT.out]
        exact ⟨rfl, rfl⟩
      · have y0 : (x.toList == n.toList) = false := beq_ne h
        have HN2 : Hid (bl n ∉ (names.take (i + 1)).map bl) := hide (by
          rw [List.take_add_one, hge, List.map_append, List.mem_append]
          rintro (h1 | h1)
          · exact HNO.out h1
          · have : bl n = bl x := by simpa using h1
            exact h this.symm)
        clear hge hm h HNO hi
        go_wp2_with fail
        go_roundg (gk - 1)
        case measure => omega
        case rel => exact ⟨i + 1, by omega, by first | rfl | (rw [wrap64_in _ ⟨by omega, by omega⟩]; rfl) | simp, rfl, HN2⟩
    · have HRF : Hid (R = false) := hide (by
        rw [HR.out]
        refine decide_eq_false ?_
        have h1 := HNO.out
        rw [List.take_of_length_le (by rw [← HN.out]; omega)] at h1
        exact h1)
      clear HNO
      go_wp2_with fail
      go_ret
      rw [HRF.out]
      exact ⟨rfl, rfl⟩

def voidsB : List ByteArray := [⟨#[97, 114, 101, 97]⟩, ⟨#[98, 97, 115, 101]⟩, ⟨#[98, 114]⟩, ⟨#[99, 111, 108]⟩, ⟨#[101, 109, 98, 101, 100]⟩, ⟨#[104, 114]⟩, ⟨#[105, 109, 103]⟩, ⟨#[105, 110, 112, 117, 116]⟩, ⟨#[108, 105, 110, 107]⟩, ⟨#[109, 101, 116, 97]⟩, ⟨#[112, 97, 114, 97, 109]⟩, ⟨#[115, 111, 117, 114, 99, 101]⟩, ⟨#[116, 114, 97, 99, 107]⟩, ⟨#[119, 98, 114]⟩]
theorem voidsB_bl : voidsB.map bl = voids := rfl
set_option maxRecDepth 100000 in
set_option maxHeartbeats 4000000 in
theorem rvoid_any (s : ByteArray) (w : World) :
    Calls Tryz.prog 63 #[.string s] w fun e w' => e = .returned (.bool (decide (bl s ∈ voids))) ∧ Below w.heap.size w w' := by
  have HH : Hid (∀ t, Calls Tryz.prog 87 #[.slice (some ⟨w.heap.size, 0, none⟩) 14 14, .string s] (w.alloc (.cells #[.string ⟨#[97, 114, 101, 97]⟩, .string ⟨#[98, 97, 115, 101]⟩, .string ⟨#[98, 114]⟩, .string ⟨#[99, 111, 108]⟩, .string ⟨#[101, 109, 98, 101, 100]⟩, .string ⟨#[104, 114]⟩, .string ⟨#[105, 109, 103]⟩, .string ⟨#[105, 110, 112, 117, 116]⟩, .string ⟨#[108, 105, 110, 107]⟩, .string ⟨#[109, 101, 116, 97]⟩, .string ⟨#[112, 97, 114, 97, 109]⟩, .string ⟨#[115, 111, 117, 114, 99, 101]⟩, .string ⟨#[116, 114, 97, 99, 107]⟩, .string ⟨#[119, 98, 114]⟩] t)) fun e w' => e = .returned (.bool (decide (bl s ∈ voids))) ∧ w' = w.alloc (.cells #[.string ⟨#[97, 114, 101, 97]⟩, .string ⟨#[98, 97, 115, 101]⟩, .string ⟨#[98, 114]⟩, .string ⟨#[99, 111, 108]⟩, .string ⟨#[101, 109, 98, 101, 100]⟩, .string ⟨#[104, 114]⟩, .string ⟨#[105, 109, 103]⟩, .string ⟨#[105, 110, 112, 117, 116]⟩, .string ⟨#[108, 105, 110, 107]⟩, .string ⟨#[109, 101, 116, 97]⟩, .string ⟨#[112, 97, 114, 97, 109]⟩, .string ⟨#[115, 111, 117, 114, 99, 101]⟩, .string ⟨#[116, 114, 97, 99, 107]⟩, .string ⟨#[119, 98, 114]⟩] t)) := hide (by
    intro t
    have := has_any voidsB w.heap.size 14 s (w.alloc (.cells #[.string ⟨#[97, 114, 101, 97]⟩, .string ⟨#[98, 97, 115, 101]⟩, .string ⟨#[98, 114]⟩, .string ⟨#[99, 111, 108]⟩, .string ⟨#[101, 109, 98, 101, 100]⟩, .string ⟨#[104, 114]⟩, .string ⟨#[105, 109, 103]⟩, .string ⟨#[105, 110, 112, 117, 116]⟩, .string ⟨#[108, 105, 110, 107]⟩, .string ⟨#[109, 101, 116, 97]⟩, .string ⟨#[112, 97, 114, 97, 109]⟩, .string ⟨#[115, 111, 117, 114, 99, 101]⟩, .string ⟨#[116, 114, 97, 99, 107]⟩, .string ⟨#[119, 98, 114]⟩] t)) (by decide) (by
      intro i x h
      rw [new_cell]
      show ((voidsB.map Value.string).toArray)[i]? = _
      simp [h])
    rw [voidsB_bl] at this
    exact this)
  go_enter Tryz.func63, Tryz.ntmps63
  go_wp2_with fail
  refine (HH.out _).mono ?_
  rintro e w1 ⟨rfl, rfl⟩
  clear HH
  go_wp2_with fail
  go_ret
  exact ⟨rfl, (Below.refl _ _).alloc (Nat.le_refl _) _⟩

def blocksB : List ByteArray := [⟨#[97, 100, 100, 114, 101, 115, 115]⟩, ⟨#[97, 114, 116, 105, 99, 108, 101]⟩, ⟨#[97, 115, 105, 100, 101]⟩, ⟨#[98, 108, 111, 99, 107, 113, 117, 111, 116, 101]⟩, ⟨#[100, 105, 118]⟩, ⟨#[100, 108]⟩, ⟨#[102, 105, 101, 108, 100, 115, 101, 116]⟩, ⟨#[102, 105, 103, 117, 114, 101]⟩, ⟨#[102, 111, 111, 116, 101, 114]⟩, ⟨#[102, 111, 114, 109]⟩, ⟨#[104, 49]⟩, ⟨#[104, 50]⟩, ⟨#[104, 51]⟩, ⟨#[104, 52]⟩, ⟨#[104, 53]⟩, ⟨#[104, 54]⟩, ⟨#[104, 101, 97, 100, 101, 114]⟩, ⟨#[104, 114]⟩, ⟨#[108, 105]⟩, ⟨#[109, 97, 105, 110]⟩, ⟨#[110, 97, 118]⟩, ⟨#[111, 108]⟩, ⟨#[112]⟩, ⟨#[112, 114, 101]⟩, ⟨#[115, 101, 99, 116, 105, 111, 110]⟩, ⟨#[116, 97, 98, 108, 101]⟩, ⟨#[117, 108]⟩]
theorem blocksB_bl : blocksB.map bl = blocks := rfl
set_option maxRecDepth 100000 in
set_option maxHeartbeats 4000000 in
theorem rblock_any (s : ByteArray) (w : World) :
    Calls Tryz.prog 64 #[.string s] w fun e w' => e = .returned (.bool (decide (bl s ∈ blocks))) ∧ Below w.heap.size w w' := by
  have HH : Hid (∀ t, Calls Tryz.prog 87 #[.slice (some ⟨w.heap.size, 0, none⟩) 27 27, .string s] (w.alloc (.cells #[.string ⟨#[97, 100, 100, 114, 101, 115, 115]⟩, .string ⟨#[97, 114, 116, 105, 99, 108, 101]⟩, .string ⟨#[97, 115, 105, 100, 101]⟩, .string ⟨#[98, 108, 111, 99, 107, 113, 117, 111, 116, 101]⟩, .string ⟨#[100, 105, 118]⟩, .string ⟨#[100, 108]⟩, .string ⟨#[102, 105, 101, 108, 100, 115, 101, 116]⟩, .string ⟨#[102, 105, 103, 117, 114, 101]⟩, .string ⟨#[102, 111, 111, 116, 101, 114]⟩, .string ⟨#[102, 111, 114, 109]⟩, .string ⟨#[104, 49]⟩, .string ⟨#[104, 50]⟩, .string ⟨#[104, 51]⟩, .string ⟨#[104, 52]⟩, .string ⟨#[104, 53]⟩, .string ⟨#[104, 54]⟩, .string ⟨#[104, 101, 97, 100, 101, 114]⟩, .string ⟨#[104, 114]⟩, .string ⟨#[108, 105]⟩, .string ⟨#[109, 97, 105, 110]⟩, .string ⟨#[110, 97, 118]⟩, .string ⟨#[111, 108]⟩, .string ⟨#[112]⟩, .string ⟨#[112, 114, 101]⟩, .string ⟨#[115, 101, 99, 116, 105, 111, 110]⟩, .string ⟨#[116, 97, 98, 108, 101]⟩, .string ⟨#[117, 108]⟩] t)) fun e w' => e = .returned (.bool (decide (bl s ∈ blocks))) ∧ w' = w.alloc (.cells #[.string ⟨#[97, 100, 100, 114, 101, 115, 115]⟩, .string ⟨#[97, 114, 116, 105, 99, 108, 101]⟩, .string ⟨#[97, 115, 105, 100, 101]⟩, .string ⟨#[98, 108, 111, 99, 107, 113, 117, 111, 116, 101]⟩, .string ⟨#[100, 105, 118]⟩, .string ⟨#[100, 108]⟩, .string ⟨#[102, 105, 101, 108, 100, 115, 101, 116]⟩, .string ⟨#[102, 105, 103, 117, 114, 101]⟩, .string ⟨#[102, 111, 111, 116, 101, 114]⟩, .string ⟨#[102, 111, 114, 109]⟩, .string ⟨#[104, 49]⟩, .string ⟨#[104, 50]⟩, .string ⟨#[104, 51]⟩, .string ⟨#[104, 52]⟩, .string ⟨#[104, 53]⟩, .string ⟨#[104, 54]⟩, .string ⟨#[104, 101, 97, 100, 101, 114]⟩, .string ⟨#[104, 114]⟩, .string ⟨#[108, 105]⟩, .string ⟨#[109, 97, 105, 110]⟩, .string ⟨#[110, 97, 118]⟩, .string ⟨#[111, 108]⟩, .string ⟨#[112]⟩, .string ⟨#[112, 114, 101]⟩, .string ⟨#[115, 101, 99, 116, 105, 111, 110]⟩, .string ⟨#[116, 97, 98, 108, 101]⟩, .string ⟨#[117, 108]⟩] t)) := hide (by
    intro t
    have := has_any blocksB w.heap.size 27 s (w.alloc (.cells #[.string ⟨#[97, 100, 100, 114, 101, 115, 115]⟩, .string ⟨#[97, 114, 116, 105, 99, 108, 101]⟩, .string ⟨#[97, 115, 105, 100, 101]⟩, .string ⟨#[98, 108, 111, 99, 107, 113, 117, 111, 116, 101]⟩, .string ⟨#[100, 105, 118]⟩, .string ⟨#[100, 108]⟩, .string ⟨#[102, 105, 101, 108, 100, 115, 101, 116]⟩, .string ⟨#[102, 105, 103, 117, 114, 101]⟩, .string ⟨#[102, 111, 111, 116, 101, 114]⟩, .string ⟨#[102, 111, 114, 109]⟩, .string ⟨#[104, 49]⟩, .string ⟨#[104, 50]⟩, .string ⟨#[104, 51]⟩, .string ⟨#[104, 52]⟩, .string ⟨#[104, 53]⟩, .string ⟨#[104, 54]⟩, .string ⟨#[104, 101, 97, 100, 101, 114]⟩, .string ⟨#[104, 114]⟩, .string ⟨#[108, 105]⟩, .string ⟨#[109, 97, 105, 110]⟩, .string ⟨#[110, 97, 118]⟩, .string ⟨#[111, 108]⟩, .string ⟨#[112]⟩, .string ⟨#[112, 114, 101]⟩, .string ⟨#[115, 101, 99, 116, 105, 111, 110]⟩, .string ⟨#[116, 97, 98, 108, 101]⟩, .string ⟨#[117, 108]⟩] t)) (by decide) (by
      intro i x h
      rw [new_cell]
      show ((blocksB.map Value.string).toArray)[i]? = _
      simp [h])
    rw [blocksB_bl] at this
    exact this)
  go_enter Tryz.func64, Tryz.ntmps64
  go_wp2_with fail
  refine (HH.out _).mono ?_
  rintro e w1 ⟨rfl, rfl⟩
  clear HH
  go_wp2_with fail
  go_ret
  exact ⟨rfl, (Below.refl _ _).alloc (Nat.le_refl _) _⟩
end Go.Proofs.YtbcadeikdmlpoaaGreatDoor.Dm
