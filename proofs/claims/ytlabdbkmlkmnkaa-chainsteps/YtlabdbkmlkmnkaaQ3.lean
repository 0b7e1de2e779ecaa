/-
  The document's own Raw and Never, and tok.Raw.
-/
import Derived.Test.YtlabdbkmlkmnkaaQ2
namespace Go.Proofs.Ytlabdbkmlkmnkaa
open Go.RowKit
open Utf1 Pol8

def rawB : List ByteArray := [⟨#[115, 99, 114, 105, 112, 116]⟩, ⟨#[115, 116, 121, 108, 101]⟩, ⟨#[120, 109, 112]⟩, ⟨#[105, 102, 114, 97, 109, 101]⟩, ⟨#[110, 111, 101, 109, 98, 101, 100]⟩, ⟨#[110, 111, 102, 114, 97, 109, 101, 115]⟩, ⟨#[112, 108, 97, 105, 110, 116, 101, 120, 116]⟩]
def nevB : List ByteArray := [⟨#[98, 97, 115, 101]⟩, ⟨#[101, 109, 98, 101, 100]⟩, ⟨#[102, 111, 114, 109]⟩, ⟨#[105, 110, 112, 117, 116]⟩, ⟨#[108, 105, 110, 107]⟩, ⟨#[109, 97, 116, 104]⟩, ⟨#[109, 101, 116, 97]⟩, ⟨#[111, 98, 106, 101, 99, 116]⟩, ⟨#[112, 97, 114, 97, 109]⟩, ⟨#[115, 101, 108, 101, 99, 116]⟩, ⟨#[115, 118, 103]⟩, ⟨#[116, 101, 109, 112, 108, 97, 116, 101]⟩, ⟨#[110, 111, 115, 99, 114, 105, 112, 116]⟩, ⟨#[102, 114, 97, 109, 101]⟩, ⟨#[102, 114, 97, 109, 101, 115, 101, 116]⟩]
theorem rawB_is : rawB.map bl = rawL := rfl
theorem nevB_is : nevB.map bl = neverL := rfl
theorem cell_row (w : World) (l : List ByteArray) (t : TypeId) (i : Nat) (y : ByteArray) (h : l[i]? = some y) : (w.alloc (.cells (strV l).toArray t)).cell? ⟨w.heap.size, i, none⟩ = some (.string y) := by
  obtain ⟨p, c, e, -, hc⟩ := strArg_row w l t
  obtain ⟨b, off, e2, h2⟩ := hc i y h
  injection e with e1
  rw [← e1] at e2
  injection e2 with e2
  injection e2 with e3 e4
  rw [← e3, ← e4, Nat.zero_add] at h2
  exact h2
theorem raw_in {s : L} (h : s ∈ rawL) : isRaw s = true := by
  unfold isRaw
  rw [decide_eq_true h]
  rfl
theorem raw_out {s : L} (h : s ∉ rawL) : isRaw s = decide (s ∈ rcL) := by
  unfold isRaw
  rw [decide_eq_false h]
  rfl

set_option maxRecDepth 100000 in
set_option maxHeartbeats 8000000 in
theorem rraw_any (s : ByteArray) (w : World) :
    Calls Try.prog 62 #[.string s] w fun e w' => (∃ x, e = .returned (.tuple #[.bool (isRaw (bl s)), .bool x])) ∧ Below w.heap.size w w' := by
  obtain ⟨R, hR⟩ : ∃ R, R = isRaw (bl s) := ⟨_, rfl⟩
  rw [← hR]
  have HAL := hide hR
  clear hR
  obtain ⟨w1, hw1⟩ : ∃ w1, w1 = w.alloc (.cells (strV rawB).toArray 9) := ⟨_, rfl⟩
  have HCELL : Hid (∀ i y, rawB[i]? = some y → w1.cell? ⟨w.heap.size, i, none⟩ = some (.string y)) := hide (by rw [hw1]; exact cell_row w rawB 9)
  have HB1 : Hid (Below w.heap.size w w1) := hide (by rw [hw1]; exact bel_alloc (Below.refl _ _) _)
  go_enter Try.func62, Try.ntmps62
  go_upto_region 2 with fail
  rw [show w.alloc (.cells #[.string ⟨#[115, 99, 114, 105, 112, 116]⟩, .string ⟨#[115, 116, 121, 108, 101]⟩, .string ⟨#[120, 109, 112]⟩, .string ⟨#[105, 102, 114, 97, 109, 101]⟩, .string ⟨#[110, 111, 101, 109, 98, 101, 100]⟩, .string ⟨#[110, 111, 102, 114, 97, 109, 101, 115]⟩, .string ⟨#[112, 108, 97, 105, 110, 116, 101, 120, 116]⟩] 9) = w1 from hw1.symm]
  clear hw1
  go_wp2_with fail
  go_loopg [5] 7 (fun g v wx => wx = w1 ∧ ∃ i : Nat, i + g = 7 ∧ v = .int .i64 (i : Int) ∧ Hid (bl s ∉ (rawB.take i).map bl))
  case atStart => exact ⟨rfl, 0, by omega, rfl, hide (by simp)⟩
  case round =>
    obtain ⟨rfl, i, hi, rfl, HU⟩ := hrel
    by_cases hlt : i < 7
    · obtain ⟨y, hge⟩ : ∃ y, rawB[i]? = some y := ⟨_, List.getElem?_eq_getElem (by show i < 7; exact hlt)⟩
      have c0 := HCELL.out i y hge
      have q0 := eq_two y s
      have HMS := hide (mem_step (X := s) hge)
      have HMM : Hid (bl y ∈ rawL) := hide (by rw [← rawB_is]; exact List.mem_map_of_mem (List.mem_of_getElem? hge))
      clear hge
      by_cases hy : bl y = bl s
      · rw [decide_eq_true hy] at q0
        have HR : Hid (R = true) := hide (by
          rw [HAL.out]
          apply raw_in
          rw [← hy]
          exact HMM.out)
        clear hy HU HMS
        go_wp2_with fail
        go_ret2
        rw [HR.out]
        exact ⟨⟨_, rfl⟩, HB1.out⟩
      · rw [decide_eq_false hy] at q0
        have HU2 : Hid (bl s ∉ (rawB.take (i + 1)).map bl) := hide (fun h => (HMS.out.1 h).elim HU.out hy)
        clear hy HU HMS
        go_wp2_with fail
        go_roundg (gk - 1)
        case measure => omega
        case rel => exact ⟨rfl, i + 1, by omega, by first | rfl | simp, HU2⟩
    · have HR : Hid (R = decide (bl s ∈ rcL)) := hide (by
        rw [HAL.out]
        apply raw_out
        have := HU.out
        rw [List.take_of_length_le (by show 7 ≤ i; omega), rawB_is] at this
        exact this)
      have e1 := eq_lit s [116, 101, 120, 116, 97, 114, 101, 97]
      have e2 := eq_lit s [116, 105, 116, 108, 101]
      clear HU HAL
      by_cases h1 : bl s = [116, 101, 120, 116, 97, 114, 101, 97]
      · rw [decide_eq_true h1] at e1
        have HR2 : Hid (R = true) := hide (by rw [HR.out, h1]; rfl)
        clear h1 e2 HR
        go_wp2_with fail
        go_ret2
        rw [HR2.out]
        exact ⟨⟨_, rfl⟩, HB1.out⟩
      · rw [decide_eq_false h1] at e1
        by_cases h2 : bl s = [116, 105, 116, 108, 101]
        · rw [decide_eq_true h2] at e2
          have HR2 : Hid (R = true) := hide (by rw [HR.out, h2]; rfl)
          clear h1 h2 HR
          go_wp2_with fail
          go_ret2
          rw [HR2.out]
          exact ⟨⟨_, rfl⟩, HB1.out⟩
        · rw [decide_eq_false h2] at e2
          have HR2 : Hid (R = false) := hide (by
            rw [HR.out]
            apply decide_eq_false
            intro hm
            rcases List.mem_cons.1 hm with hm | hm
            · exact h1 hm
            · exact h2 (List.mem_singleton.1 hm))
          clear h1 h2 HR
          go_wp2_with fail
          go_ret2
          rw [HR2.out]
          exact ⟨⟨_, rfl⟩, HB1.out⟩

set_option maxRecDepth 100000 in
set_option maxHeartbeats 8000000 in
theorem rnever_any (s : ByteArray) (w : World) :
    Calls Try.prog 51 #[.string s] w fun e w' => e = .returned (.bool (never (bl s))) ∧ Below w.heap.size w w' := by
  have CR := hide (fun w => rraw_any s w)
  have HNV : Hid (never (bl s) = (isRaw (bl s) || decide (bl s ∈ nevB.map bl))) := hide rfl
  rw [HNV.out]
  have CH : Hid (∀ w : World, Calls Try.prog 53 #[.slice (some ⟨w.heap.size, 0, none⟩) 15 15, .string s] (w.alloc (.cells #[.string ⟨#[98, 97, 115, 101]⟩, .string ⟨#[101, 109, 98, 101, 100]⟩, .string ⟨#[102, 111, 114, 109]⟩, .string ⟨#[105, 110, 112, 117, 116]⟩, .string ⟨#[108, 105, 110, 107]⟩, .string ⟨#[109, 97, 116, 104]⟩, .string ⟨#[109, 101, 116, 97]⟩, .string ⟨#[111, 98, 106, 101, 99, 116]⟩, .string ⟨#[112, 97, 114, 97, 109]⟩, .string ⟨#[115, 101, 108, 101, 99, 116]⟩, .string ⟨#[115, 118, 103]⟩, .string ⟨#[116, 101, 109, 112, 108, 97, 116, 101]⟩, .string ⟨#[110, 111, 115, 99, 114, 105, 112, 116]⟩, .string ⟨#[102, 114, 97, 109, 101]⟩, .string ⟨#[102, 114, 97, 109, 101, 115, 101, 116]⟩] 9)) fun e w' => e = .returned (.bool (decide (bl s ∈ nevB.map bl))) ∧ w' = w.alloc (.cells #[.string ⟨#[98, 97, 115, 101]⟩, .string ⟨#[101, 109, 98, 101, 100]⟩, .string ⟨#[102, 111, 114, 109]⟩, .string ⟨#[105, 110, 112, 117, 116]⟩, .string ⟨#[108, 105, 110, 107]⟩, .string ⟨#[109, 97, 116, 104]⟩, .string ⟨#[109, 101, 116, 97]⟩, .string ⟨#[111, 98, 106, 101, 99, 116]⟩, .string ⟨#[112, 97, 114, 97, 109]⟩, .string ⟨#[115, 101, 108, 101, 99, 116]⟩, .string ⟨#[115, 118, 103]⟩, .string ⟨#[116, 101, 109, 112, 108, 97, 116, 101]⟩, .string ⟨#[110, 111, 115, 99, 114, 105, 112, 116]⟩, .string ⟨#[102, 114, 97, 109, 101]⟩, .string ⟨#[102, 114, 97, 109, 101, 115, 101, 116]⟩] 9)) := hide (fun w => rhas_any _ nevB s (by decide) _ (strArg_row w nevB 9))
  generalize decide (bl s ∈ nevB.map bl) = c at CH
  cases hr : isRaw (bl s) with
  | true =>
    rw [hr] at CR
    clear hr HNV CH
    go_enter Try.func51, Try.ntmps51
    go_wp2_with fail
    refine (CR.out _).mono ?_
    rintro e w1 ⟨⟨x, rfl⟩, hb1⟩
    go_wp2_with fail
    go_ret
    exact ⟨rfl, hb1⟩
  | false =>
    rw [hr] at CR
    clear hr HNV
    go_enter Try.func51, Try.ntmps51
    go_wp2_with fail
    refine (CR.out _).mono ?_
    rintro e w1 ⟨⟨x, rfl⟩, hb1⟩
    go_wp2_with fail
    refine (CH.out _).mono ?_
    rintro e w2 ⟨rfl, rfl⟩
    go_wp2_with fail
    go_ret
    exact ⟨rfl, bel_alloc hb1 _⟩

end Go.Proofs.Ytlabdbkmlkmnkaa
