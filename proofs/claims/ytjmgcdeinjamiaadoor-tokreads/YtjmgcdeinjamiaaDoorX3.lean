/-
  What the document's digit and body answer.
-/
import Derived.Test.YtjmgcdeinjamiaaDoorX2
namespace Go.Proofs.YtjmgcdeinjamiaaDoor.Doc
open Go.RowKit
open Utf1

/-- A digit's worth of a base; 99: none. -/
def digB (b : Nat) (c : Nat) : Nat := if dig c < b then dig c else 99

set_option maxHeartbeats 1000000 in
theorem digit_any (c : UInt8) (b : Nat) (hb : b = 10 ∨ b = 16) (w : World) :
    Calls Tryd.prog 76 #[.int .u8 (c.toNat : Int), .int .i64 (b : Int)] w fun e w' => e = .returned (.int .i64 (digB b c.toNat : Nat)) ∧ w' = w := by
  have hlt := c.toNat_lt
  obtain ⟨z, hz⟩ : ∃ z : Int, z = (c.toNat : Int) := ⟨_, rfl⟩
  obtain ⟨r, hr⟩ : ∃ r : Int, r = (b : Int) := ⟨_, rfl⟩
  have z0 : 0 ≤ z := by omega
  have z1 : z ≤ 255 := by omega
  rw [← hz, ← hr]
  by_cases h1 : 48 ≤ z ∧ z ≤ 57
  · have HD : Hid (((digB b c.toNat : Nat) : Int) = z - 48) := hide (by
      unfold digB
      have : dig c.toNat = c.toNat - 48 := by unfold dig; rw [if_pos (by omega)]
      rw [this, if_pos (by omega)]
      omega)
    rw [HD.out]
    obtain ⟨h2, h3⟩ := h1
    have n1 : ¬ 97 ≤ z := by omega
    have n2 : ¬ 65 ≤ z := by omega
    have n3 : ¬ r ≤ z - 48 := by omega
    clear hz HD hlt
    clear hr hb
    go_enter Tryd.func76, Tryd.ntmps76
    go_wp2
    go_ret
    exact ⟨rfl, rfl⟩
  by_cases h4 : 97 ≤ z ∧ z ≤ 102
  · obtain ⟨h2, h3⟩ := h4
    have hdv : dig c.toNat = c.toNat - 87 := by unfold dig; rw [if_neg (by omega), if_pos (by omega)]
    have n1 : ¬ z ≤ 57 := by omega
    have n2 : ¬ z ≤ 70 := by omega
    have n0 : 48 ≤ z := by omega
    have n4 : 65 ≤ z := by omega
    rcases hb with rfl | rfl
    · have HD : Hid (((digB 10 c.toNat : Nat) : Int) = 99) := hide (by
        unfold digB
        rw [hdv, if_neg (by omega)]
        rfl)
      rw [HD.out]
      have n3 : r ≤ z - 97 + 10 := by omega
      have r10 : r = 10 := hr
      subst r10
      clear hz HD hlt hdv hr h1
      go_enter Tryd.func76, Tryd.ntmps76
      go_wp2
      go_ret
      exact ⟨rfl, rfl⟩
    · have HD : Hid (((digB 16 c.toNat : Nat) : Int) = z - 97 + 10) := hide (by
        unfold digB
        rw [hdv, if_pos (by omega)]
        omega)
      rw [HD.out]
      have r10 : r = 16 := hr
      subst r10
      have n3 : ¬ 16 ≤ z - 97 + 10 := by omega
      clear hz HD hlt hdv hr h1
      go_enter Tryd.func76, Tryd.ntmps76
      go_wp2
      go_ret
      exact ⟨rfl, rfl⟩
  by_cases h5 : 65 ≤ z ∧ z ≤ 70
  · obtain ⟨h2, h3⟩ := h5
    have hdv : dig c.toNat = c.toNat - 55 := by unfold dig; rw [if_neg (by omega), if_neg (by omega), if_pos (by omega)]
    have n1 : ¬ z ≤ 57 := by omega
    have n2 : ¬ 97 ≤ z := by omega
    have n0 : 48 ≤ z := by omega
    rcases hb with rfl | rfl
    · have HD : Hid (((digB 10 c.toNat : Nat) : Int) = 99) := hide (by
        unfold digB
        rw [hdv, if_neg (by omega)]
        rfl)
      rw [HD.out]
      have r10 : r = 10 := hr
      subst r10
      have n3 : 10 ≤ z - 65 + 10 := by omega
      clear hz HD hlt hdv hr h1 h4
      go_enter Tryd.func76, Tryd.ntmps76
      go_wp2
      go_ret
      exact ⟨rfl, rfl⟩
    · have HD : Hid (((digB 16 c.toNat : Nat) : Int) = z - 65 + 10) := hide (by
        unfold digB
        rw [hdv, if_pos (by omega)]
        omega)
      rw [HD.out]
      have r10 : r = 16 := hr
      subst r10
      have n3 : ¬ 16 ≤ z - 65 + 10 := by omega
      clear hz HD hlt hdv hr h1 h4
      go_enter Tryd.func76, Tryd.ntmps76
      go_wp2
      go_ret
      exact ⟨rfl, rfl⟩
  have hdv : dig c.toNat = 99 := by unfold dig; rw [if_neg (by omega), if_neg (by omega), if_neg (by omega)]
  have HD : Hid (((digB b c.toNat : Nat) : Int) = 99) := hide (by
    unfold digB
    rw [hdv, if_neg (by omega)]
    rfl)
  rw [HD.out]
  have n3 : r ≤ 99 := by omega
  clear hz HD hlt hdv hr hb
  by_cases c1 : 48 ≤ z
  · have c1' : ¬ z ≤ 57 := by omega
    by_cases c2 : 97 ≤ z
    · have c2' : ¬ z ≤ 102 := by omega
      have c3 : 65 ≤ z := by omega
      have c3' : ¬ z ≤ 70 := by omega
      clear h1 h4 h5
      go_enter Tryd.func76, Tryd.ntmps76
      go_wp2
      go_ret
      exact ⟨rfl, rfl⟩
    · by_cases c3 : 65 ≤ z
      · have c3' : ¬ z ≤ 70 := by omega
        clear h1 h4 h5
        go_enter Tryd.func76, Tryd.ntmps76
        go_wp2
        go_ret
        exact ⟨rfl, rfl⟩
      · clear h1 h4 h5
        go_enter Tryd.func76, Tryd.ntmps76
        go_wp2
        go_ret
        exact ⟨rfl, rfl⟩
  · have c2 : ¬ 97 ≤ z := by omega
    have c3 : ¬ 65 ≤ z := by omega
    clear h1 h4 h5
    go_enter Tryd.func76, Tryd.ntmps76
    go_wp2
    go_ret
    exact ⟨rfl, rfl⟩
end Go.Proofs.YtjmgcdeinjamiaaDoor.Doc
