/-
  The law UtfTells, walked: it answers true at every text.
-/
import Derived.Test.YtnjdmkkifdiedaaR3
namespace Go.Proofs.Ytnjdmkkifdiedaa
open Go.RowKit
open Utf1

theorem below6 {w w1 w2 w3 w4 w5 w6 : World} (hb1 : Below w.heap.size w w1) (hb2 : Below w1.heap.size w1 w2) (hb3 : Below w2.heap.size w2 w3) (hb4 : Below w3.heap.size w3 w4) (hb5 : Below w4.heap.size w4 w5) (hb6 : Below w5.heap.size w5 w6) : Below w.heap.size w w6 := by
  have s1 := hb1.size
  have s2 := hb2.size
  have s3 := hb3.size
  have s4 := hb4.size
  have s5 := hb5.size
  exact ((((hb1.trans (hb2.mono s1)).trans (hb3.mono (by omega))).trans (hb4.mono (by omega))).trans (hb5.mono (by omega))).trans (hb6.mono (by omega))

/-- An owned slice's form. -/
theorem own_form {w : World} {B : Nat} {e : TypeId} {sz : Nat} {v : Value} {n : Nat} {xs : List Value} (h : w.ownsRow B e sz v n xs) : ∃ a cap, v = .slice a n cap := by
  rcases h.2 with ⟨rfl, rfl⟩ | ⟨g, cap, cur, rfl, _⟩
  · exact ⟨none, 0, rfl⟩
  · exact ⟨_, cap, rfl⟩

set_option maxHeartbeats 1000000 in
theorem lawTells_walk (s : ByteArray) (w : World) (hs : s.size ≤ maxLen) :
    Calls Try.prog 4 #[.string s] w fun e w' => e = .returned (.bool true) ∧ Below w.heap.size w w' := by
  by_cases hbig : 5000 < s.size
  · unfold maxLen at hs
    go_enter Try.func4, Try.ntmps4
    go_wp2_with (go_at_call 9; refine (awake_any _).mono ?_; rintro e w1 ⟨rfl, hb1⟩)
    go_ret
    exact ⟨rfl, hb1⟩
  · have V1 := hide fun w => valid_any s w
    have V2 := hide fun w => rvalid_any s w (by omega)
    have M1 := hide fun w => many_any s w hs
    have M2 := hide fun w => rchars_any s w (by omega)
    have L1 := hide fun w => lower_any s w
    have L2 := hide fun w => rlower_any s w (by omega)
    have hlen := chs_len (bl s)
    rw [hlen] at M2
    generalize valid (bl s) = V at *
    generalize (runes (bl s)).length = m at *
    generalize (⟨(lower (bl s)).toArray⟩ : ByteArray) = T at *
    generalize strCellsOf (chs (bl s)) = X at *
    clear hlen hs
    go_enter Try.func4, Try.ntmps4
    go_wp2_with fail
    refine (awake_any _).mono ?_
    rintro e w1 ⟨rfl, hb1⟩
    go_wp2_with fail
    refine (V1.out _).mono ?_
    rintro e w2 ⟨rfl, hb2⟩
    go_wp2_with fail
    refine (V2.out _).mono ?_
    rintro e w2' ⟨rfl, rfl⟩
    go_wp2_with fail
    refine (M1.out _).mono ?_
    rintro e w3 ⟨rfl, hb3⟩
    go_wp2_with fail
    refine (M2.out _).mono ?_
    rintro e w4 ⟨v, rfl, hown, hb4⟩
    obtain ⟨a, cap, rfl⟩ := own_form hown
    clear hown
    go_wp2_with fail
    refine (L1.out _).mono ?_
    rintro e w5 ⟨rfl, hb5⟩
    go_wp2_with fail
    refine (L2.out _).mono ?_
    rintro e w6 ⟨rfl, hb6⟩
    go_wp2_with fail
    go_ret
    exact ⟨ret_bool (by simp), below6 hb1 hb2 hb3 hb4 hb5 hb6⟩
end Go.Proofs.Ytnjdmkkifdiedaa
