/-
  What refs.numbered and refs.standsFor answer.
-/
import Derived.Test.YtholfdfjapgfbaaGreatDoorP3
namespace Go.Proofs.YtholfdfjapgfbaaGreatDoor
open Go.RowKit
open Utf1

theorem numE_bound (b : Nat) (hb : b = 10 ∨ b = 16) (l : List UInt8) (hl : l.length ≤ 7) (n : Nat) (h : numE b l = some n) : n ≤ 268435455 := by
  unfold numE at h
  split at h
  · cases h
  · have h1 := num_bound b l 0 n h
    have h2 : b ^ l.length ≤ 16 ^ 7 := by
      refine Nat.le_trans (Nat.pow_le_pow_right (by omega) hl) (Nat.pow_le_pow_left (by omega) 7)
    simp only [Nat.zero_add, Nat.one_mul] at h1
    omega

set_option maxHeartbeats 1000000 in
theorem numbered_any (b : Nat) (hb : b = 10 ∨ b = 16) (t : ByteArray) (hmax : t.size ≤ 7) (w : World) (hg : Glob w) :
    Calls Tryz.prog 70 #[.string t, .int .i64 (b : Int)] w fun e w' => e = .returned (optS (numS b (bl t))) ∧ Below w.heap.size w w' := by
  cases hn : numE b (bl t) with
  | none =>
    have hp := parseU_none b hb t hmax hn
    have HR : Hid (numS b (bl t) = none) := hide (by rw [numS_numE, hn]; rfl)
    clear hn hb
    obtain ⟨c, hc⟩ : ∃ c : Int, c = (b : Int) := ⟨_, rfl⟩
    rw [← hc] at hp ⊢
    clear hc
    go_enter Tryz.func70, Tryz.ntmps70
    go_wp2_with fail
    refine (hp _ hg).mono ?_
    rintro e w1 ⟨N, rfl, hb1⟩
    go_wp2_with fail
    go_ret2
    rw [HR.out]
    exact ⟨rfl, hb1⟩
  | some n =>
    have hp := parseU_some b hb t hmax n hn
    have HR : Hid (numS b (bl t) = some (chN n)) := hide (by rw [numS_numE, hn]; rfl)
    have hbd := numE_bound b hb (bl t) (by rw [bl_len]; exact hmax) n hn
    have hFF := encode_er 65533 scalar_err
    have hFF : Utf8.encode 65533 = ⟨(er 65533).toArray⟩ := hFF
    have hen := encode_er n
    clear hn hb hg
    obtain ⟨c, hc⟩ : ∃ c : Int, c = (b : Int) := ⟨_, rfl⟩
    rw [← hc] at hp ⊢
    clear hc
    obtain ⟨z, hz⟩ : ∃ z : Int, z = (n : Int) := ⟨_, rfl⟩
    rw [← hz] at hp hen
    have z0 : 0 ≤ z := by omega
    have z1 : z ≤ 268435455 := by omega
    by_cases hbad : n = 0 ∨ n = 13 ∨ (55296 ≤ n ∧ n ≤ 57343) ∨ 1114111 < n
    · have HC : Hid (chN n = 65533) := hide (by unfold chN; rw [if_pos hbad])
      have hbz : z = 0 ∨ z = 13 ∨ (55296 ≤ z ∧ z ≤ 57343) ∨ 1114111 < z := by omega
      clear hbad hz hbd hen
      rcases hbz with rfl | rfl | ⟨h1, h2⟩ | h1
      · go_enter Tryz.func70, Tryz.ntmps70
        go_wp2_with fail
        refine (hp _).mono ?_
        rintro e w1 ⟨rfl, hb1⟩
        go_wp2_with fail
        go_ret2
        rw [HR.out, HC.out]
        exact ⟨rfl, hb1⟩
      · go_enter Tryz.func70, Tryz.ntmps70
        go_wp2_with fail
        refine (hp _).mono ?_
        rintro e w1 ⟨rfl, hb1⟩
        go_wp2_with fail
        go_ret2
        rw [HR.out, HC.out]
        exact ⟨rfl, hb1⟩
      · have e0 : (z == 0) = false := beq_eq_false_iff_ne.2 (by omega)
        have e1 : (z == 13) = false := beq_eq_false_iff_ne.2 (by omega)
        go_enter Tryz.func70, Tryz.ntmps70
        go_wp2_with fail
        refine (hp _).mono ?_
        rintro e w1 ⟨rfl, hb1⟩
        go_wp2_with fail
        go_ret2
        rw [HR.out, HC.out]
        exact ⟨rfl, hb1⟩
      · have e0 : (z == 0) = false := beq_eq_false_iff_ne.2 (by omega)
        have e1 : (z == 13) = false := beq_eq_false_iff_ne.2 (by omega)
        have e2 : 55296 ≤ z := by omega
        have e3 : ¬ z ≤ 57343 := by omega
        go_enter Tryz.func70, Tryz.ntmps70
        go_wp2_with fail
        refine (hp _).mono ?_
        rintro e w1 ⟨rfl, hb1⟩
        go_wp2_with fail
        go_ret2
        rw [HR.out, HC.out]
        exact ⟨rfl, hb1⟩
    · have HC : Hid (chN n = n) := hide (by unfold chN; rw [if_neg hbad])
      have hen := hen (by unfold Scalar; omega)
      have e0 : (z == 0) = false := beq_eq_false_iff_ne.2 (by omega)
      have e1 : (z == 13) = false := beq_eq_false_iff_ne.2 (by omega)
      have e2 : ¬ (55296 ≤ z ∧ z ≤ 57343) := by omega
      have e3 : ¬ 1114111 < z := by omega
      clear hbad hz hbd
      by_cases e4 : 55296 ≤ z
      · have e5 : ¬ z ≤ 57343 := by omega
        clear e2
        go_enter Tryz.func70, Tryz.ntmps70
        go_wp2_with fail
        refine (hp _).mono ?_
        rintro e w1 ⟨rfl, hb1⟩
        go_wp2_with fail
        go_ret2
        rw [HR.out, HC.out]
        exact ⟨rfl, hb1⟩
      · clear e2
        go_enter Tryz.func70, Tryz.ntmps70
        go_wp2_with fail
        refine (hp _).mono ?_
        rintro e w1 ⟨rfl, hb1⟩
        go_wp2_with fail
        go_ret2
        rw [HR.out, HC.out]
        exact ⟨rfl, hb1⟩
end Go.Proofs.YtholfdfjapgfbaaGreatDoor
