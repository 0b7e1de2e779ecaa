/-
  The law SerDeep, walked: it answers true at every number and every name.
-/
import Derived.Test.YtholfdfjapgfbabN11
import Derived.Test.YtholfdfjapgfbabN13
namespace Utf1
/-- Elements of one name within one another, around a text. -/
def nest (n : List UInt8) : Nat → List Nd
  | 0 => [.mk [] [] [120] []]
  | k + 1 => [.mk n [] [] (nest n k)]
theorem nest_nc (n : List UInt8) : ∀ k, ncL (nest n k) = k + 1
  | 0 => rfl
  | k + 1 => by
    show ncN (.mk n [] [] (nest n k)) + 0 = _
    rw [ncN_kids]
    show 1 + ncL (nest n k) + 0 = _
    rw [nest_nc n k]
    omega
theorem nest_dp (n : List UInt8) (hn : n ≠ []) : ∀ k, dpL (nest n k) = k
  | 0 => rfl
  | k + 1 => by
    show max (dpN (.mk n [] [] (nest n k))) 0 = _
    rw [dpN_kids]
    show max (dpL (nest n k) + (if n = [] then 0 else 1)) 0 = _
    rw [nest_dp n hn k, if_neg hn]
    omega
theorem nest_st (n : List UInt8) (hn : n ≠ []) (he : mayE n = true) (hb : n ∉ blocks) (hv : n ∉ voids) : ∀ (k : Nat) (p i : Bool), stL p i false (nest n k) = true
  | 0, p, i => by cases p <;> cases i <;> rfl
  | k + 1, p, i => by
    show (stN p i false (.mk n [] [] (nest n k)) && true) = true
    have hli : n ≠ [108, 105] := fun h => hb (by rw [h]; decide)
    rw [stN_kids, Bool.and_true]
    show (if n = [] then _ else _) = true
    rw [if_neg hn]
    show (true && mayE n && mayA [] && !((p && decide (n ∈ blocks)) || (i && decide (n = [108, 105]))) && (if n ∈ voids then _ else stL (p || decide (n = [112])) (itm i n) false (nest n k))) = true
    rw [he, mayA_nil, decide_eq_false hb, decide_eq_false hli, if_neg hv, nest_st n hn he hb hv k]
    simp
theorem nest_stable (n : List UInt8) (k : Nat) (hk : k ≤ 80) (hn : n ≠ []) (he : mayE n = true) (hb : n ∉ blocks) (hv : n ∉ voids) : stable (nest n k) = decide (k ≤ 64) := by
  unfold stable
  rw [nest_nc, nest_dp n hn, nest_st n hn he hb hv, decide_eq_true (by omega : k + 1 ≤ 2000)]
  simp
theorem mayE_ne {n : List UInt8} (h : mayE n = true) : n ≠ [] := by
  intro e
  rw [e] at h
  exact absurd h (by decide)
end Utf1
namespace Go.Proofs.Ytholfdfjapgfbab
open Go.RowKit
open Utf1

/-- One node around what was built. -/
theorem nat_around {w : World} {v : Value} {ns : List Nd} {n : ByteArray} (hn : n.size ≤ 1000) (h : NAt w v ns) : ∃ p m c, v = .slice p m c ∧ ∀ t, NAt (w.alloc (.cells #[.string n, .slice none 0 0, .string ⟨#[]⟩, v] t)) (.slice (some ⟨w.heap.size, 0, none⟩) 1 1) [.mk (bl n) [] [] ns] := by
  obtain ⟨D, hD⟩ := h
  obtain ⟨p, m, c, rfl⟩ : ∃ p m c, v = .slice p m c := by
    cases D with
    | zero => exact hD.elim
    | succ D =>
      obtain ⟨p, c, h, _⟩ := hD
      exact ⟨_, _, _, h⟩
  refine ⟨p, m, c, rfl, fun t => ?_⟩
  have hb : Below w.heap.size w (w.alloc (.cells #[.string n, .slice none 0 0, .string ⟨#[]⟩, .slice p m c] t)) := (Below.refl _ _).alloc (Nat.le_refl _) _
  refine ⟨D + 1, natD_row (ns := [.mk (bl n) [] [] ns]) (by simp) ?_⟩
  intro i nd hi
  match i, hi with
  | 0, hi =>
    have : Nd.mk (bl n) [] [] ns = nd := by simpa using hi
    subst this
    refine ⟨none, 0, 0, p, m, c, ?_, ?_, ?_, ?_, ⟨?_, Nat.zero_le _⟩, arow_nil _, hD.below hb⟩
    · rw [new_cell]; rfl
    · rw [new_cell]; rfl
    · rw [new_cell]; rfl
    · rw [new_cell]; rfl
    · show (bl n).length ≤ _
      rw [bl_len]
      omega
  | i + 1, hi => simp at hi

set_option maxRecDepth 100000 in
set_option maxHeartbeats 8000000 in
theorem lawSDeep_walk (n : Int) (name : ByteArray) (w : World) (_h1 : (Lit.int .i64 n).wf = true) (hs : name.size ≤ maxLen) :
    Calls Try.prog 3 #[.int .i64 n, .string name] w fun e w' => e = .returned (.bool true) ∧ Below w.heap.size w w' := by
  clear _h1
  unfold maxLen at hs
  have HEL := hide (fun w => relement_any name w hs)
  have HVO := hide (fun w => void_any name w)
  have HBL := hide (fun w => block_any name w)
  obtain ⟨mE, hmE⟩ : ∃ x, x = mayE (bl name) := ⟨_, rfl⟩
  obtain ⟨vd, hvd⟩ : ∃ x, x = decide (bl name ∈ voids) := ⟨_, rfl⟩
  obtain ⟨bk, hbk⟩ : ∃ x, x = decide (bl name ∈ blocks) := ⟨_, rfl⟩
  rw [← hmE] at HEL
  rw [← hvd] at HVO
  rw [← hbk] at HBL
  have HH : Hid (mE = true → vd = false → bk = false → ∀ k, k ≤ 80 → stable (nest (bl name) k) = decide (k ≤ 64)) := hide (by
    intro h1 h2 h3 k hk
    rw [hmE] at h1
    rw [hvd] at h2
    rw [hbk] at h3
    exact nest_stable _ k hk (mayE_ne h1) h1 (of_decide_eq_false h3) (of_decide_eq_false h2))
  clear hmE hvd hbk
  go_enter Try.func3, Try.ntmps3
  go_wp2_with fail
  refine (awake_nst _).mono ?_
  rintro e w1 ⟨rfl, hb1⟩
  have HB1 := hide hb1
  clear hb1
  go_wp2_with fail
  refine (HEL.out _).mono ?_
  rintro e w2 ⟨rfl, hb2⟩
  have HB2 := hide (bel2 HB1.out hb2)
  clear hb2 HEL HB1
  by_cases h1 : n < 1
  · go_wp2_with fail
    all_goals
      go_ret
      exact ⟨rfl, HB2.out⟩
  by_cases h2 : 80 < n
  · go_wp2_with fail
    all_goals
      go_ret
      exact ⟨rfl, HB2.out⟩
  cases mE with
  | false =>
    go_wp2_with fail
    all_goals
      go_ret
      exact ⟨rfl, HB2.out⟩
  | true =>
  by_cases h3 : 50 < name.size
  · go_wp2_with fail
    all_goals
      go_ret
      exact ⟨rfl, HB2.out⟩
  cases vd with
  | true =>
    go_wp2_with fail
    refine (HVO.out _).mono ?_
    rintro e w3 ⟨rfl, rfl⟩
    go_wp2_with fail
    all_goals
      go_ret
      exact ⟨rfl, HB2.out⟩
  | false =>
  cases bk with
  | true =>
    go_wp2_with fail
    refine (HVO.out _).mono ?_
    rintro e w3 ⟨rfl, rfl⟩
    go_wp2_with fail
    refine (HBL.out _).mono ?_
    rintro e w3 ⟨rfl, rfl⟩
    go_wp2_with fail
    all_goals
      go_ret
      exact ⟨rfl, HB2.out⟩
  | false =>
  have HST := hide (HH.out rfl rfl rfl)
  clear HH
  obtain ⟨N, hN⟩ : ∃ N : Nat, n = (N : Int) := ⟨n.toNat, by omega⟩
  subst hN
  have hN8 : N ≤ 80 := by omega
  have hns : name.size ≤ 50 := by omega
  go_wp2_with fail
  refine (HVO.out _).mono ?_
  rintro e w3 ⟨rfl, rfl⟩
  go_wp2_with fail
  refine (HBL.out _).mono ?_
  rintro e w3 ⟨rfl, rfl⟩
  clear HVO HBL
  obtain ⟨w4, hw4⟩ : ∃ w4, w4 = w3.alloc (.cells #[.string ⟨#[]⟩, .slice none 0 0, .string ⟨#[120]⟩, .slice none 0 0] 27) := ⟨_, rfl⟩
  have hb4 : Below w3.heap.size w3 w4 := by rw [hw4]; exact (Below.refl _ _).alloc (Nat.le_refl _) _
  have HK4 : Hid (NAt w4 (.slice (some ⟨w3.heap.size, 0, none⟩) 1 1) (nest (bl name) 0)) := hide (by
    refine ⟨2, natD_row (ns := nest (bl name) 0) (by simp [nest]) ?_⟩
    intro i nd hi
    match i, hi with
    | 0, hi =>
      have : Nd.mk [] [] [120] [] = nd := by simpa [nest] using hi
      subst this
      refine node_leaf (by decide) (by decide) ?_ ?_ ?_ ?_
      · rw [hw4, new_cell]; rfl
      · rw [hw4, new_cell]; rfl
      · rw [hw4, new_cell]; rfl
      · rw [hw4, new_cell]; rfl
    | i + 1, hi => simp [nest] at hi)
  have HB4 := hide (bel2 HB2.out hb4)
  clear hb4 HB2
  go_wp2_with fail
  rw [← hw4]
  clear hw4
  go_loopg [7, 8] N (fun k v7 v8 wr => ∃ i : Nat, i + k = N ∧ v8 = .int .i64 (i : Int) ∧ Hid (NAt wr v7 (nest (bl name) i)) ∧ Hid (Below w.heap.size w wr))
  case atStart => exact ⟨0, by omega, rfl, HK4, HB4⟩
  case round =>
    rename_i v7 v8
    obtain ⟨i, hik, rfl, HK, HB⟩ := hrel
    clear HK4 HB4
    obtain ⟨q, m, c, rfl, hat⟩ := nat_around (n := name) (by omega) HK.out
    have HAT := hide (hat 27)
    clear hat
    by_cases hlt : i < N
    · have HB2 := hide (HB.out.alloc HB.out.size (.cells #[.string name, .slice none 0 0, .string ⟨#[]⟩, .slice q m c] 27))
      clear HK HB HST
      go_wp2_with fail
      go_roundg (gk - 1)
      case measure => omega
      case rel => exact ⟨i + 1, by omega, by first | rfl | simp, HAT, HB2⟩
    · have e : i = N := by omega
      subst e
      have HS := hide (stable_nst wr _ _ HK.out (by rw [nest_nc]; omega))
      rw [HST.out i hN8] at HS
      clear HK HAT HST
      go_wp2_with fail
      refine HS.out.mono ?_
      rintro e w5 ⟨rfl, hb5⟩
      have HB5 := hide (bel2 HB.out hb5)
      clear hb5 HS HB
      go_wp2_with fail
      go_ret
      refine ⟨ret_bool ?_, HB5.out⟩
      by_cases h : i ≤ 64
      · simp [h]
        try omega
      · simp [h]
        try omega
end Go.Proofs.Ytholfdfjapgfbab
