/-
  The law UrlHides, walked: it answers true at every place, number and byte.
-/
import Derived.Test.YtclbkemfgmnfcaaUC
import Derived.Deep.CutRange
import Derived.RegionTactic
import Derived.OpenShut
namespace Go.Proofs.Ytclbkemfgmnfcaa
open Go.RowKit
open Utf1

theorem conv_one (w : World) (B : Nat) (x : UInt8) (h : w.cell? ⟨B, 0, none⟩ = some (.int .u8 (x.toNat : Int))) :
    (convert 30 9 (.slice (some ⟨B, 0, none⟩) 1 1)).run Try.prog w = .ok (.string ⟨#[x]⟩) w := by
  refine run_convert_bytes_back w 30 9 5 ⟨B, 0, none⟩ 1 [x] Try.underlying30 Try.underlying5 Try.underlying9 (fun j hj => ?_)
  match j, hj with
  | 0, _ => exact h
  | j + 1, hj => simp at hj

theorem hides_tail (s : ByteArray) (k : Nat) (x : UInt8) (hx : kept x = false) (B : ByteArray) (hB : bl B = [x]) : scheme (bl (s.extract 0 k ++ B ++ s.extract k s.size)) = scheme (bl s) := by
  apply scheme_bare
  rw [app_bl, app_bl, hB, extract_bl, extract_bl]
  have e1 : List.take (k - 0) (List.drop 0 (bl s)) = (bl s).take k := by simp
  have e2 : List.take (s.size - k) (List.drop k (bl s)) = (bl s).drop k := List.take_of_length_le (by rw [List.length_drop, bl_len]; omega)
  rw [e1, e2]
  exact bare_hidden _ _ _ hx
theorem ahead_tail (s : ByteArray) : scheme (bl ((⟨#[32, 0]⟩ : ByteArray) ++ s)) = scheme (bl s) := by
  apply scheme_bare
  rw [app_bl]
  show bare (32 :: 0 :: bl s) = _
  rw [bare_ahead _ _ (by decide), bare_ahead _ _ (by decide)]

set_option maxHeartbeats 8000000 in
theorem hides_0 (hB : BareC) (hS : SchemeC) (hA : AllowedC) (s : ByteArray) (n c : Int) (w : World) (hs : s.size ≤ 1000) (hn0 : 0 ≤ n) (hn1 : n ≤ 9223372036854775807) (hc : Int.tmod c 3 = 0) (_hc0 : 0 ≤ c) (_hc1 : c ≤ 255) :
    Calls Try.prog 5 #[.string s, .int .i64 n, .int .u8 c] w fun e w' => e = .returned (.bool true) ∧ Below w.heap.size w w' := by
  have ca := awake_any hS hA
  obtain ⟨k, hk, hks⟩ : ∃ k : Nat, Int.tmod n ((s.size : Int) + 1) = (k : Int) ∧ k ≤ s.size := by
    refine ⟨(Int.tmod n ((s.size : Int) + 1)).toNat, ?_, ?_⟩
    · rw [Int.toNat_of_nonneg (Int.tmod_nonneg _ hn0)]
    · have := Int.tmod_lt_of_pos n (show (0 : Int) < (s.size : Int) + 1 by omega)
      have := Int.tmod_nonneg ((s.size : Int) + 1) hn0
      omega
  have c1 := fun w => hS s w (by omega)
  have sx1 : (s.extract 0 k).size ≤ 1000 := by simp; omega
  have sx2 : (s.extract k s.size).size ≤ 1000 := by simp; omega
  have sz : (s.extract 0 k ++ ⟨#[9]⟩ ++ s.extract k s.size).size ≤ 100000 := by
    rw [app_size, app_size]
    show _ + 1 + _ ≤ _
    omega
  have c2 : ∀ w, Calls Try.prog 10 #[.string (s.extract 0 k ++ ⟨#[9]⟩ ++ s.extract k s.size)] w fun e w' => e = .returned (.tuple #[.string (schS (scheme (bl s))), .bool (scheme (bl s)).isSome]) ∧ Below w.heap.size w w' := fun w => by
    have := hS _ w sz
    rw [hides_tail s k 9 (by decide) ⟨#[9]⟩ rfl] at this
    exact this
  have c3 : ∀ w, Calls Try.prog 10 #[.string ((⟨#[32, 0]⟩ : ByteArray) ++ s)] w fun e w' => e = .returned (.tuple #[.string (schS (scheme (bl s))), .bool (scheme (bl s)).isSome]) ∧ Below w.heap.size w w' := fun w => by
    have := hS ((⟨#[32, 0]⟩ : ByteArray) ++ s) w (by rw [app_size]; show 2 + _ ≤ _; omega)
    rw [ahead_tail s] at this
    exact this
  have c4 := fun w => lower_any s w
  have c5 : ∀ w, Calls Try.prog 10 #[.string ⟨(lower (bl s)).toArray⟩] w fun e w' => e = .returned (.tuple #[.string (schS (scheme (bl s))), .bool (scheme (bl s)).isSome]) ∧ Below w.heap.size w w' := fun w => by
    have := hS ⟨(lower (bl s)).toArray⟩ w (by rw [size_mk]; unfold lower; rw [List.length_map, bl_len]; omega)
    rw [show scheme (bl (⟨(lower (bl s)).toArray⟩ : ByteArray)) = scheme (bl s) from scheme_lower _] at this
    exact this
  have c6 := fun w => hB s w (by omega)
  have c7 : ∀ w, Calls Try.prog 12 #[.string ⟨(bare (bl s)).toArray⟩] w fun e w' => e = .returned (.string ⟨(bare (bl s)).toArray⟩) ∧ Below w.heap.size w w' := fun w => by
    have := hB ⟨(bare (bl s)).toArray⟩ w (by rw [size_mk]; have := bare_len (bl s); rw [bl_len] at this; omega)
    rw [show bare (bl (⟨(bare (bl s)).toArray⟩ : ByteArray)) = bare (bl s) from bare_bare _] at this
    exact this
  generalize schS (scheme (bl s)) = A at c1 c2 c3 c5
  generalize (scheme (bl s)).isSome = b at c1 c2 c3 c5
  generalize (⟨(lower (bl s)).toArray⟩ : ByteArray) = L at c4 c5
  generalize (⟨(bare (bl s)).toArray⟩ : ByteArray) = R at c6 c7
  have q1 : (A.toList == A.toList) = true := beq_same rfl
  have q2 : (R.toList == R.toList) = true := beq_same rfl
  have q3 : (b == b) = true := by cases b <;> rfl
  have hcv : ∀ w : World, (convert 30 9 (.slice (some ⟨w.heap.size + 1, 0, none⟩) 1 1)).run Try.prog ((w.alloc (.cells #[.int .u8 9, .int .u8 10, .int .u8 13] 5)).alloc (.cells #[.int .u8 9] 5)).drew = .ok (.string ⟨#[9]⟩) ((w.alloc (.cells #[.int .u8 9, .int .u8 10, .int .u8 13] 5)).alloc (.cells #[.int .u8 9] 5)).drew := fun w => conv_one _ _ 9 (by simp)
  clear hS hA hB sz
  go_enter Try.func5, Try.ntmps5
  go_wp2_with fail
  refine (ca _).mono ?_
  rintro e w1 ⟨rfl, hb1⟩
  go_wp2_with fail
  refine (c1 _).mono ?_
  rintro e w2 ⟨rfl, hb2⟩
  have HB2 := hide (bel2 hb1 hb2)
  clear ca c1 hb1 hb2
  go_wp2_with fail
  have hcv2 := hcv w2
  clear hcv
  go_region
  clear hcv2
  go_wp2_with fail
  refine (c2 _).mono ?_
  rintro e w3 ⟨rfl, hb3⟩
  have HB3 := hide (bel2 (Below.drew (bel_alloc (bel_alloc HB2.out _) _)) hb3)
  clear hb3
  go_wp2_with fail
  refine (c3 _).mono ?_
  rintro e w4 ⟨rfl, hb4⟩
  have HB4 := hide (bel2 HB3.out hb4)
  clear hb4
  go_wp2_with fail
  refine (c4 _).mono ?_
  rintro e w5 ⟨rfl, hb5⟩
  have HB5 := hide (bel2 HB4.out hb5)
  clear hb5
  go_wp2_with fail
  refine (c5 _).mono ?_
  rintro e w6 ⟨rfl, hb6⟩
  have HB6 := hide (bel2 HB5.out hb6)
  clear hb6
  go_wp2_with fail
  refine (c6 _).mono ?_
  rintro e w7 ⟨rfl, hb7⟩
  have HB7 := hide (bel2 HB6.out hb7)
  clear hb7
  go_wp2_with fail
  refine (c7 _).mono ?_
  rintro e w8 ⟨rfl, hb8⟩
  have HB8 := hide (bel2 HB7.out hb8)
  clear hb8
  go_wp2_with fail
  refine (c6 _).mono ?_
  rintro e w9 ⟨rfl, hb9⟩
  go_wp2_with fail
  go_ret
  exact ⟨rfl, bel2 HB8.out hb9⟩

set_option maxHeartbeats 8000000 in
theorem hides_1 (hB : BareC) (hS : SchemeC) (hA : AllowedC) (s : ByteArray) (n c : Int) (w : World) (hs : s.size ≤ 1000) (hn0 : 0 ≤ n) (hn1 : n ≤ 9223372036854775807) (hc : Int.tmod c 3 = 1) (_hc0 : 0 ≤ c) (_hc1 : c ≤ 255) :
    Calls Try.prog 5 #[.string s, .int .i64 n, .int .u8 c] w fun e w' => e = .returned (.bool true) ∧ Below w.heap.size w w' := by
  have ca := awake_any hS hA
  obtain ⟨k, hk, hks⟩ : ∃ k : Nat, Int.tmod n ((s.size : Int) + 1) = (k : Int) ∧ k ≤ s.size := by
    refine ⟨(Int.tmod n ((s.size : Int) + 1)).toNat, ?_, ?_⟩
    · rw [Int.toNat_of_nonneg (Int.tmod_nonneg _ hn0)]
    · have := Int.tmod_lt_of_pos n (show (0 : Int) < (s.size : Int) + 1 by omega)
      have := Int.tmod_nonneg ((s.size : Int) + 1) hn0
      omega
  have c1 := fun w => hS s w (by omega)
  have sx1 : (s.extract 0 k).size ≤ 1000 := by simp; omega
  have sx2 : (s.extract k s.size).size ≤ 1000 := by simp; omega
  have sz : (s.extract 0 k ++ ⟨#[10]⟩ ++ s.extract k s.size).size ≤ 100000 := by
    rw [app_size, app_size]
    show _ + 1 + _ ≤ _
    omega
  have c2 : ∀ w, Calls Try.prog 10 #[.string (s.extract 0 k ++ ⟨#[10]⟩ ++ s.extract k s.size)] w fun e w' => e = .returned (.tuple #[.string (schS (scheme (bl s))), .bool (scheme (bl s)).isSome]) ∧ Below w.heap.size w w' := fun w => by
    have := hS _ w sz
    rw [hides_tail s k 10 (by decide) ⟨#[10]⟩ rfl] at this
    exact this
  have c3 : ∀ w, Calls Try.prog 10 #[.string ((⟨#[32, 0]⟩ : ByteArray) ++ s)] w fun e w' => e = .returned (.tuple #[.string (schS (scheme (bl s))), .bool (scheme (bl s)).isSome]) ∧ Below w.heap.size w w' := fun w => by
    have := hS ((⟨#[32, 0]⟩ : ByteArray) ++ s) w (by rw [app_size]; show 2 + _ ≤ _; omega)
    rw [ahead_tail s] at this
    exact this
  have c4 := fun w => lower_any s w
  have c5 : ∀ w, Calls Try.prog 10 #[.string ⟨(lower (bl s)).toArray⟩] w fun e w' => e = .returned (.tuple #[.string (schS (scheme (bl s))), .bool (scheme (bl s)).isSome]) ∧ Below w.heap.size w w' := fun w => by
    have := hS ⟨(lower (bl s)).toArray⟩ w (by rw [size_mk]; unfold lower; rw [List.length_map, bl_len]; omega)
    rw [show scheme (bl (⟨(lower (bl s)).toArray⟩ : ByteArray)) = scheme (bl s) from scheme_lower _] at this
    exact this
  have c6 := fun w => hB s w (by omega)
  have c7 : ∀ w, Calls Try.prog 12 #[.string ⟨(bare (bl s)).toArray⟩] w fun e w' => e = .returned (.string ⟨(bare (bl s)).toArray⟩) ∧ Below w.heap.size w w' := fun w => by
    have := hB ⟨(bare (bl s)).toArray⟩ w (by rw [size_mk]; have := bare_len (bl s); rw [bl_len] at this; omega)
    rw [show bare (bl (⟨(bare (bl s)).toArray⟩ : ByteArray)) = bare (bl s) from bare_bare _] at this
    exact this
  generalize schS (scheme (bl s)) = A at c1 c2 c3 c5
  generalize (scheme (bl s)).isSome = b at c1 c2 c3 c5
  generalize (⟨(lower (bl s)).toArray⟩ : ByteArray) = L at c4 c5
  generalize (⟨(bare (bl s)).toArray⟩ : ByteArray) = R at c6 c7
  have q1 : (A.toList == A.toList) = true := beq_same rfl
  have q2 : (R.toList == R.toList) = true := beq_same rfl
  have q3 : (b == b) = true := by cases b <;> rfl
  have hcv : ∀ w : World, (convert 30 9 (.slice (some ⟨w.heap.size + 1, 0, none⟩) 1 1)).run Try.prog ((w.alloc (.cells #[.int .u8 9, .int .u8 10, .int .u8 13] 5)).alloc (.cells #[.int .u8 10] 5)).drew = .ok (.string ⟨#[10]⟩) ((w.alloc (.cells #[.int .u8 9, .int .u8 10, .int .u8 13] 5)).alloc (.cells #[.int .u8 10] 5)).drew := fun w => conv_one _ _ 10 (by simp)
  clear hS hA hB sz
  go_enter Try.func5, Try.ntmps5
  go_wp2_with fail
  refine (ca _).mono ?_
  rintro e w1 ⟨rfl, hb1⟩
  go_wp2_with fail
  refine (c1 _).mono ?_
  rintro e w2 ⟨rfl, hb2⟩
  have HB2 := hide (bel2 hb1 hb2)
  clear ca c1 hb1 hb2
  go_wp2_with fail
  have hcv2 := hcv w2
  clear hcv
  go_region
  clear hcv2
  go_wp2_with fail
  refine (c2 _).mono ?_
  rintro e w3 ⟨rfl, hb3⟩
  have HB3 := hide (bel2 (Below.drew (bel_alloc (bel_alloc HB2.out _) _)) hb3)
  clear hb3
  go_wp2_with fail
  refine (c3 _).mono ?_
  rintro e w4 ⟨rfl, hb4⟩
  have HB4 := hide (bel2 HB3.out hb4)
  clear hb4
  go_wp2_with fail
  refine (c4 _).mono ?_
  rintro e w5 ⟨rfl, hb5⟩
  have HB5 := hide (bel2 HB4.out hb5)
  clear hb5
  go_wp2_with fail
  refine (c5 _).mono ?_
  rintro e w6 ⟨rfl, hb6⟩
  have HB6 := hide (bel2 HB5.out hb6)
  clear hb6
  go_wp2_with fail
  refine (c6 _).mono ?_
  rintro e w7 ⟨rfl, hb7⟩
  have HB7 := hide (bel2 HB6.out hb7)
  clear hb7
  go_wp2_with fail
  refine (c7 _).mono ?_
  rintro e w8 ⟨rfl, hb8⟩
  have HB8 := hide (bel2 HB7.out hb8)
  clear hb8
  go_wp2_with fail
  refine (c6 _).mono ?_
  rintro e w9 ⟨rfl, hb9⟩
  go_wp2_with fail
  go_ret
  exact ⟨rfl, bel2 HB8.out hb9⟩

set_option maxHeartbeats 8000000 in
theorem hides_2 (hB : BareC) (hS : SchemeC) (hA : AllowedC) (s : ByteArray) (n c : Int) (w : World) (hs : s.size ≤ 1000) (hn0 : 0 ≤ n) (hn1 : n ≤ 9223372036854775807) (hc : Int.tmod c 3 = 2) (_hc0 : 0 ≤ c) (_hc1 : c ≤ 255) :
    Calls Try.prog 5 #[.string s, .int .i64 n, .int .u8 c] w fun e w' => e = .returned (.bool true) ∧ Below w.heap.size w w' := by
  have ca := awake_any hS hA
  obtain ⟨k, hk, hks⟩ : ∃ k : Nat, Int.tmod n ((s.size : Int) + 1) = (k : Int) ∧ k ≤ s.size := by
    refine ⟨(Int.tmod n ((s.size : Int) + 1)).toNat, ?_, ?_⟩
    · rw [Int.toNat_of_nonneg (Int.tmod_nonneg _ hn0)]
    · have := Int.tmod_lt_of_pos n (show (0 : Int) < (s.size : Int) + 1 by omega)
      have := Int.tmod_nonneg ((s.size : Int) + 1) hn0
      omega
  have c1 := fun w => hS s w (by omega)
  have sx1 : (s.extract 0 k).size ≤ 1000 := by simp; omega
  have sx2 : (s.extract k s.size).size ≤ 1000 := by simp; omega
  have sz : (s.extract 0 k ++ ⟨#[13]⟩ ++ s.extract k s.size).size ≤ 100000 := by
    rw [app_size, app_size]
    show _ + 1 + _ ≤ _
    omega
  have c2 : ∀ w, Calls Try.prog 10 #[.string (s.extract 0 k ++ ⟨#[13]⟩ ++ s.extract k s.size)] w fun e w' => e = .returned (.tuple #[.string (schS (scheme (bl s))), .bool (scheme (bl s)).isSome]) ∧ Below w.heap.size w w' := fun w => by
    have := hS _ w sz
    rw [hides_tail s k 13 (by decide) ⟨#[13]⟩ rfl] at this
    exact this
  have c3 : ∀ w, Calls Try.prog 10 #[.string ((⟨#[32, 0]⟩ : ByteArray) ++ s)] w fun e w' => e = .returned (.tuple #[.string (schS (scheme (bl s))), .bool (scheme (bl s)).isSome]) ∧ Below w.heap.size w w' := fun w => by
    have := hS ((⟨#[32, 0]⟩ : ByteArray) ++ s) w (by rw [app_size]; show 2 + _ ≤ _; omega)
    rw [ahead_tail s] at this
    exact this
  have c4 := fun w => lower_any s w
  have c5 : ∀ w, Calls Try.prog 10 #[.string ⟨(lower (bl s)).toArray⟩] w fun e w' => e = .returned (.tuple #[.string (schS (scheme (bl s))), .bool (scheme (bl s)).isSome]) ∧ Below w.heap.size w w' := fun w => by
    have := hS ⟨(lower (bl s)).toArray⟩ w (by rw [size_mk]; unfold lower; rw [List.length_map, bl_len]; omega)
    rw [show scheme (bl (⟨(lower (bl s)).toArray⟩ : ByteArray)) = scheme (bl s) from scheme_lower _] at this
    exact this
  have c6 := fun w => hB s w (by omega)
  have c7 : ∀ w, Calls Try.prog 12 #[.string ⟨(bare (bl s)).toArray⟩] w fun e w' => e = .returned (.string ⟨(bare (bl s)).toArray⟩) ∧ Below w.heap.size w w' := fun w => by
    have := hB ⟨(bare (bl s)).toArray⟩ w (by rw [size_mk]; have := bare_len (bl s); rw [bl_len] at this; omega)
    rw [show bare (bl (⟨(bare (bl s)).toArray⟩ : ByteArray)) = bare (bl s) from bare_bare _] at this
    exact this
  generalize schS (scheme (bl s)) = A at c1 c2 c3 c5
  generalize (scheme (bl s)).isSome = b at c1 c2 c3 c5
  generalize (⟨(lower (bl s)).toArray⟩ : ByteArray) = L at c4 c5
  generalize (⟨(bare (bl s)).toArray⟩ : ByteArray) = R at c6 c7
  have q1 : (A.toList == A.toList) = true := beq_same rfl
  have q2 : (R.toList == R.toList) = true := beq_same rfl
  have q3 : (b == b) = true := by cases b <;> rfl
  have hcv : ∀ w : World, (convert 30 9 (.slice (some ⟨w.heap.size + 1, 0, none⟩) 1 1)).run Try.prog ((w.alloc (.cells #[.int .u8 9, .int .u8 10, .int .u8 13] 5)).alloc (.cells #[.int .u8 13] 5)).drew = .ok (.string ⟨#[13]⟩) ((w.alloc (.cells #[.int .u8 9, .int .u8 10, .int .u8 13] 5)).alloc (.cells #[.int .u8 13] 5)).drew := fun w => conv_one _ _ 13 (by simp)
  clear hS hA hB sz
  go_enter Try.func5, Try.ntmps5
  go_wp2_with fail
  refine (ca _).mono ?_
  rintro e w1 ⟨rfl, hb1⟩
  go_wp2_with fail
  refine (c1 _).mono ?_
  rintro e w2 ⟨rfl, hb2⟩
  have HB2 := hide (bel2 hb1 hb2)
  clear ca c1 hb1 hb2
  go_wp2_with fail
  have hcv2 := hcv w2
  clear hcv
  go_region
  clear hcv2
  go_wp2_with fail
  refine (c2 _).mono ?_
  rintro e w3 ⟨rfl, hb3⟩
  have HB3 := hide (bel2 (Below.drew (bel_alloc (bel_alloc HB2.out _) _)) hb3)
  clear hb3
  go_wp2_with fail
  refine (c3 _).mono ?_
  rintro e w4 ⟨rfl, hb4⟩
  have HB4 := hide (bel2 HB3.out hb4)
  clear hb4
  go_wp2_with fail
  refine (c4 _).mono ?_
  rintro e w5 ⟨rfl, hb5⟩
  have HB5 := hide (bel2 HB4.out hb5)
  clear hb5
  go_wp2_with fail
  refine (c5 _).mono ?_
  rintro e w6 ⟨rfl, hb6⟩
  have HB6 := hide (bel2 HB5.out hb6)
  clear hb6
  go_wp2_with fail
  refine (c6 _).mono ?_
  rintro e w7 ⟨rfl, hb7⟩
  have HB7 := hide (bel2 HB6.out hb7)
  clear hb7
  go_wp2_with fail
  refine (c7 _).mono ?_
  rintro e w8 ⟨rfl, hb8⟩
  have HB8 := hide (bel2 HB7.out hb8)
  clear hb8
  go_wp2_with fail
  refine (c6 _).mono ?_
  rintro e w9 ⟨rfl, hb9⟩
  go_wp2_with fail
  go_ret
  exact ⟨rfl, bel2 HB8.out hb9⟩

set_option maxHeartbeats 4000000 in
theorem lawHides_walk (hB : BareC) (hS : SchemeC) (hA : AllowedC) (s : ByteArray) (n c : Int) (w : World) (hn : (Lit.int .i64 n).wf = true) (hc : (Lit.int .u8 c).wf = true) :
    Calls Try.prog 5 #[.string s, .int .i64 n, .int .u8 c] w fun e w' => e = .returned (.bool true) ∧ Below w.heap.size w w' := by
  have hb := bounds_u8 hc
  have hb2 := bounds_i64 hn
  by_cases hs : s.size ≤ 1000
  · by_cases hn0 : n < 0
    · have ca := awake_any hS hA
      clear hB hS hA
      go_enter Try.func5, Try.ntmps5
      go_wp2_with fail
      refine (ca _).mono ?_
      rintro e w1 ⟨rfl, hb1⟩
      go_wp2_with fail
      go_ret
      exact ⟨rfl, hb1⟩
    · have hm0 := Int.tmod_nonneg 3 (show 0 ≤ c by omega)
      have hm1 := Int.tmod_lt_of_pos c (show (0 : Int) < 3 by omega)
      rcases (show Int.tmod c 3 = 0 ∨ Int.tmod c 3 = 1 ∨ Int.tmod c 3 = 2 by omega) with h | h | h
      · exact hides_0 hB hS hA s n c w hs (by omega) (by omega) h (by omega) (by omega)
      · exact hides_1 hB hS hA s n c w hs (by omega) (by omega) h (by omega) (by omega)
      · exact hides_2 hB hS hA s n c w hs (by omega) (by omega) h (by omega) (by omega)
  · have ca := awake_any hS hA
    clear hB hS hA
    go_enter Try.func5, Try.ntmps5
    go_wp2_with fail
    refine (ca _).mono ?_
    rintro e w1 ⟨rfl, hb1⟩
    go_wp2_with fail
    go_ret
    exact ⟨rfl, hb1⟩
end Go.Proofs.Ytclbkemfgmnfcaa
