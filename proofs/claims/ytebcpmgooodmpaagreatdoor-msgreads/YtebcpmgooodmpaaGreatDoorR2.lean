/-
  The program's own names that never may stay, its lists that are right, its parts of attributes.
-/
import Derived.Test.YtebcpmgooodmpaaGreatDoorR1
import Derived.Shelf.RegionOpenPlain
namespace Go.Proofs.YtebcpmgooodmpaaGreatDoor
open Go.RowKit
open Utf1 Pol8

theorem ib_some : ∀ (a b : L) (c : UInt8), c ∉ a → Lib.indexByte (a ++ c :: b) c = (a.length : Int)
  | [], b, c, _ => by simp [Lib.indexByte]
  | x :: a, b, c, h => by
    have hx : (x == c) = false := beq_eq_false_iff_ne.2 (fun e => h (by simp [e]))
    have ih := ib_some a b c (fun e => h (by simp [e]))
    rw [List.cons_append, Lib.indexByte, hx, ih]
    have : ((a.length : Int) == -1) = false := beq_eq_false_iff_ne.2 (by omega)
    rw [this]
    simp
theorem ib_none : ∀ (a : L) (c : UInt8), c ∉ a → Lib.indexByte a c = -1
  | [], c, _ => rfl
  | x :: a, c, h => by
    have hx : (x == c) = false := beq_eq_false_iff_ne.2 (fun e => h (by simp [e]))
    have ih := ib_none a c (fun e => h (by simp [e]))
    rw [Lib.indexByte, hx, ih]
    rfl

set_option maxHeartbeats 2000000 in
theorem lcut_none (s : ByteArray) (c : UInt8) (h : c ∉ bl s) (w : World) :
    Calls Tryz.prog 77 #[.string s, .string ⟨#[c]⟩] w fun e w' => e = .returned (.tuple #[.string s, .string ⟨#[]⟩, .bool false]) ∧ w' = w := by
  have c1 := fun w => Tryz.stringslite_Index_one s c w
  rw [ib_none _ c h] at c1
  clear h
  go_enter Tryz.func77, Tryz.ntmps77
  go_wp2_with fail
  refine (c1 _).mono ?_
  rintro e w1 ⟨rfl, rfl⟩
  go_wp2_with fail
  go_ret3
  exact ⟨rfl, rfl⟩
set_option maxHeartbeats 2000000 in
theorem lcut_some (s : ByteArray) (c : UInt8) (A B : ByteArray) (h : bl s = bl A ++ c :: bl B) (hc : c ∉ bl A) (hs : s.size ≤ 100000) (w : World) :
    Calls Tryz.prog 77 #[.string s, .string ⟨#[c]⟩] w fun e w' => e = .returned (.tuple #[.string A, .string B, .bool true]) ∧ Below w.heap.size w w' := by
  have c1 := fun w => Tryz.stringslite_Index_one s c w
  rw [show s.data.toList = _ from h, ib_some _ _ c hc, bl_len] at c1
  have hsz : s.size = A.size + 1 + B.size := by
    have := congrArg List.length h
    rw [bl_len, List.length_append, List.length_cons, bl_len, bl_len] at this
    omega
  have HA : Hid (s.extract 0 A.size = A) := hide (by
    apply ba_ext
    rw [extract_bl, h]
    have : A.size = (bl A).length := (bl_len A).symm
    rw [this]
    simp)
  have HB : Hid (s.extract (A.size + 1) s.size = B) := hide (by
    apply ba_ext
    rw [extract_bl, h, List.drop_append, bl_len]
    rw [List.drop_eq_nil_of_le (by rw [bl_len]; omega)]
    rw [show A.size + 1 - A.size = 1 by omega]
    simp
    rw [List.take_of_length_le (by rw [bl_len]; omega)])
  have k0 : (0 : Int) ≤ (A.size : Int) := by omega
  have k1 : (A.size : Int) ≤ (s.size : Int) := by omega
  have k2 : (0 : Int) ≤ (A.size : Int) + 1 := by omega
  have k3 : (A.size : Int) + 1 ≤ (s.size : Int) := by omega
  have hAs : A.size ≤ 100000 := by omega
  have HS := hide hsz
  clear h hc hsz
  have hA := HA.out
  have hB := HB.out
  go_enter Tryz.func77, Tryz.ntmps77
  go_wp2_with fail
  refine (c1 _).mono ?_
  rintro e w1 ⟨rfl, rfl⟩
  go_wp2_with fail
  go_region
  go_wp2
  go_ret3
  exact ⟨rfl, (Below.refl _ _).drew⟩
set_option maxHeartbeats 2000000 in
theorem cut_none (s : ByteArray) (c : UInt8) (h : c ∉ bl s) (w : World) :
    Calls Tryz.prog 47 #[.string s, .string ⟨#[c]⟩] w fun e w' => e = .returned (.tuple #[.string s, .string ⟨#[]⟩, .bool false]) ∧ Below w.heap.size w w' := by
  have c1 := fun w => lcut_none s c h w
  clear h
  go_enter Tryz.func47, Tryz.ntmps47
  go_wp2_with fail
  refine (c1 _).mono ?_
  rintro e w1 ⟨rfl, rfl⟩
  go_wp2_with fail
  go_ret3
  exact ⟨rfl, Below.refl _ _⟩
set_option maxHeartbeats 2000000 in
theorem cut_some (s : ByteArray) (c : UInt8) (A B : ByteArray) (h : bl s = bl A ++ c :: bl B) (hc : c ∉ bl A) (hs : s.size ≤ 100000) (w : World) :
    Calls Tryz.prog 47 #[.string s, .string ⟨#[c]⟩] w fun e w' => e = .returned (.tuple #[.string A, .string B, .bool true]) ∧ Below w.heap.size w w' := by
  have c1 := fun w => lcut_some s c A B h hc hs w
  clear h hc
  go_enter Tryz.func47, Tryz.ntmps47
  go_wp2_with fail
  refine (c1 _).mono ?_
  rintro e w1 ⟨rfl, hb⟩
  go_wp2_with fail
  go_ret3
  exact ⟨rfl, hb⟩

/-- A name that never may be an attribute's. -/
def nevA (a : L) : Bool := isOn a || decide (a = srcdoc ∨ a = formaction ∨ a = style)
theorem may_is (a : L) : may a = (isWord a && !nevA a) := by
  unfold may nevA
  congr 1
  rw [Bool.not_or]
  congr 1
  by_cases h : a = srcdoc ∨ a = formaction ∨ a = style
  · rw [decide_eq_true h, decide_eq_false (by rintro ⟨h1, h2, h3⟩; rcases h with h | h | h; exact h1 h; exact h2 h; exact h3 h)]
    rfl
  · rw [decide_eq_false h, decide_eq_true (by exact ⟨fun e => h (.inl e), fun e => h (.inr (.inl e)), fun e => h (.inr (.inr e))⟩)]
    rfl
theorem on_pref (l : L) : Lib.hasPrefix l [111, 110] = isOn l := by
  unfold isOn
  rw [← Lib.hasPrefix_of_take]
  by_cases h : l.take 2 = [111, 110]
  · have h2 : 2 ≤ l.length := by
      have := congrArg List.length h
      rw [List.length_take] at this
      simp at this
      omega
    rw [decide_eq_true h, decide_eq_true (by simpa using h2)]
    simpa using h
  · rw [decide_eq_false h]
    exact Bool.and_eq_false_iff.2 (.inr (beq_eq_false_iff_ne.2 h))

set_option maxHeartbeats 8000000 in
theorem pnevA_any (s : ByteArray) (w : World) :
    Calls Tryz.prog 50 #[.string s] w fun e w' => e = .returned (.bool (nevA (bl s))) ∧ w' = w := by
  obtain ⟨R, hR⟩ : ∃ R, R = (nevA (bl s)) := ⟨_, rfl⟩
  rw [← hR]
  have HAL := hide hR
  clear hR
  have f0 := eq_lit s [115, 114, 99, 100, 111, 99]
  by_cases h0 : bl s = [115, 114, 99, 100, 111, 99]
  · rw [decide_eq_true h0] at f0
    have HR : Hid (R = true) := hide (by rw [HAL.out, h0]; decide)
    clear HAL h0
    go_enter Tryz.func50, Tryz.ntmps50
    go_wp2_with fail
    go_ret
    rw [HR.out]
    exact ⟨rfl, rfl⟩
  rw [decide_eq_false h0] at f0
  have f1 := eq_lit s [102, 111, 114, 109, 97, 99, 116, 105, 111, 110]
  by_cases h1 : bl s = [102, 111, 114, 109, 97, 99, 116, 105, 111, 110]
  · rw [decide_eq_true h1] at f1
    have HR : Hid (R = true) := hide (by rw [HAL.out, h1]; decide)
    clear HAL h0 h1
    go_enter Tryz.func50, Tryz.ntmps50
    go_wp2_with fail
    go_ret
    rw [HR.out]
    exact ⟨rfl, rfl⟩
  rw [decide_eq_false h1] at f1
  have f2 := eq_lit s [115, 116, 121, 108, 101]
  by_cases h2 : bl s = [115, 116, 121, 108, 101]
  · rw [decide_eq_true h2] at f2
    have HR : Hid (R = true) := hide (by rw [HAL.out, h2]; decide)
    clear HAL h0 h1 h2
    go_enter Tryz.func50, Tryz.ntmps50
    go_wp2_with fail
    go_ret
    rw [HR.out]
    exact ⟨rfl, rfl⟩
  rw [decide_eq_false h2] at f2
  have HR : Hid (R = isOn (bl s)) := hide (by
    rw [HAL.out]
    unfold nevA
    rw [decide_eq_false (by rintro (h | h | h); exact h0 h; exact h1 h; exact h2 h), Bool.or_false])
  have c1 := fun w => Tryz.strings_HasPrefix s ⟨#[111, 110]⟩ w
  rw [show Lib.hasPrefix s.data.toList (ByteArray.mk #[111, 110]).data.toList = isOn (bl s) from on_pref _] at c1
  clear HAL h0 h1 h2
  go_enter Tryz.func50, Tryz.ntmps50
  go_wp2_with fail
  refine (c1 _).mono ?_
  rintro e w1 ⟨rfl, rfl⟩
  go_wp2_with fail
  go_ret
  rw [HR.out]
  exact ⟨rfl, rfl⟩

set_option maxHeartbeats 8000000 in
theorem pscheme_any (s : ByteArray) (hs : s.size ≤ 9223372036854775807) (w : World) :
    Calls Tryz.prog 56 #[.string s] w fun e w' => e = .returned (.bool (isWord (bl s) && decide (bl s ≠ js ∧ bl s ≠ dat ∧ bl s ≠ vbs))) ∧ w' = w := by
  obtain ⟨R, hR⟩ : ∃ R, R = (isWord (bl s) && decide (bl s ≠ js ∧ bl s ≠ dat ∧ bl s ≠ vbs)) := ⟨_, rfl⟩
  rw [← hR]
  have HAL := hide hR
  clear hR
  have f0 := eq_lit s [106, 97, 118, 97, 115, 99, 114, 105, 112, 116]
  by_cases h0 : bl s = [106, 97, 118, 97, 115, 99, 114, 105, 112, 116]
  · rw [decide_eq_true h0] at f0
    have HR : Hid (R = false) := hide (by rw [HAL.out, h0]; decide)
    clear HAL h0
    go_enter Tryz.func56, Tryz.ntmps56
    go_wp2_with fail
    go_ret
    rw [HR.out]
    exact ⟨rfl, rfl⟩
  rw [decide_eq_false h0] at f0
  have f1 := eq_lit s [100, 97, 116, 97]
  by_cases h1 : bl s = [100, 97, 116, 97]
  · rw [decide_eq_true h1] at f1
    have HR : Hid (R = false) := hide (by rw [HAL.out, h1]; decide)
    clear HAL h0 h1
    go_enter Tryz.func56, Tryz.ntmps56
    go_wp2_with fail
    go_ret
    rw [HR.out]
    exact ⟨rfl, rfl⟩
  rw [decide_eq_false h1] at f1
  have f2 := eq_lit s [118, 98, 115, 99, 114, 105, 112, 116]
  by_cases h2 : bl s = [118, 98, 115, 99, 114, 105, 112, 116]
  · rw [decide_eq_true h2] at f2
    have HR : Hid (R = false) := hide (by rw [HAL.out, h2]; decide)
    clear HAL h0 h1 h2
    go_enter Tryz.func56, Tryz.ntmps56
    go_wp2_with fail
    go_ret
    rw [HR.out]
    exact ⟨rfl, rfl⟩
  rw [decide_eq_false h2] at f2
  have HR : Hid (R = isWord (bl s)) := hide (by
    rw [HAL.out, decide_eq_true (by exact ⟨h0, h1, h2⟩), Bool.and_true])
  have c1 := fun w => pword_any s hs w
  clear HAL h0 h1 h2
  go_enter Tryz.func56, Tryz.ntmps56
  go_wp2_with fail
  refine (c1 _).mono ?_
  rintro e w1 ⟨rfl, rfl⟩
  go_wp2_with fail
  go_ret
  rw [HR.out]
  exact ⟨rfl, rfl⟩

set_option maxHeartbeats 8000000 in
theorem pnever_any (s : ByteArray) (w : World) :
    Calls Tryz.prog 84 #[.string s] w fun e w' => e = .returned (.bool (never (bl s))) ∧ w' = w := by
  obtain ⟨R, hR⟩ : ∃ R, R = (never (bl s)) := ⟨_, rfl⟩
  rw [← hR]
  have HAL := hide hR
  clear hR
  have f0 := eq_lit s [98, 97, 115, 101]
  by_cases h0 : bl s = [98, 97, 115, 101]
  · rw [decide_eq_true h0] at f0
    have HR : Hid (R = true) := hide (by rw [HAL.out, h0]; decide)
    clear HAL h0
    go_enter Tryz.func84, Tryz.ntmps84
    go_wp2_with fail
    go_ret
    rw [HR.out]
    exact ⟨rfl, rfl⟩
  rw [decide_eq_false h0] at f0
  have f1 := eq_lit s [101, 109, 98, 101, 100]
  by_cases h1 : bl s = [101, 109, 98, 101, 100]
  · rw [decide_eq_true h1] at f1
    have HR : Hid (R = true) := hide (by rw [HAL.out, h1]; decide)
    clear HAL h0 h1
    go_enter Tryz.func84, Tryz.ntmps84
    go_wp2_with fail
    go_ret
    rw [HR.out]
    exact ⟨rfl, rfl⟩
  rw [decide_eq_false h1] at f1
  have f2 := eq_lit s [102, 111, 114, 109]
  by_cases h2 : bl s = [102, 111, 114, 109]
  · rw [decide_eq_true h2] at f2
    have HR : Hid (R = true) := hide (by rw [HAL.out, h2]; decide)
    clear HAL h0 h1 h2
    go_enter Tryz.func84, Tryz.ntmps84
    go_wp2_with fail
    go_ret
    rw [HR.out]
    exact ⟨rfl, rfl⟩
  rw [decide_eq_false h2] at f2
  have f3 := eq_lit s [105, 110, 112, 117, 116]
  by_cases h3 : bl s = [105, 110, 112, 117, 116]
  · rw [decide_eq_true h3] at f3
    have HR : Hid (R = true) := hide (by rw [HAL.out, h3]; decide)
    clear HAL h0 h1 h2 h3
    go_enter Tryz.func84, Tryz.ntmps84
    go_wp2_with fail
    go_ret
    rw [HR.out]
    exact ⟨rfl, rfl⟩
  rw [decide_eq_false h3] at f3
  have f4 := eq_lit s [108, 105, 110, 107]
  by_cases h4 : bl s = [108, 105, 110, 107]
  · rw [decide_eq_true h4] at f4
    have HR : Hid (R = true) := hide (by rw [HAL.out, h4]; decide)
    clear HAL h0 h1 h2 h3 h4
    go_enter Tryz.func84, Tryz.ntmps84
    go_wp2_with fail
    go_ret
    rw [HR.out]
    exact ⟨rfl, rfl⟩
  rw [decide_eq_false h4] at f4
  have f5 := eq_lit s [109, 97, 116, 104]
  by_cases h5 : bl s = [109, 97, 116, 104]
  · rw [decide_eq_true h5] at f5
    have HR : Hid (R = true) := hide (by rw [HAL.out, h5]; decide)
    clear HAL h0 h1 h2 h3 h4 h5
    go_enter Tryz.func84, Tryz.ntmps84
    go_wp2_with fail
    go_ret
    rw [HR.out]
    exact ⟨rfl, rfl⟩
  rw [decide_eq_false h5] at f5
  have f6 := eq_lit s [109, 101, 116, 97]
  by_cases h6 : bl s = [109, 101, 116, 97]
  · rw [decide_eq_true h6] at f6
    have HR : Hid (R = true) := hide (by rw [HAL.out, h6]; decide)
    clear HAL h0 h1 h2 h3 h4 h5 h6
    go_enter Tryz.func84, Tryz.ntmps84
    go_wp2_with fail
    go_ret
    rw [HR.out]
    exact ⟨rfl, rfl⟩
  rw [decide_eq_false h6] at f6
  have f7 := eq_lit s [111, 98, 106, 101, 99, 116]
  by_cases h7 : bl s = [111, 98, 106, 101, 99, 116]
  · rw [decide_eq_true h7] at f7
    have HR : Hid (R = true) := hide (by rw [HAL.out, h7]; decide)
    clear HAL h0 h1 h2 h3 h4 h5 h6 h7
    go_enter Tryz.func84, Tryz.ntmps84
    go_wp2_with fail
    go_ret
    rw [HR.out]
    exact ⟨rfl, rfl⟩
  rw [decide_eq_false h7] at f7
  have f8 := eq_lit s [112, 97, 114, 97, 109]
  by_cases h8 : bl s = [112, 97, 114, 97, 109]
  · rw [decide_eq_true h8] at f8
    have HR : Hid (R = true) := hide (by rw [HAL.out, h8]; decide)
    clear HAL h0 h1 h2 h3 h4 h5 h6 h7 h8
    go_enter Tryz.func84, Tryz.ntmps84
    go_wp2_with fail
    go_ret
    rw [HR.out]
    exact ⟨rfl, rfl⟩
  rw [decide_eq_false h8] at f8
  have f9 := eq_lit s [115, 101, 108, 101, 99, 116]
  by_cases h9 : bl s = [115, 101, 108, 101, 99, 116]
  · rw [decide_eq_true h9] at f9
    have HR : Hid (R = true) := hide (by rw [HAL.out, h9]; decide)
    clear HAL h0 h1 h2 h3 h4 h5 h6 h7 h8 h9
    go_enter Tryz.func84, Tryz.ntmps84
    go_wp2_with fail
    go_ret
    rw [HR.out]
    exact ⟨rfl, rfl⟩
  rw [decide_eq_false h9] at f9
  have f10 := eq_lit s [115, 118, 103]
  by_cases h10 : bl s = [115, 118, 103]
  · rw [decide_eq_true h10] at f10
    have HR : Hid (R = true) := hide (by rw [HAL.out, h10]; decide)
    clear HAL h0 h1 h2 h3 h4 h5 h6 h7 h8 h9 h10
    go_enter Tryz.func84, Tryz.ntmps84
    go_wp2_with fail
    go_ret
    rw [HR.out]
    exact ⟨rfl, rfl⟩
  rw [decide_eq_false h10] at f10
  have f11 := eq_lit s [116, 101, 109, 112, 108, 97, 116, 101]
  by_cases h11 : bl s = [116, 101, 109, 112, 108, 97, 116, 101]
  · rw [decide_eq_true h11] at f11
    have HR : Hid (R = true) := hide (by rw [HAL.out, h11]; decide)
    clear HAL h0 h1 h2 h3 h4 h5 h6 h7 h8 h9 h10 h11
    go_enter Tryz.func84, Tryz.ntmps84
    go_wp2_with fail
    go_ret
    rw [HR.out]
    exact ⟨rfl, rfl⟩
  rw [decide_eq_false h11] at f11
  have f12 := eq_lit s [110, 111, 115, 99, 114, 105, 112, 116]
  by_cases h12 : bl s = [110, 111, 115, 99, 114, 105, 112, 116]
  · rw [decide_eq_true h12] at f12
    have HR : Hid (R = true) := hide (by rw [HAL.out, h12]; decide)
    clear HAL h0 h1 h2 h3 h4 h5 h6 h7 h8 h9 h10 h11 h12
    go_enter Tryz.func84, Tryz.ntmps84
    go_wp2_with fail
    go_ret
    rw [HR.out]
    exact ⟨rfl, rfl⟩
  rw [decide_eq_false h12] at f12
  have f13 := eq_lit s [102, 114, 97, 109, 101]
  by_cases h13 : bl s = [102, 114, 97, 109, 101]
  · rw [decide_eq_true h13] at f13
    have HR : Hid (R = true) := hide (by rw [HAL.out, h13]; decide)
    clear HAL h0 h1 h2 h3 h4 h5 h6 h7 h8 h9 h10 h11 h12 h13
    go_enter Tryz.func84, Tryz.ntmps84
    go_wp2_with fail
    go_ret
    rw [HR.out]
    exact ⟨rfl, rfl⟩
  rw [decide_eq_false h13] at f13
  have f14 := eq_lit s [102, 114, 97, 109, 101, 115, 101, 116]
  by_cases h14 : bl s = [102, 114, 97, 109, 101, 115, 101, 116]
  · rw [decide_eq_true h14] at f14
    have HR : Hid (R = true) := hide (by rw [HAL.out, h14]; decide)
    clear HAL h0 h1 h2 h3 h4 h5 h6 h7 h8 h9 h10 h11 h12 h13 h14
    go_enter Tryz.func84, Tryz.ntmps84
    go_wp2_with fail
    go_ret
    rw [HR.out]
    exact ⟨rfl, rfl⟩
  rw [decide_eq_false h14] at f14
  have HR : Hid (R = isRaw (bl s)) := hide (by
    rw [HAL.out]
    unfold never
    rw [decide_eq_false (by
      simp only [neverL, List.mem_cons, List.not_mem_nil, or_false]
      rintro (h | h | h | h | h | h | h | h | h | h | h | h | h | h | h)
      all_goals contradiction), Bool.or_false])
  have c1 := fun w => traw_any s w
  clear HAL h0 h1 h2 h3 h4 h5 h6 h7 h8 h9 h10 h11 h12 h13 h14
  generalize isRaw (bl s) = r at c1 HR
  go_enter Tryz.func84, Tryz.ntmps84
  go_wp2_with fail
  refine (c1 _).mono ?_
  rintro e w1 ⟨⟨x, rfl⟩, rfl⟩
  go_wp2_with fail
  go_ret
  rw [HR.out]
  exact ⟨rfl, rfl⟩

theorem pelemOk_any (s : ByteArray) (hs : s.size ≤ 9223372036854775807) (w : World) :
    Calls Tryz.prog 54 #[.string s] w fun e w' => e = .returned (.bool (isWord (bl s) && !never (bl s))) ∧ w' = w := by
  have c1 := fun w => pword_any s hs w
  have c2 := fun w => pnever_any s w
  generalize isWord (bl s) = r at c1 ⊢
  generalize never (bl s) = t at c2 ⊢
  cases r with
  | false =>
    go_enter Tryz.func54, Tryz.ntmps54
    go_wp2_with fail
    refine (c1 _).mono ?_
    rintro e w1 ⟨rfl, rfl⟩
    go_wp2_with fail
    go_ret
    exact ⟨rfl, rfl⟩
  | true =>
    go_enter Tryz.func54, Tryz.ntmps54
    go_wp2_with fail
    refine (c1 _).mono ?_
    rintro e w1 ⟨rfl, rfl⟩
    go_wp2_with fail
    refine (c2 _).mono ?_
    rintro e w1 ⟨rfl, rfl⟩
    go_wp2_with fail
    go_ret
    exact ⟨rfl, rfl⟩

theorem contains_any (X : ByteArray) (v : Value) (ss : List ByteArray) (hl : ss.length ≤ 100000) (w : World) (hv : StrArg w v ss) :
    Calls Tryz.prog 78 #[v, .string X] w fun e w' => e = .returned (.bool (decide (bl X ∈ ss.map bl))) ∧ w' = w := by
  obtain ⟨p, cap, rfl, -, hc⟩ := hv
  cases ss with
  | nil =>
    refine (Tryz.slices_Contains_string_empty p cap X w).mono ?_
    rintro e w' ⟨rfl, rfl⟩
    exact ⟨by simp, rfl⟩
  | cons y r =>
    obtain ⟨b, off, rfl, _⟩ := hc 0 y rfl
    have hcell : ∀ j, j < (y :: r).length → w.cell? ⟨b, off + j, none⟩ = some (.string ((y :: r).getD j ByteArray.empty)) := by
      intro j hj
      obtain ⟨b', off', e, h⟩ := hc j ((y :: r)[j]) (List.getElem?_eq_getElem hj)
      injection e with e
      injection e with e1 e2
      subst e1
      subst e2
      rw [h, List.getD_eq_getElem?_getD, List.getElem?_eq_getElem hj]
      rfl
    refine (Tryz.slices_Contains_string b off (y :: r).length cap (y :: r) X w (Nat.le_refl _) (by omega) hcell).mono ?_
    rintro e w' ⟨rfl, rfl⟩
    refine ⟨?_, rfl⟩
    congr 2
    rw [List.take_length]
    have h1 := Lib.containsS_iff (y :: r) X
    by_cases hm : X ∈ y :: r
    · rw [h1.2 hm, decide_eq_true (List.mem_map_of_mem hm)]
    · have : Lib.containsS (y :: r) X = false := by
        cases h : Lib.containsS (y :: r) X
        · rfl
        · exact absurd (h1.1 h) hm
      rw [this, decide_eq_false]
      intro hx
      obtain ⟨z, hz, e⟩ := List.mem_map.1 hx
      exact hm (by rw [← ba_ext e]; exact hz)

abbrev pvalL (a0 : Int) (v1 v2 v3 v4 v5 : Value) (a6 a7 a8 : Int) : Value := .agg #[.int .i64 a0, v1, v2, v3, v4, v5, .int .i64 a6, .int .i64 a7, .int .i64 a8]
theorem pelem_any (a0 : Int) (v1 v2 v3 v4 v5 : Value) (a6 a7 a8 : Int) (X : ByteArray) (ss : List ByteArray) (hl : ss.length ≤ 100000) (w : World) (hv : StrArg w v1 ss) :
    Calls Tryz.prog 48 #[pvalL a0 v1 v2 v3 v4 v5 a6 a7 a8, .string X] w fun e w' => e = .returned (.bool (decide (bl X ∈ ss.map bl))) ∧ Below w.heap.size w w' := by
  have C1 : Hid (∀ wx, Below w.heap.size w wx → Calls Tryz.prog 78 #[v1, .string X] wx fun e w' => e = .returned (.bool (decide (bl X ∈ ss.map bl))) ∧ w' = wx) := hide (fun wx h => contains_any X v1 ss hl wx (hv.below h))
  generalize decide (bl X ∈ ss.map bl) = R at C1 ⊢
  obtain ⟨w1, hw1⟩ : ∃ w1, w1 = w.alloc (.cells #[.int .i64 a0, v1, v2, v3, v4, v5, .int .i64 a6, .int .i64 a7, .int .i64 a8] 25) := ⟨_, rfl⟩
  have hb1 : Below w.heap.size w w1 := by rw [hw1]; exact bel_alloc (Below.refl _ _) _
  have hbx : w1.heap[w.heap.size]? = some (.cells #[.int .i64 a0, v1, v2, v3, v4, v5, .int .i64 a6, .int .i64 a7, .int .i64 a8] 25 (0, 0)) := by rw [hw1]; exact new_block _ _ _
  have y1 := tag_cell hbx 1 _ rfl
  have C2 := hide (C1.out w1 hb1)
  have HB := hide hb1
  clear hbx hb1 C1 hv
  go_enter Tryz.func48, Tryz.ntmps48
  go_upto_region 1 with fail
  rw [← hw1]
  clear hw1
  go_wp2_with fail
  refine C2.out.mono ?_
  rintro e w2 ⟨rfl, rfl⟩
  go_wp2_with fail
  go_ret
  exact ⟨rfl, HB.out⟩
end Go.Proofs.YtebcpmgooodmpaaGreatDoor
