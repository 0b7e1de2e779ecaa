/-
  What the document's own functions of layer 1 answer, in the words of the plain mathematics: where a right sequence begins.
-/
import Derived.Test.YtholfdfjapgfbaaV1
namespace Go.Proofs.Ytholfdfjapgfbaa
open Go.RowKit
open Utf1

theorem goes_yes (c : Int) (w : World) (h0 : 128 ≤ c) (h1 : c ≤ 191) :
    Calls Try.prog 35 #[.int .u8 c] w fun e w' => e = .returned (.bool true) ∧ w = w' := by
  go_enter Try.func35, Try.ntmps35
  go_wp2
  go_ret
  exact ⟨ret_bool (by simp), rfl⟩
theorem goes_no (c : Int) (w : World) (h : c < 128 ∨ 191 < c) :
    Calls Try.prog 35 #[.int .u8 c] w fun e w' => e = .returned (.bool false) ∧ w = w' := by
  by_cases h1 : c < 128
  · have t : decide (128 ≤ c) = false := by simp; omega
    go_enter Try.func35, Try.ntmps35
    go_wp2
    go_ret
    exact ⟨rfl, rfl⟩
  · have t : decide (128 ≤ c) = true := by simp; omega
    have t : decide (c ≤ 191) = false := by simp; omega
    go_enter Try.func35, Try.ntmps35
    go_wp2
    go_ret
    exact ⟨rfl, rfl⟩

set_option linter.unusedVariables false
theorem right_one (s : ByteArray) (pos : Nat) (a b c d : Int) (w : World) (hs : s.size ≤ 100000) (hp : pos < s.size) (h : a < 128)
    (i0 : ∀ w, (Instr.index 9 (.string s) (.int .i64 (pos : Int))).run Try.prog w = .ok (.int .u8 a) w) :
    Calls Try.prog 31 #[.string s, .int .i64 pos] w fun e w' => e = .returned (.int .i64 1) ∧ w = w' := by
  go_enter Try.func31, Try.ntmps31
  go_wp2
  go_ret
  exact ⟨rfl, rfl⟩

theorem right_low (s : ByteArray) (pos : Nat) (a b c d : Int) (w : World) (hs : s.size ≤ 100000) (hp : pos < s.size) (h : 128 ≤ a) (h1 : a < 194)
    (i0 : ∀ w, (Instr.index 9 (.string s) (.int .i64 (pos : Int))).run Try.prog w = .ok (.int .u8 a) w) :
    Calls Try.prog 31 #[.string s, .int .i64 pos] w fun e w' => e = .returned (.int .i64 0) ∧ w = w' := by
  go_enter Try.func31, Try.ntmps31
  go_wp2
  go_ret
  exact ⟨rfl, rfl⟩

theorem right_high (s : ByteArray) (pos : Nat) (a b c d : Int) (w : World) (hs : s.size ≤ 100000) (hp : pos < s.size) (h : 244 < a)
    (i0 : ∀ w, (Instr.index 9 (.string s) (.int .i64 (pos : Int))).run Try.prog w = .ok (.int .u8 a) w) :
    Calls Try.prog 31 #[.string s, .int .i64 pos] w fun e w' => e = .returned (.int .i64 0) ∧ w = w' := by
  go_enter Try.func31, Try.ntmps31
  go_wp2
  go_ret
  exact ⟨rfl, rfl⟩

theorem right_two_short (s : ByteArray) (pos : Nat) (a b c d : Int) (w : World) (hs : s.size ≤ 100000) (hp : pos < s.size) (ha0 : 194 ≤ a) (ha1 : a ≤ 223) (hn : s.size < pos + 2)
    (i0 : ∀ w, (Instr.index 9 (.string s) (.int .i64 (pos : Int))).run Try.prog w = .ok (.int .u8 a) w) :
    Calls Try.prog 31 #[.string s, .int .i64 pos] w fun e w' => e = .returned (.int .i64 0) ∧ w = w' := by
  go_enter Try.func31, Try.ntmps31
  go_wp2
  go_ret
  exact ⟨rfl, rfl⟩

theorem right_two_lo (s : ByteArray) (pos : Nat) (a b c d : Int) (w : World) (hs : s.size ≤ 100000) (hp : pos < s.size) (ha0 : 194 ≤ a) (ha1 : a ≤ 223) (hn : pos + 2 ≤ s.size) (hb : b < 128)
    (i0 : ∀ w, (Instr.index 9 (.string s) (.int .i64 (pos : Int))).run Try.prog w = .ok (.int .u8 a) w) (i1 : ∀ w, (Instr.index 9 (.string s) (.int .i64 ((pos : Int) + 1))).run Try.prog w = .ok (.int .u8 b) w) :
    Calls Try.prog 31 #[.string s, .int .i64 pos] w fun e w' => e = .returned (.int .i64 0) ∧ w = w' := by
  go_enter Try.func31, Try.ntmps31
  go_wp2
  go_ret
  exact ⟨rfl, rfl⟩

theorem right_two_hi (s : ByteArray) (pos : Nat) (a b c d : Int) (w : World) (hs : s.size ≤ 100000) (hp : pos < s.size) (ha0 : 194 ≤ a) (ha1 : a ≤ 223) (hn : pos + 2 ≤ s.size) (hb0 : 128 ≤ b) (hb : 191 < b)
    (i0 : ∀ w, (Instr.index 9 (.string s) (.int .i64 (pos : Int))).run Try.prog w = .ok (.int .u8 a) w) (i1 : ∀ w, (Instr.index 9 (.string s) (.int .i64 ((pos : Int) + 1))).run Try.prog w = .ok (.int .u8 b) w) :
    Calls Try.prog 31 #[.string s, .int .i64 pos] w fun e w' => e = .returned (.int .i64 0) ∧ w = w' := by
  go_enter Try.func31, Try.ntmps31
  go_wp2
  go_ret
  exact ⟨rfl, rfl⟩

theorem right_two_ok (s : ByteArray) (pos : Nat) (a b c d : Int) (w : World) (hs : s.size ≤ 100000) (hp : pos < s.size) (ha0 : 194 ≤ a) (ha1 : a ≤ 223) (hn : pos + 2 ≤ s.size) (hb0 : 128 ≤ b) (hb1 : b ≤ 191)
    (i0 : ∀ w, (Instr.index 9 (.string s) (.int .i64 (pos : Int))).run Try.prog w = .ok (.int .u8 a) w) (i1 : ∀ w, (Instr.index 9 (.string s) (.int .i64 ((pos : Int) + 1))).run Try.prog w = .ok (.int .u8 b) w) :
    Calls Try.prog 31 #[.string s, .int .i64 pos] w fun e w' => e = .returned (.int .i64 2) ∧ w = w' := by
  go_enter Try.func31, Try.ntmps31
  go_wp2_with fail
  refine wp_loop_rounds 1 ?_
  rw [rounds_succ]
  go_wp2
  go_ret
  exact ⟨rfl, rfl⟩

theorem right_e0_short (s : ByteArray) (pos : Nat) (a b c d : Int) (w : World) (hs : s.size ≤ 100000) (hp : pos < s.size) (ha : a = 224) (hn : s.size < pos + 3)
    (i0 : ∀ w, (Instr.index 9 (.string s) (.int .i64 (pos : Int))).run Try.prog w = .ok (.int .u8 a) w) :
    Calls Try.prog 31 #[.string s, .int .i64 pos] w fun e w' => e = .returned (.int .i64 0) ∧ w = w' := by
  subst ha
  go_enter Try.func31, Try.ntmps31
  go_wp2
  go_ret
  exact ⟨rfl, rfl⟩

theorem right_e0_lo (s : ByteArray) (pos : Nat) (a b c d : Int) (w : World) (hs : s.size ≤ 100000) (hp : pos < s.size) (ha : a = 224) (hn : pos + 3 ≤ s.size) (hb : b < 160)
    (i0 : ∀ w, (Instr.index 9 (.string s) (.int .i64 (pos : Int))).run Try.prog w = .ok (.int .u8 a) w) (i1 : ∀ w, (Instr.index 9 (.string s) (.int .i64 ((pos : Int) + 1))).run Try.prog w = .ok (.int .u8 b) w) :
    Calls Try.prog 31 #[.string s, .int .i64 pos] w fun e w' => e = .returned (.int .i64 0) ∧ w = w' := by
  subst ha
  go_enter Try.func31, Try.ntmps31
  go_wp2
  go_ret
  exact ⟨rfl, rfl⟩

theorem right_e0_hi (s : ByteArray) (pos : Nat) (a b c d : Int) (w : World) (hs : s.size ≤ 100000) (hp : pos < s.size) (ha : a = 224) (hn : pos + 3 ≤ s.size) (hb0 : 160 ≤ b) (hb : 191 < b)
    (i0 : ∀ w, (Instr.index 9 (.string s) (.int .i64 (pos : Int))).run Try.prog w = .ok (.int .u8 a) w) (i1 : ∀ w, (Instr.index 9 (.string s) (.int .i64 ((pos : Int) + 1))).run Try.prog w = .ok (.int .u8 b) w) :
    Calls Try.prog 31 #[.string s, .int .i64 pos] w fun e w' => e = .returned (.int .i64 0) ∧ w = w' := by
  subst ha
  go_enter Try.func31, Try.ntmps31
  go_wp2
  go_ret
  exact ⟨rfl, rfl⟩

theorem right_e0_c (s : ByteArray) (pos : Nat) (a b c d : Int) (w : World) (hs : s.size ≤ 100000) (hp : pos < s.size) (ha : a = 224) (hn : pos + 3 ≤ s.size) (hb0 : 160 ≤ b) (hb1 : b ≤ 191) (hc : c < 128 ∨ 191 < c)
    (i0 : ∀ w, (Instr.index 9 (.string s) (.int .i64 (pos : Int))).run Try.prog w = .ok (.int .u8 a) w) (i1 : ∀ w, (Instr.index 9 (.string s) (.int .i64 ((pos : Int) + 1))).run Try.prog w = .ok (.int .u8 b) w) (i2 : ∀ w, (Instr.index 9 (.string s) (.int .i64 ((pos : Int) + 2))).run Try.prog w = .ok (.int .u8 c) w) :
    Calls Try.prog 31 #[.string s, .int .i64 pos] w fun e w' => e = .returned (.int .i64 0) ∧ w = w' := by
  have HC := hide hc
  clear hc
  subst ha
  go_enter Try.func31, Try.ntmps31
  go_wp2_with fail
  refine wp_loop_rounds 1 ?_
  rw [rounds_succ]
  go_wp2_with (go_at_call 35; refine (goes_no c _ HC.out).mono ?_; rintro e w1 ⟨rfl, rfl⟩)
  go_ret
  exact ⟨rfl, rfl⟩

theorem right_e0_ok (s : ByteArray) (pos : Nat) (a b c d : Int) (w : World) (hs : s.size ≤ 100000) (hp : pos < s.size) (ha : a = 224) (hn : pos + 3 ≤ s.size) (hb0 : 160 ≤ b) (hb1 : b ≤ 191) (hc0 : 128 ≤ c) (hc1 : c ≤ 191)
    (i0 : ∀ w, (Instr.index 9 (.string s) (.int .i64 (pos : Int))).run Try.prog w = .ok (.int .u8 a) w) (i1 : ∀ w, (Instr.index 9 (.string s) (.int .i64 ((pos : Int) + 1))).run Try.prog w = .ok (.int .u8 b) w) (i2 : ∀ w, (Instr.index 9 (.string s) (.int .i64 ((pos : Int) + 2))).run Try.prog w = .ok (.int .u8 c) w) :
    Calls Try.prog 31 #[.string s, .int .i64 pos] w fun e w' => e = .returned (.int .i64 3) ∧ w = w' := by
  subst ha
  go_enter Try.func31, Try.ntmps31
  go_wp2_with fail
  refine wp_loop_rounds 2 ?_
  rw [rounds_succ]
  go_wp2_with (go_at_call 35; refine (goes_yes c _ hc0 hc1).mono ?_; rintro e w1 ⟨rfl, rfl⟩)
  rw [rounds_succ]
  go_wp2
  go_ret
  exact ⟨rfl, rfl⟩

theorem right_ed_short (s : ByteArray) (pos : Nat) (a b c d : Int) (w : World) (hs : s.size ≤ 100000) (hp : pos < s.size) (ha : a = 237) (hn : s.size < pos + 3)
    (i0 : ∀ w, (Instr.index 9 (.string s) (.int .i64 (pos : Int))).run Try.prog w = .ok (.int .u8 a) w) :
    Calls Try.prog 31 #[.string s, .int .i64 pos] w fun e w' => e = .returned (.int .i64 0) ∧ w = w' := by
  subst ha
  go_enter Try.func31, Try.ntmps31
  go_wp2
  go_ret
  exact ⟨rfl, rfl⟩

theorem right_ed_lo (s : ByteArray) (pos : Nat) (a b c d : Int) (w : World) (hs : s.size ≤ 100000) (hp : pos < s.size) (ha : a = 237) (hn : pos + 3 ≤ s.size) (hb : b < 128)
    (i0 : ∀ w, (Instr.index 9 (.string s) (.int .i64 (pos : Int))).run Try.prog w = .ok (.int .u8 a) w) (i1 : ∀ w, (Instr.index 9 (.string s) (.int .i64 ((pos : Int) + 1))).run Try.prog w = .ok (.int .u8 b) w) :
    Calls Try.prog 31 #[.string s, .int .i64 pos] w fun e w' => e = .returned (.int .i64 0) ∧ w = w' := by
  subst ha
  go_enter Try.func31, Try.ntmps31
  go_wp2
  go_ret
  exact ⟨rfl, rfl⟩

theorem right_ed_hi (s : ByteArray) (pos : Nat) (a b c d : Int) (w : World) (hs : s.size ≤ 100000) (hp : pos < s.size) (ha : a = 237) (hn : pos + 3 ≤ s.size) (hb0 : 128 ≤ b) (hb : 159 < b)
    (i0 : ∀ w, (Instr.index 9 (.string s) (.int .i64 (pos : Int))).run Try.prog w = .ok (.int .u8 a) w) (i1 : ∀ w, (Instr.index 9 (.string s) (.int .i64 ((pos : Int) + 1))).run Try.prog w = .ok (.int .u8 b) w) :
    Calls Try.prog 31 #[.string s, .int .i64 pos] w fun e w' => e = .returned (.int .i64 0) ∧ w = w' := by
  subst ha
  go_enter Try.func31, Try.ntmps31
  go_wp2
  go_ret
  exact ⟨rfl, rfl⟩

theorem right_ed_c (s : ByteArray) (pos : Nat) (a b c d : Int) (w : World) (hs : s.size ≤ 100000) (hp : pos < s.size) (ha : a = 237) (hn : pos + 3 ≤ s.size) (hb0 : 128 ≤ b) (hb1 : b ≤ 159) (hc : c < 128 ∨ 191 < c)
    (i0 : ∀ w, (Instr.index 9 (.string s) (.int .i64 (pos : Int))).run Try.prog w = .ok (.int .u8 a) w) (i1 : ∀ w, (Instr.index 9 (.string s) (.int .i64 ((pos : Int) + 1))).run Try.prog w = .ok (.int .u8 b) w) (i2 : ∀ w, (Instr.index 9 (.string s) (.int .i64 ((pos : Int) + 2))).run Try.prog w = .ok (.int .u8 c) w) :
    Calls Try.prog 31 #[.string s, .int .i64 pos] w fun e w' => e = .returned (.int .i64 0) ∧ w = w' := by
  have HC := hide hc
  clear hc
  subst ha
  go_enter Try.func31, Try.ntmps31
  go_wp2_with fail
  refine wp_loop_rounds 1 ?_
  rw [rounds_succ]
  go_wp2_with (go_at_call 35; refine (goes_no c _ HC.out).mono ?_; rintro e w1 ⟨rfl, rfl⟩)
  go_ret
  exact ⟨rfl, rfl⟩

theorem right_ed_ok (s : ByteArray) (pos : Nat) (a b c d : Int) (w : World) (hs : s.size ≤ 100000) (hp : pos < s.size) (ha : a = 237) (hn : pos + 3 ≤ s.size) (hb0 : 128 ≤ b) (hb1 : b ≤ 159) (hc0 : 128 ≤ c) (hc1 : c ≤ 191)
    (i0 : ∀ w, (Instr.index 9 (.string s) (.int .i64 (pos : Int))).run Try.prog w = .ok (.int .u8 a) w) (i1 : ∀ w, (Instr.index 9 (.string s) (.int .i64 ((pos : Int) + 1))).run Try.prog w = .ok (.int .u8 b) w) (i2 : ∀ w, (Instr.index 9 (.string s) (.int .i64 ((pos : Int) + 2))).run Try.prog w = .ok (.int .u8 c) w) :
    Calls Try.prog 31 #[.string s, .int .i64 pos] w fun e w' => e = .returned (.int .i64 3) ∧ w = w' := by
  subst ha
  go_enter Try.func31, Try.ntmps31
  go_wp2_with fail
  refine wp_loop_rounds 2 ?_
  rw [rounds_succ]
  go_wp2_with (go_at_call 35; refine (goes_yes c _ hc0 hc1).mono ?_; rintro e w1 ⟨rfl, rfl⟩)
  rw [rounds_succ]
  go_wp2
  go_ret
  exact ⟨rfl, rfl⟩

theorem right_three_short (s : ByteArray) (pos : Nat) (a b c d : Int) (w : World) (hs : s.size ≤ 100000) (hp : pos < s.size) (ha0 : 224 < a) (ha1 : a ≤ 239) (ha2 : (a == 237) = false) (hn : s.size < pos + 3)
    (i0 : ∀ w, (Instr.index 9 (.string s) (.int .i64 (pos : Int))).run Try.prog w = .ok (.int .u8 a) w) :
    Calls Try.prog 31 #[.string s, .int .i64 pos] w fun e w' => e = .returned (.int .i64 0) ∧ w = w' := by
  have ha3 : (a == 224) = false := beq_eq_false_iff_ne.2 (by omega)
  go_enter Try.func31, Try.ntmps31
  go_wp2
  go_ret
  exact ⟨rfl, rfl⟩

theorem right_three_lo (s : ByteArray) (pos : Nat) (a b c d : Int) (w : World) (hs : s.size ≤ 100000) (hp : pos < s.size) (ha0 : 224 < a) (ha1 : a ≤ 239) (ha2 : (a == 237) = false) (hn : pos + 3 ≤ s.size) (hb : b < 128)
    (i0 : ∀ w, (Instr.index 9 (.string s) (.int .i64 (pos : Int))).run Try.prog w = .ok (.int .u8 a) w) (i1 : ∀ w, (Instr.index 9 (.string s) (.int .i64 ((pos : Int) + 1))).run Try.prog w = .ok (.int .u8 b) w) :
    Calls Try.prog 31 #[.string s, .int .i64 pos] w fun e w' => e = .returned (.int .i64 0) ∧ w = w' := by
  have ha3 : (a == 224) = false := beq_eq_false_iff_ne.2 (by omega)
  go_enter Try.func31, Try.ntmps31
  go_wp2
  go_ret
  exact ⟨rfl, rfl⟩

theorem right_three_hi (s : ByteArray) (pos : Nat) (a b c d : Int) (w : World) (hs : s.size ≤ 100000) (hp : pos < s.size) (ha0 : 224 < a) (ha1 : a ≤ 239) (ha2 : (a == 237) = false) (hn : pos + 3 ≤ s.size) (hb0 : 128 ≤ b) (hb : 191 < b)
    (i0 : ∀ w, (Instr.index 9 (.string s) (.int .i64 (pos : Int))).run Try.prog w = .ok (.int .u8 a) w) (i1 : ∀ w, (Instr.index 9 (.string s) (.int .i64 ((pos : Int) + 1))).run Try.prog w = .ok (.int .u8 b) w) :
    Calls Try.prog 31 #[.string s, .int .i64 pos] w fun e w' => e = .returned (.int .i64 0) ∧ w = w' := by
  have ha3 : (a == 224) = false := beq_eq_false_iff_ne.2 (by omega)
  go_enter Try.func31, Try.ntmps31
  go_wp2
  go_ret
  exact ⟨rfl, rfl⟩

theorem right_three_c (s : ByteArray) (pos : Nat) (a b c d : Int) (w : World) (hs : s.size ≤ 100000) (hp : pos < s.size) (ha0 : 224 < a) (ha1 : a ≤ 239) (ha2 : (a == 237) = false) (hn : pos + 3 ≤ s.size) (hb0 : 128 ≤ b) (hb1 : b ≤ 191) (hc : c < 128 ∨ 191 < c)
    (i0 : ∀ w, (Instr.index 9 (.string s) (.int .i64 (pos : Int))).run Try.prog w = .ok (.int .u8 a) w) (i1 : ∀ w, (Instr.index 9 (.string s) (.int .i64 ((pos : Int) + 1))).run Try.prog w = .ok (.int .u8 b) w) (i2 : ∀ w, (Instr.index 9 (.string s) (.int .i64 ((pos : Int) + 2))).run Try.prog w = .ok (.int .u8 c) w) :
    Calls Try.prog 31 #[.string s, .int .i64 pos] w fun e w' => e = .returned (.int .i64 0) ∧ w = w' := by
  have HC := hide hc
  clear hc
  have ha3 : (a == 224) = false := beq_eq_false_iff_ne.2 (by omega)
  go_enter Try.func31, Try.ntmps31
  go_wp2_with fail
  refine wp_loop_rounds 1 ?_
  rw [rounds_succ]
  go_wp2_with (go_at_call 35; refine (goes_no c _ HC.out).mono ?_; rintro e w1 ⟨rfl, rfl⟩)
  go_ret
  exact ⟨rfl, rfl⟩

theorem right_three_ok (s : ByteArray) (pos : Nat) (a b c d : Int) (w : World) (hs : s.size ≤ 100000) (hp : pos < s.size) (ha0 : 224 < a) (ha1 : a ≤ 239) (ha2 : (a == 237) = false) (hn : pos + 3 ≤ s.size) (hb0 : 128 ≤ b) (hb1 : b ≤ 191) (hc0 : 128 ≤ c) (hc1 : c ≤ 191)
    (i0 : ∀ w, (Instr.index 9 (.string s) (.int .i64 (pos : Int))).run Try.prog w = .ok (.int .u8 a) w) (i1 : ∀ w, (Instr.index 9 (.string s) (.int .i64 ((pos : Int) + 1))).run Try.prog w = .ok (.int .u8 b) w) (i2 : ∀ w, (Instr.index 9 (.string s) (.int .i64 ((pos : Int) + 2))).run Try.prog w = .ok (.int .u8 c) w) :
    Calls Try.prog 31 #[.string s, .int .i64 pos] w fun e w' => e = .returned (.int .i64 3) ∧ w = w' := by
  have ha3 : (a == 224) = false := beq_eq_false_iff_ne.2 (by omega)
  go_enter Try.func31, Try.ntmps31
  go_wp2_with fail
  refine wp_loop_rounds 2 ?_
  rw [rounds_succ]
  go_wp2_with (go_at_call 35; refine (goes_yes c _ hc0 hc1).mono ?_; rintro e w1 ⟨rfl, rfl⟩)
  rw [rounds_succ]
  go_wp2
  go_ret
  exact ⟨rfl, rfl⟩

theorem right_f0_short (s : ByteArray) (pos : Nat) (a b c d : Int) (w : World) (hs : s.size ≤ 100000) (hp : pos < s.size) (ha : a = 240) (hn : s.size < pos + 4)
    (i0 : ∀ w, (Instr.index 9 (.string s) (.int .i64 (pos : Int))).run Try.prog w = .ok (.int .u8 a) w) :
    Calls Try.prog 31 #[.string s, .int .i64 pos] w fun e w' => e = .returned (.int .i64 0) ∧ w = w' := by
  subst ha
  go_enter Try.func31, Try.ntmps31
  go_wp2
  go_ret
  exact ⟨rfl, rfl⟩

theorem right_f0_lo (s : ByteArray) (pos : Nat) (a b c d : Int) (w : World) (hs : s.size ≤ 100000) (hp : pos < s.size) (ha : a = 240) (hn : pos + 4 ≤ s.size) (hb : b < 144)
    (i0 : ∀ w, (Instr.index 9 (.string s) (.int .i64 (pos : Int))).run Try.prog w = .ok (.int .u8 a) w) (i1 : ∀ w, (Instr.index 9 (.string s) (.int .i64 ((pos : Int) + 1))).run Try.prog w = .ok (.int .u8 b) w) :
    Calls Try.prog 31 #[.string s, .int .i64 pos] w fun e w' => e = .returned (.int .i64 0) ∧ w = w' := by
  subst ha
  go_enter Try.func31, Try.ntmps31
  go_wp2
  go_ret
  exact ⟨rfl, rfl⟩

theorem right_f0_hi (s : ByteArray) (pos : Nat) (a b c d : Int) (w : World) (hs : s.size ≤ 100000) (hp : pos < s.size) (ha : a = 240) (hn : pos + 4 ≤ s.size) (hb0 : 144 ≤ b) (hb : 191 < b)
    (i0 : ∀ w, (Instr.index 9 (.string s) (.int .i64 (pos : Int))).run Try.prog w = .ok (.int .u8 a) w) (i1 : ∀ w, (Instr.index 9 (.string s) (.int .i64 ((pos : Int) + 1))).run Try.prog w = .ok (.int .u8 b) w) :
    Calls Try.prog 31 #[.string s, .int .i64 pos] w fun e w' => e = .returned (.int .i64 0) ∧ w = w' := by
  subst ha
  go_enter Try.func31, Try.ntmps31
  go_wp2
  go_ret
  exact ⟨rfl, rfl⟩

theorem right_f0_c (s : ByteArray) (pos : Nat) (a b c d : Int) (w : World) (hs : s.size ≤ 100000) (hp : pos < s.size) (ha : a = 240) (hn : pos + 4 ≤ s.size) (hb0 : 144 ≤ b) (hb1 : b ≤ 191) (hc : c < 128 ∨ 191 < c)
    (i0 : ∀ w, (Instr.index 9 (.string s) (.int .i64 (pos : Int))).run Try.prog w = .ok (.int .u8 a) w) (i1 : ∀ w, (Instr.index 9 (.string s) (.int .i64 ((pos : Int) + 1))).run Try.prog w = .ok (.int .u8 b) w) (i2 : ∀ w, (Instr.index 9 (.string s) (.int .i64 ((pos : Int) + 2))).run Try.prog w = .ok (.int .u8 c) w) :
    Calls Try.prog 31 #[.string s, .int .i64 pos] w fun e w' => e = .returned (.int .i64 0) ∧ w = w' := by
  have HC := hide hc
  clear hc
  subst ha
  go_enter Try.func31, Try.ntmps31
  go_wp2_with fail
  refine wp_loop_rounds 1 ?_
  rw [rounds_succ]
  go_wp2_with (go_at_call 35; refine (goes_no c _ HC.out).mono ?_; rintro e w1 ⟨rfl, rfl⟩)
  go_ret
  exact ⟨rfl, rfl⟩

theorem right_f0_d (s : ByteArray) (pos : Nat) (a b c d : Int) (w : World) (hs : s.size ≤ 100000) (hp : pos < s.size) (ha : a = 240) (hn : pos + 4 ≤ s.size) (hb0 : 144 ≤ b) (hb1 : b ≤ 191) (hc0 : 128 ≤ c) (hc1 : c ≤ 191) (hd : d < 128 ∨ 191 < d)
    (i0 : ∀ w, (Instr.index 9 (.string s) (.int .i64 (pos : Int))).run Try.prog w = .ok (.int .u8 a) w) (i1 : ∀ w, (Instr.index 9 (.string s) (.int .i64 ((pos : Int) + 1))).run Try.prog w = .ok (.int .u8 b) w) (i2 : ∀ w, (Instr.index 9 (.string s) (.int .i64 ((pos : Int) + 2))).run Try.prog w = .ok (.int .u8 c) w) (i3 : ∀ w, (Instr.index 9 (.string s) (.int .i64 ((pos : Int) + 3))).run Try.prog w = .ok (.int .u8 d) w) :
    Calls Try.prog 31 #[.string s, .int .i64 pos] w fun e w' => e = .returned (.int .i64 0) ∧ w = w' := by
  have HD := hide hd
  clear hd
  subst ha
  go_enter Try.func31, Try.ntmps31
  go_wp2_with fail
  refine wp_loop_rounds 2 ?_
  rw [rounds_succ]
  go_wp2_with (go_at_call 35; refine (goes_yes c _ hc0 hc1).mono ?_; rintro e w1 ⟨rfl, rfl⟩)
  rw [rounds_succ]
  go_wp2_with (go_at_call 35; refine (goes_no d _ HD.out).mono ?_; rintro e w1 ⟨rfl, rfl⟩)
  go_ret
  exact ⟨rfl, rfl⟩

theorem right_f0_ok (s : ByteArray) (pos : Nat) (a b c d : Int) (w : World) (hs : s.size ≤ 100000) (hp : pos < s.size) (ha : a = 240) (hn : pos + 4 ≤ s.size) (hb0 : 144 ≤ b) (hb1 : b ≤ 191) (hc0 : 128 ≤ c) (hc1 : c ≤ 191) (hd0 : 128 ≤ d) (hd1 : d ≤ 191)
    (i0 : ∀ w, (Instr.index 9 (.string s) (.int .i64 (pos : Int))).run Try.prog w = .ok (.int .u8 a) w) (i1 : ∀ w, (Instr.index 9 (.string s) (.int .i64 ((pos : Int) + 1))).run Try.prog w = .ok (.int .u8 b) w) (i2 : ∀ w, (Instr.index 9 (.string s) (.int .i64 ((pos : Int) + 2))).run Try.prog w = .ok (.int .u8 c) w) (i3 : ∀ w, (Instr.index 9 (.string s) (.int .i64 ((pos : Int) + 3))).run Try.prog w = .ok (.int .u8 d) w) :
    Calls Try.prog 31 #[.string s, .int .i64 pos] w fun e w' => e = .returned (.int .i64 4) ∧ w = w' := by
  subst ha
  go_enter Try.func31, Try.ntmps31
  go_wp2_with fail
  refine wp_loop_rounds 3 ?_
  rw [rounds_succ]
  go_wp2_with (go_at_call 35; refine (goes_yes c _ hc0 hc1).mono ?_; rintro e w1 ⟨rfl, rfl⟩)
  rw [rounds_succ]
  go_wp2_with (go_at_call 35; refine (goes_yes d _ hd0 hd1).mono ?_; rintro e w1 ⟨rfl, rfl⟩)
  rw [rounds_succ]
  go_wp2
  go_ret
  exact ⟨rfl, rfl⟩

theorem right_f4_short (s : ByteArray) (pos : Nat) (a b c d : Int) (w : World) (hs : s.size ≤ 100000) (hp : pos < s.size) (ha : a = 244) (hn : s.size < pos + 4)
    (i0 : ∀ w, (Instr.index 9 (.string s) (.int .i64 (pos : Int))).run Try.prog w = .ok (.int .u8 a) w) :
    Calls Try.prog 31 #[.string s, .int .i64 pos] w fun e w' => e = .returned (.int .i64 0) ∧ w = w' := by
  subst ha
  go_enter Try.func31, Try.ntmps31
  go_wp2
  go_ret
  exact ⟨rfl, rfl⟩

theorem right_f4_lo (s : ByteArray) (pos : Nat) (a b c d : Int) (w : World) (hs : s.size ≤ 100000) (hp : pos < s.size) (ha : a = 244) (hn : pos + 4 ≤ s.size) (hb : b < 128)
    (i0 : ∀ w, (Instr.index 9 (.string s) (.int .i64 (pos : Int))).run Try.prog w = .ok (.int .u8 a) w) (i1 : ∀ w, (Instr.index 9 (.string s) (.int .i64 ((pos : Int) + 1))).run Try.prog w = .ok (.int .u8 b) w) :
    Calls Try.prog 31 #[.string s, .int .i64 pos] w fun e w' => e = .returned (.int .i64 0) ∧ w = w' := by
  subst ha
  go_enter Try.func31, Try.ntmps31
  go_wp2
  go_ret
  exact ⟨rfl, rfl⟩

theorem right_f4_hi (s : ByteArray) (pos : Nat) (a b c d : Int) (w : World) (hs : s.size ≤ 100000) (hp : pos < s.size) (ha : a = 244) (hn : pos + 4 ≤ s.size) (hb0 : 128 ≤ b) (hb : 143 < b)
    (i0 : ∀ w, (Instr.index 9 (.string s) (.int .i64 (pos : Int))).run Try.prog w = .ok (.int .u8 a) w) (i1 : ∀ w, (Instr.index 9 (.string s) (.int .i64 ((pos : Int) + 1))).run Try.prog w = .ok (.int .u8 b) w) :
    Calls Try.prog 31 #[.string s, .int .i64 pos] w fun e w' => e = .returned (.int .i64 0) ∧ w = w' := by
  subst ha
  go_enter Try.func31, Try.ntmps31
  go_wp2
  go_ret
  exact ⟨rfl, rfl⟩

theorem right_f4_c (s : ByteArray) (pos : Nat) (a b c d : Int) (w : World) (hs : s.size ≤ 100000) (hp : pos < s.size) (ha : a = 244) (hn : pos + 4 ≤ s.size) (hb0 : 128 ≤ b) (hb1 : b ≤ 143) (hc : c < 128 ∨ 191 < c)
    (i0 : ∀ w, (Instr.index 9 (.string s) (.int .i64 (pos : Int))).run Try.prog w = .ok (.int .u8 a) w) (i1 : ∀ w, (Instr.index 9 (.string s) (.int .i64 ((pos : Int) + 1))).run Try.prog w = .ok (.int .u8 b) w) (i2 : ∀ w, (Instr.index 9 (.string s) (.int .i64 ((pos : Int) + 2))).run Try.prog w = .ok (.int .u8 c) w) :
    Calls Try.prog 31 #[.string s, .int .i64 pos] w fun e w' => e = .returned (.int .i64 0) ∧ w = w' := by
  have HC := hide hc
  clear hc
  subst ha
  go_enter Try.func31, Try.ntmps31
  go_wp2_with fail
  refine wp_loop_rounds 1 ?_
  rw [rounds_succ]
  go_wp2_with (go_at_call 35; refine (goes_no c _ HC.out).mono ?_; rintro e w1 ⟨rfl, rfl⟩)
  go_ret
  exact ⟨rfl, rfl⟩

theorem right_f4_d (s : ByteArray) (pos : Nat) (a b c d : Int) (w : World) (hs : s.size ≤ 100000) (hp : pos < s.size) (ha : a = 244) (hn : pos + 4 ≤ s.size) (hb0 : 128 ≤ b) (hb1 : b ≤ 143) (hc0 : 128 ≤ c) (hc1 : c ≤ 191) (hd : d < 128 ∨ 191 < d)
    (i0 : ∀ w, (Instr.index 9 (.string s) (.int .i64 (pos : Int))).run Try.prog w = .ok (.int .u8 a) w) (i1 : ∀ w, (Instr.index 9 (.string s) (.int .i64 ((pos : Int) + 1))).run Try.prog w = .ok (.int .u8 b) w) (i2 : ∀ w, (Instr.index 9 (.string s) (.int .i64 ((pos : Int) + 2))).run Try.prog w = .ok (.int .u8 c) w) (i3 : ∀ w, (Instr.index 9 (.string s) (.int .i64 ((pos : Int) + 3))).run Try.prog w = .ok (.int .u8 d) w) :
    Calls Try.prog 31 #[.string s, .int .i64 pos] w fun e w' => e = .returned (.int .i64 0) ∧ w = w' := by
  have HD := hide hd
  clear hd
  subst ha
  go_enter Try.func31, Try.ntmps31
  go_wp2_with fail
  refine wp_loop_rounds 2 ?_
  rw [rounds_succ]
  go_wp2_with (go_at_call 35; refine (goes_yes c _ hc0 hc1).mono ?_; rintro e w1 ⟨rfl, rfl⟩)
  rw [rounds_succ]
  go_wp2_with (go_at_call 35; refine (goes_no d _ HD.out).mono ?_; rintro e w1 ⟨rfl, rfl⟩)
  go_ret
  exact ⟨rfl, rfl⟩

theorem right_f4_ok (s : ByteArray) (pos : Nat) (a b c d : Int) (w : World) (hs : s.size ≤ 100000) (hp : pos < s.size) (ha : a = 244) (hn : pos + 4 ≤ s.size) (hb0 : 128 ≤ b) (hb1 : b ≤ 143) (hc0 : 128 ≤ c) (hc1 : c ≤ 191) (hd0 : 128 ≤ d) (hd1 : d ≤ 191)
    (i0 : ∀ w, (Instr.index 9 (.string s) (.int .i64 (pos : Int))).run Try.prog w = .ok (.int .u8 a) w) (i1 : ∀ w, (Instr.index 9 (.string s) (.int .i64 ((pos : Int) + 1))).run Try.prog w = .ok (.int .u8 b) w) (i2 : ∀ w, (Instr.index 9 (.string s) (.int .i64 ((pos : Int) + 2))).run Try.prog w = .ok (.int .u8 c) w) (i3 : ∀ w, (Instr.index 9 (.string s) (.int .i64 ((pos : Int) + 3))).run Try.prog w = .ok (.int .u8 d) w) :
    Calls Try.prog 31 #[.string s, .int .i64 pos] w fun e w' => e = .returned (.int .i64 4) ∧ w = w' := by
  subst ha
  go_enter Try.func31, Try.ntmps31
  go_wp2_with fail
  refine wp_loop_rounds 3 ?_
  rw [rounds_succ]
  go_wp2_with (go_at_call 35; refine (goes_yes c _ hc0 hc1).mono ?_; rintro e w1 ⟨rfl, rfl⟩)
  rw [rounds_succ]
  go_wp2_with (go_at_call 35; refine (goes_yes d _ hd0 hd1).mono ?_; rintro e w1 ⟨rfl, rfl⟩)
  rw [rounds_succ]
  go_wp2
  go_ret
  exact ⟨rfl, rfl⟩

theorem right_four_short (s : ByteArray) (pos : Nat) (a b c d : Int) (w : World) (hs : s.size ≤ 100000) (hp : pos < s.size) (ha0 : 240 < a) (ha1 : a < 244) (hn : s.size < pos + 4)
    (i0 : ∀ w, (Instr.index 9 (.string s) (.int .i64 (pos : Int))).run Try.prog w = .ok (.int .u8 a) w) :
    Calls Try.prog 31 #[.string s, .int .i64 pos] w fun e w' => e = .returned (.int .i64 0) ∧ w = w' := by
  have ha3 : (a == 240) = false := beq_eq_false_iff_ne.2 (by omega)
  have ha4 : (a == 244) = false := beq_eq_false_iff_ne.2 (by omega)
  go_enter Try.func31, Try.ntmps31
  go_wp2
  go_ret
  exact ⟨rfl, rfl⟩

theorem right_four_lo (s : ByteArray) (pos : Nat) (a b c d : Int) (w : World) (hs : s.size ≤ 100000) (hp : pos < s.size) (ha0 : 240 < a) (ha1 : a < 244) (hn : pos + 4 ≤ s.size) (hb : b < 128)
    (i0 : ∀ w, (Instr.index 9 (.string s) (.int .i64 (pos : Int))).run Try.prog w = .ok (.int .u8 a) w) (i1 : ∀ w, (Instr.index 9 (.string s) (.int .i64 ((pos : Int) + 1))).run Try.prog w = .ok (.int .u8 b) w) :
    Calls Try.prog 31 #[.string s, .int .i64 pos] w fun e w' => e = .returned (.int .i64 0) ∧ w = w' := by
  have ha3 : (a == 240) = false := beq_eq_false_iff_ne.2 (by omega)
  have ha4 : (a == 244) = false := beq_eq_false_iff_ne.2 (by omega)
  go_enter Try.func31, Try.ntmps31
  go_wp2
  go_ret
  exact ⟨rfl, rfl⟩

theorem right_four_hi (s : ByteArray) (pos : Nat) (a b c d : Int) (w : World) (hs : s.size ≤ 100000) (hp : pos < s.size) (ha0 : 240 < a) (ha1 : a < 244) (hn : pos + 4 ≤ s.size) (hb0 : 128 ≤ b) (hb : 191 < b)
    (i0 : ∀ w, (Instr.index 9 (.string s) (.int .i64 (pos : Int))).run Try.prog w = .ok (.int .u8 a) w) (i1 : ∀ w, (Instr.index 9 (.string s) (.int .i64 ((pos : Int) + 1))).run Try.prog w = .ok (.int .u8 b) w) :
    Calls Try.prog 31 #[.string s, .int .i64 pos] w fun e w' => e = .returned (.int .i64 0) ∧ w = w' := by
  have ha3 : (a == 240) = false := beq_eq_false_iff_ne.2 (by omega)
  have ha4 : (a == 244) = false := beq_eq_false_iff_ne.2 (by omega)
  go_enter Try.func31, Try.ntmps31
  go_wp2
  go_ret
  exact ⟨rfl, rfl⟩

theorem right_four_c (s : ByteArray) (pos : Nat) (a b c d : Int) (w : World) (hs : s.size ≤ 100000) (hp : pos < s.size) (ha0 : 240 < a) (ha1 : a < 244) (hn : pos + 4 ≤ s.size) (hb0 : 128 ≤ b) (hb1 : b ≤ 191) (hc : c < 128 ∨ 191 < c)
    (i0 : ∀ w, (Instr.index 9 (.string s) (.int .i64 (pos : Int))).run Try.prog w = .ok (.int .u8 a) w) (i1 : ∀ w, (Instr.index 9 (.string s) (.int .i64 ((pos : Int) + 1))).run Try.prog w = .ok (.int .u8 b) w) (i2 : ∀ w, (Instr.index 9 (.string s) (.int .i64 ((pos : Int) + 2))).run Try.prog w = .ok (.int .u8 c) w) :
    Calls Try.prog 31 #[.string s, .int .i64 pos] w fun e w' => e = .returned (.int .i64 0) ∧ w = w' := by
  have HC := hide hc
  clear hc
  have ha3 : (a == 240) = false := beq_eq_false_iff_ne.2 (by omega)
  have ha4 : (a == 244) = false := beq_eq_false_iff_ne.2 (by omega)
  go_enter Try.func31, Try.ntmps31
  go_wp2_with fail
  refine wp_loop_rounds 1 ?_
  rw [rounds_succ]
  go_wp2_with (go_at_call 35; refine (goes_no c _ HC.out).mono ?_; rintro e w1 ⟨rfl, rfl⟩)
  go_ret
  exact ⟨rfl, rfl⟩

theorem right_four_d (s : ByteArray) (pos : Nat) (a b c d : Int) (w : World) (hs : s.size ≤ 100000) (hp : pos < s.size) (ha0 : 240 < a) (ha1 : a < 244) (hn : pos + 4 ≤ s.size) (hb0 : 128 ≤ b) (hb1 : b ≤ 191) (hc0 : 128 ≤ c) (hc1 : c ≤ 191) (hd : d < 128 ∨ 191 < d)
    (i0 : ∀ w, (Instr.index 9 (.string s) (.int .i64 (pos : Int))).run Try.prog w = .ok (.int .u8 a) w) (i1 : ∀ w, (Instr.index 9 (.string s) (.int .i64 ((pos : Int) + 1))).run Try.prog w = .ok (.int .u8 b) w) (i2 : ∀ w, (Instr.index 9 (.string s) (.int .i64 ((pos : Int) + 2))).run Try.prog w = .ok (.int .u8 c) w) (i3 : ∀ w, (Instr.index 9 (.string s) (.int .i64 ((pos : Int) + 3))).run Try.prog w = .ok (.int .u8 d) w) :
    Calls Try.prog 31 #[.string s, .int .i64 pos] w fun e w' => e = .returned (.int .i64 0) ∧ w = w' := by
  have HD := hide hd
  clear hd
  have ha3 : (a == 240) = false := beq_eq_false_iff_ne.2 (by omega)
  have ha4 : (a == 244) = false := beq_eq_false_iff_ne.2 (by omega)
  go_enter Try.func31, Try.ntmps31
  go_wp2_with fail
  refine wp_loop_rounds 2 ?_
  rw [rounds_succ]
  go_wp2_with (go_at_call 35; refine (goes_yes c _ hc0 hc1).mono ?_; rintro e w1 ⟨rfl, rfl⟩)
  rw [rounds_succ]
  go_wp2_with (go_at_call 35; refine (goes_no d _ HD.out).mono ?_; rintro e w1 ⟨rfl, rfl⟩)
  go_ret
  exact ⟨rfl, rfl⟩

theorem right_four_ok (s : ByteArray) (pos : Nat) (a b c d : Int) (w : World) (hs : s.size ≤ 100000) (hp : pos < s.size) (ha0 : 240 < a) (ha1 : a < 244) (hn : pos + 4 ≤ s.size) (hb0 : 128 ≤ b) (hb1 : b ≤ 191) (hc0 : 128 ≤ c) (hc1 : c ≤ 191) (hd0 : 128 ≤ d) (hd1 : d ≤ 191)
    (i0 : ∀ w, (Instr.index 9 (.string s) (.int .i64 (pos : Int))).run Try.prog w = .ok (.int .u8 a) w) (i1 : ∀ w, (Instr.index 9 (.string s) (.int .i64 ((pos : Int) + 1))).run Try.prog w = .ok (.int .u8 b) w) (i2 : ∀ w, (Instr.index 9 (.string s) (.int .i64 ((pos : Int) + 2))).run Try.prog w = .ok (.int .u8 c) w) (i3 : ∀ w, (Instr.index 9 (.string s) (.int .i64 ((pos : Int) + 3))).run Try.prog w = .ok (.int .u8 d) w) :
    Calls Try.prog 31 #[.string s, .int .i64 pos] w fun e w' => e = .returned (.int .i64 4) ∧ w = w' := by
  have ha3 : (a == 240) = false := beq_eq_false_iff_ne.2 (by omega)
  have ha4 : (a == 244) = false := beq_eq_false_iff_ne.2 (by omega)
  go_enter Try.func31, Try.ntmps31
  go_wp2_with fail
  refine wp_loop_rounds 3 ?_
  rw [rounds_succ]
  go_wp2_with (go_at_call 35; refine (goes_yes c _ hc0 hc1).mono ?_; rintro e w1 ⟨rfl, rfl⟩)
  rw [rounds_succ]
  go_wp2_with (go_at_call 35; refine (goes_yes d _ hd0 hd1).mono ?_; rintro e w1 ⟨rfl, rfl⟩)
  rw [rounds_succ]
  go_wp2
  go_ret
  exact ⟨rfl, rfl⟩

end Go.Proofs.Ytholfdfjapgfbaa
