/-
  The law UtfOne, walked: it answers true at every byte.
-/
import Derived.Test.YtnjdmkkifdiedabW5
import Derived.OpenShut
namespace Go.Proofs.Ytnjdmkkifdiedab
open Go.RowKit
open Utf1

theorem runes_one (c : UInt8) : runes [c] = [if c.toNat < 128 then c.toNat else 65533] := by
  rw [runes_step _ (by simp)]
  by_cases h : c.toNat < 128
  · have e : dl [c] = (c.toNat, 1) := decode_one ⟨#[c]⟩ 0 h
    rw [e, if_pos h]
    rfl
  · have e0 : rt [c] = 0 := by
      unfold rt rtN
      have ha : ¬ atN [c] 0 < 128 := h
      rw [if_neg (by simp), if_neg ha]
      simp
    rw [dl_bad _ e0 (by simp), if_neg h]
    rfl
theorem many_one (c : UInt8) : (runes [c]).length = 1 := by rw [runes_one]; rfl
theorem valid_one (c : UInt8) : valid [c] = decide (c.toNat < 128) := by
  unfold valid
  rw [runes_one, enc_cons, enc_nil, List.append_nil]
  by_cases h : c.toNat < 128
  · rw [if_pos h, er1 (by omega), ofNat_of rfl, decide_eq_true h]
    simp
  · rw [if_neg h, decide_eq_false h]
    have : er 65533 = [239, 191, 189] := by decide
    rw [this]
    simp
def wantOf (c : UInt8) : List UInt8 := if c.toNat ≥ 128 ∨ c.toNat = 0 then [239, 191, 189] else if c.toNat = 13 then [10] else [c]
theorem fix_one (c : UInt8) : fix [c] = wantOf c := by
  unfold fix wantOf
  have e65 : enc [65533] = [239, 191, 189] := by decide
  rw [runes_one, fixR, fixR, List.append_nil]
  by_cases h : c.toNat < 128
  · rw [if_pos h]
    by_cases h0 : c.toNat = 0
    · rw [show one 0 c.toNat = [65533] from if_pos h0, if_pos (.inr h0), e65]
    · have hn : ¬ (c.toNat ≥ 128 ∨ c.toNat = 0) := by omega
      rw [if_neg hn]
      by_cases h13 : c.toNat = 13
      · rw [show one 0 c.toNat = [10] from by unfold one; rw [if_neg h0, if_pos h13], if_pos h13]
        decide
      · rw [show one 0 c.toNat = [c.toNat] from by unfold one; rw [if_neg h0, if_neg h13, if_neg (by omega)], if_neg h13, enc_cons, enc_nil, List.append_nil, er1 (by omega), ofNat_of rfl]
  · rw [if_neg h, if_pos (.inl (by omega)), ← e65]
    rfl
theorem cut_zero (l : List UInt8) : cut l 0 = [] := by
  unfold cut
  have := cutR_le 0 l
  have e : cutR (0 : Int).toNat l = 0 := by show cutR 0 l = 0; omega
  rw [e]
  rfl
theorem beq_bytes (a : ByteArray) : (a.toList == a.toList) = true := by simp


theorem one_valid (c : UInt8) (w : World) : Calls Try.prog 6 #[.string ⟨#[c]⟩] w fun e w' => e = .returned (.bool (decide (c.toNat < 128))) ∧ Below w.heap.size w w' := by
  have := valid_any ⟨#[c]⟩ w
  rw [show bl ⟨#[c]⟩ = [c] from rfl, valid_one] at this
  exact this
theorem one_fix (c : UInt8) (v : Value) (w : World) (h : IsBytes w v [c]) : Calls Try.prog 7 #[v] w fun e w' => e = .returned (.string ⟨(wantOf c).toArray⟩) ∧ Below w.heap.size w w' := by
  have := fix_any v _ w h (by show 1 ≤ _; omega)
  rw [fix_one] at this
  exact this
theorem one_many (c : UInt8) (w : World) : Calls Try.prog 8 #[.string ⟨#[c]⟩] w fun e w' => e = .returned (.int .i64 1) ∧ Below w.heap.size w w' := by
  have := many_any ⟨#[c]⟩ w (by show 1 ≤ _; decide)
  rw [show bl ⟨#[c]⟩ = [c] from rfl, many_one] at this
  exact this
theorem one_cut (c : UInt8) (w : World) : Calls Try.prog 9 #[.string ⟨#[c]⟩, .int .i64 0] w fun e w' => e = .returned (.string ⟨#[]⟩) ∧ Below w.heap.size w w' := by
  have := cut_any ⟨#[c]⟩ 0 w (by show 1 ≤ _; omega)
  rw [cut_zero] at this
  exact this

theorem one_below {w w1 w2 w3 w4 w5 : World} {o p : Obj} (hb1 : Below w.heap.size w w1) (hb2 : Below (w1.alloc o).heap.size (w1.alloc o) w2) (hb3 : Below (w2.heap.size + 1) (w2.alloc p) w3)
    (hb4 : Below w3.heap.size w3 w4) (hb5 : Below w4.heap.size w4 w5) : Below w.heap.size w w5 := by
  have s0 : (w1.alloc o).heap.size = w1.heap.size + 1 := by simp
  have s1 := hb1.size
  have s2 := hb2.size
  have s3 := hb3.size
  have s4 := hb4.size
  simp at s1 s2 s3 s4
  exact ((((hb1.alloc (by omega) o).trans (hb2.mono (by omega))).alloc (by omega) p).trans (hb3.mono (by omega))).trans ((hb4.mono (by omega)).trans (hb5.mono (by omega)))

set_option maxHeartbeats 1000000 in
theorem lawOne_high (c : UInt8) (a : Int) (w : World) (ha : Hid (a = (c.toNat : Int))) (hc : 128 ≤ a) :
    Calls Try.prog 4 #[.int .u8 a] w fun e w' => e = .returned (.bool true) ∧ Below w.heap.size w w' := by
  have hcv : ∀ (w : World), (convert 22 9 (.slice (some ⟨w.heap.size, 0, none⟩) 1 1)).run Try.prog (w.alloc (.cells #[.int .u8 a] 5)) = .ok (.string ⟨#[c]⟩) (w.alloc (.cells #[.int .u8 a] 5)) := by
    rw [ha.out]
    exact fun w => (isBytes_new w _ (0, 0) [c] 1 1 rfl (cells_of [c])).conv
  have V : Hid (∀ w : World, Calls Try.prog 6 #[.string ⟨#[c]⟩] w fun e w' => e = .returned (.bool false) ∧ Below w.heap.size w w') := by
    intro w
    have hv : decide (c.toNat < 128) = false := by have := ha.out; simp; omega
    have := one_valid c w
    rw [hv] at this
    exact this
  have X : Hid (∀ w : World, Calls Try.prog 7 #[.slice (some ⟨w.heap.size, 0, none⟩) 1 1] (w.alloc (.cells #[.int .u8 a] 5)) fun e w' => e = .returned (.string ⟨#[239, 191, 189]⟩) ∧ Below (w.heap.size + 1) (w.alloc (.cells #[.int .u8 a] 5)) w') := by
    intro w
    have hw : wantOf c = [239, 191, 189] := by have := ha.out; unfold wantOf; rw [if_pos (.inl (by omega))]
    have hi := isBytes_new w #[.int .u8 (c.toNat : Int)] (0, 0) [c] 1 1 rfl (cells_of [c])
    rw [← ha.out] at hi
    have := one_fix c _ _ hi
    rw [hw] at this
    simpa using this
  have hB : (a == 13) = false := beq_eq_false_iff_ne.2 (by omega)
  have hL : decide (a < 128) = false := by simp; omega
  go_enter Try.func4, Try.ntmps4
  go_wp2_with fail
  refine (awake_any _).mono ?_
  rintro e w1 ⟨rfl, hb1⟩
  go_wp2_with fail
  refine (V.out _).mono ?_
  rintro e w2 ⟨rfl, hb2⟩
  go_wp2_with fail
  refine (X.out _).mono ?_
  rintro e w3 ⟨rfl, hb3⟩
  go_wp2_with fail
  refine (one_many c _).mono ?_
  rintro e w4 ⟨rfl, hb4⟩
  go_wp2_with fail
  refine (one_cut c _).mono ?_
  rintro e w5 ⟨rfl, hb5⟩
  go_wp2_with fail
  go_ret
  exact ⟨ret_bool (by simp), one_below hb1 hb2 hb3 hb4 hb5⟩
set_option maxHeartbeats 1000000 in
theorem lawOne_zero (c : UInt8) (a : Int) (w : World) (ha : Hid (a = (c.toNat : Int))) (hc : a = 0) :
    Calls Try.prog 4 #[.int .u8 a] w fun e w' => e = .returned (.bool true) ∧ Below w.heap.size w w' := by
  have hcv : ∀ (w : World), (convert 22 9 (.slice (some ⟨w.heap.size, 0, none⟩) 1 1)).run Try.prog (w.alloc (.cells #[.int .u8 a] 5)) = .ok (.string ⟨#[c]⟩) (w.alloc (.cells #[.int .u8 a] 5)) := by
    rw [ha.out]
    exact fun w => (isBytes_new w _ (0, 0) [c] 1 1 rfl (cells_of [c])).conv
  have V : Hid (∀ w : World, Calls Try.prog 6 #[.string ⟨#[c]⟩] w fun e w' => e = .returned (.bool true) ∧ Below w.heap.size w w') := by
    intro w
    have hv : decide (c.toNat < 128) = true := by have := ha.out; simp; omega
    have := one_valid c w
    rw [hv] at this
    exact this
  have X : Hid (∀ w : World, Calls Try.prog 7 #[.slice (some ⟨w.heap.size, 0, none⟩) 1 1] (w.alloc (.cells #[.int .u8 a] 5)) fun e w' => e = .returned (.string ⟨#[239, 191, 189]⟩) ∧ Below (w.heap.size + 1) (w.alloc (.cells #[.int .u8 a] 5)) w') := by
    intro w
    have hw : wantOf c = [239, 191, 189] := by have := ha.out; unfold wantOf; rw [if_pos (.inr (by omega))]
    have hi := isBytes_new w #[.int .u8 (c.toNat : Int)] (0, 0) [c] 1 1 rfl (cells_of [c])
    rw [← ha.out] at hi
    have := one_fix c _ _ hi
    rw [hw] at this
    simpa using this
  subst hc
  go_enter Try.func4, Try.ntmps4
  go_wp2_with fail
  refine (awake_any _).mono ?_
  rintro e w1 ⟨rfl, hb1⟩
  go_wp2_with fail
  refine (V.out _).mono ?_
  rintro e w2 ⟨rfl, hb2⟩
  go_wp2_with fail
  refine (X.out _).mono ?_
  rintro e w3 ⟨rfl, hb3⟩
  go_wp2_with fail
  refine (one_many c _).mono ?_
  rintro e w4 ⟨rfl, hb4⟩
  go_wp2_with fail
  refine (one_cut c _).mono ?_
  rintro e w5 ⟨rfl, hb5⟩
  go_wp2_with fail
  go_ret
  exact ⟨ret_bool (by simp), one_below hb1 hb2 hb3 hb4 hb5⟩
set_option maxHeartbeats 1000000 in
theorem lawOne_thirteen (c : UInt8) (a : Int) (w : World) (ha : Hid (a = (c.toNat : Int))) (hc : a = 13) :
    Calls Try.prog 4 #[.int .u8 a] w fun e w' => e = .returned (.bool true) ∧ Below w.heap.size w w' := by
  have hcv : ∀ (w : World), (convert 22 9 (.slice (some ⟨w.heap.size, 0, none⟩) 1 1)).run Try.prog (w.alloc (.cells #[.int .u8 a] 5)) = .ok (.string ⟨#[c]⟩) (w.alloc (.cells #[.int .u8 a] 5)) := by
    rw [ha.out]
    exact fun w => (isBytes_new w _ (0, 0) [c] 1 1 rfl (cells_of [c])).conv
  have V : Hid (∀ w : World, Calls Try.prog 6 #[.string ⟨#[c]⟩] w fun e w' => e = .returned (.bool true) ∧ Below w.heap.size w w') := by
    intro w
    have hv : decide (c.toNat < 128) = true := by have := ha.out; simp; omega
    have := one_valid c w
    rw [hv] at this
    exact this
  have X : Hid (∀ w : World, Calls Try.prog 7 #[.slice (some ⟨w.heap.size, 0, none⟩) 1 1] (w.alloc (.cells #[.int .u8 a] 5)) fun e w' => e = .returned (.string ⟨#[10]⟩) ∧ Below (w.heap.size + 1) (w.alloc (.cells #[.int .u8 a] 5)) w') := by
    intro w
    have hw : wantOf c = [10] := by have := ha.out; unfold wantOf; rw [if_neg (by omega), if_pos (by omega)]
    have hi := isBytes_new w #[.int .u8 (c.toNat : Int)] (0, 0) [c] 1 1 rfl (cells_of [c])
    rw [← ha.out] at hi
    have := one_fix c _ _ hi
    rw [hw] at this
    simpa using this
  subst hc
  go_enter Try.func4, Try.ntmps4
  go_wp2_with fail
  refine (awake_any _).mono ?_
  rintro e w1 ⟨rfl, hb1⟩
  go_wp2_with fail
  refine (V.out _).mono ?_
  rintro e w2 ⟨rfl, hb2⟩
  go_wp2_with fail
  refine (X.out _).mono ?_
  rintro e w3 ⟨rfl, hb3⟩
  go_wp2_with fail
  refine (one_many c _).mono ?_
  rintro e w4 ⟨rfl, hb4⟩
  go_wp2_with fail
  refine (one_cut c _).mono ?_
  rintro e w5 ⟨rfl, hb5⟩
  go_wp2_with fail
  go_ret
  exact ⟨ret_bool (by simp), one_below hb1 hb2 hb3 hb4 hb5⟩
set_option maxHeartbeats 1000000 in
theorem lawOne_other (c : UInt8) (a : Int) (w : World) (ha : Hid (a = (c.toNat : Int))) (h0 : 0 < a) (h1 : a < 128) (h2 : a ≠ 13) :
    Calls Try.prog 4 #[.int .u8 a] w fun e w' => e = .returned (.bool true) ∧ Below w.heap.size w w' := by
  have hcv : ∀ (w : World), (convert 22 9 (.slice (some ⟨w.heap.size, 0, none⟩) 1 1)).run Try.prog (w.alloc (.cells #[.int .u8 a] 5)) = .ok (.string ⟨#[c]⟩) (w.alloc (.cells #[.int .u8 a] 5)) := by
    rw [ha.out]
    exact fun w => (isBytes_new w _ (0, 0) [c] 1 1 rfl (cells_of [c])).conv
  have V : Hid (∀ w : World, Calls Try.prog 6 #[.string ⟨#[c]⟩] w fun e w' => e = .returned (.bool true) ∧ Below w.heap.size w w') := by
    intro w
    have hv : decide (c.toNat < 128) = true := by have := ha.out; simp; omega
    have := one_valid c w
    rw [hv] at this
    exact this
  have X : Hid (∀ w : World, Calls Try.prog 7 #[.slice (some ⟨w.heap.size, 0, none⟩) 1 1] (w.alloc (.cells #[.int .u8 a] 5)) fun e w' => e = .returned (.string ⟨#[c]⟩) ∧ Below (w.heap.size + 1) (w.alloc (.cells #[.int .u8 a] 5)) w') := by
    intro w
    have hw : wantOf c = [c] := by have := ha.out; unfold wantOf; rw [if_neg (by omega), if_neg (by omega)]
    have hi := isBytes_new w #[.int .u8 (c.toNat : Int)] (0, 0) [c] 1 1 rfl (cells_of [c])
    rw [← ha.out] at hi
    have := one_fix c _ _ hi
    rw [hw] at this
    simpa using this
  have hB : (a == 13) = false := beq_eq_false_iff_ne.2 h2
  clear h2
  have hC : decide (128 ≤ a) = false := by simp; omega
  have hD : (a == 0) = false := beq_eq_false_iff_ne.2 (by omega)
  have hL : decide (a < 128) = true := by simp; omega
  go_enter Try.func4, Try.ntmps4
  go_wp2_with fail
  refine (awake_any _).mono ?_
  rintro e w1 ⟨rfl, hb1⟩
  go_wp2_with fail
  refine (V.out _).mono ?_
  rintro e w2 ⟨rfl, hb2⟩
  go_wp2_with fail
  refine (X.out _).mono ?_
  rintro e w3 ⟨rfl, hb3⟩
  go_wp2_with fail
  refine (one_many c _).mono ?_
  rintro e w4 ⟨rfl, hb4⟩
  go_wp2_with fail
  refine (one_cut c _).mono ?_
  rintro e w5 ⟨rfl, hb5⟩
  go_wp2_with fail
  go_ret
  exact ⟨ret_bool (by simp), one_below hb1 hb2 hb3 hb4 hb5⟩

theorem lawOne_walk (a : Int) (w : World) (wa : (Lit.int .u8 a).wf = true) :
    Calls Try.prog 4 #[.int .u8 a] w fun e w' => e = .returned (.bool true) ∧ Below w.heap.size w w' := by
  have hb := bounds_u8 wa
  have ha : Hid (a = ((UInt8.ofNat a.toNat).toNat : Int)) := by
    show a = ((UInt8.ofNat a.toNat).toNat : Int)
    rw [toNat_ofNat (by omega)]
    omega
  by_cases h1 : 128 ≤ a
  · exact lawOne_high _ a w ha h1
  · by_cases h2 : a = 0
    · exact lawOne_zero _ a w ha h2
    · by_cases h3 : a = 13
      · exact lawOne_thirteen _ a w ha h3
      · exact lawOne_other _ a w ha (by omega) (by omega) h3
end Go.Proofs.Ytnjdmkkifdiedab
