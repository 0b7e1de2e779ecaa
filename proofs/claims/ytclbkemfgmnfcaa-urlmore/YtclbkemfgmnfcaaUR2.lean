/-
  What the document's own Scheme answers at every place.
-/
import Derived.Test.YtclbkemfgmnfcaaUR1
namespace Go.Proofs.Ytclbkemfgmnfcaa
open Go.RowKit
open Utf1

def schS : Option (List UInt8) → ByteArray
  | some x => ⟨x.toArray⟩
  | none => ⟨#[]⟩

set_option maxHeartbeats 4000000 in
theorem rscheme_any (s : ByteArray) (hs : s.size ≤ 100000) (w : World) :
    Calls Try.prog 11 #[.string s] w fun e w' => e = .returned (.tuple #[.string (schS (scheme (bl s))), .bool (scheme (bl s)).isSome]) ∧ Below w.heap.size w w' := by
  have c1 := fun w => rbare_any s hs w
  have hbl := bare_len (bl s)
  rw [bl_len] at hbl
  have c2 := fun w => rlower_any (⟨(bare (bl s)).toArray⟩ : ByteArray) w (by rw [size_mk]; omega)
  have HB0 : Hid (bl ⟨(lower (bare (bl s))).toArray⟩ = lower (bare (bl s))) := hide rfl
  have hbs : (⟨(lower (bare (bl s))).toArray⟩ : ByteArray).size ≤ 100000 := by
    rw [size_mk]
    unfold lower
    rw [List.length_map]
    omega
  have e2 : lower (bl (⟨(bare (bl s)).toArray⟩ : ByteArray)) = lower (bare (bl s)) := rfl
  rw [e2] at c2
  have HS : Hid (scheme (bl s) = schA (bl (⟨(lower (bare (bl s))).toArray⟩ : ByteArray))) := hide rfl
  generalize (⟨(bare (bl s)).toArray⟩ : ByteArray) = A at c1 c2
  generalize (⟨(lower (bare (bl s))).toArray⟩ : ByteArray) = B at c2 HB0 hbs HS
  clear hbl e2
  go_enter Try.func11, Try.ntmps11
  go_wp2_with fail
  refine (c1 _).mono ?_
  rintro e w1 ⟨rfl, rfl⟩
  go_wp2_with fail
  refine (c2 _).mono ?_
  rintro e w2 ⟨rfl, HB⟩
  clear c1 c2
  go_wp2_with fail
  go_loopg [5] B.size (fun g v wx => wx = w2 ∧ ∃ p : Nat, p + g = B.size ∧ v = .int .i64 (p : Int) ∧ Hid (scheme (bl s) = schP (bl B) p))
  case atStart => exact ⟨rfl, 0, by omega, rfl, hide (by rw [HS.out, schP_zero])⟩
  case round =>
    obtain ⟨rfl, p, hp, rfl, HD⟩ := hrel
    by_cases hlt : p < B.size
    · obtain ⟨c, hc⟩ := getK B p hlt
      have i00 := fun w => idxK hc w
      have hcb := c.toNat_lt
      have HGO : Hid (c.toNat ≠ 58 → ((97 ≤ c.toNat ∧ c.toNat ≤ 122) ∨ (p ≠ 0 ∧ ((48 ≤ c.toNat ∧ c.toNat ≤ 57) ∨ c.toNat = 43 ∨ c.toNat = 45 ∨ c.toNat = 46))) → scheme (bl s) = schP (bl B) (p + 1)) := hide (fun h58 ho => by
        rw [HD.out]
        apply schP_go hc (ne_of_toNat h58)
        rcases ho with h | h
        · exact .inl (letB_yes h.1 h.2)
        · exact .inr ⟨h.1, schB_yes h.2⟩)
      have HMI : Hid ((c.toNat < 97 ∨ 122 < c.toNat) → (p = 0 ∨ (c.toNat ≠ 58 ∧ (c.toNat < 48 ∨ 57 < c.toNat) ∧ c.toNat ≠ 43 ∧ c.toNat ≠ 45 ∧ c.toNat ≠ 46)) → scheme (bl s) = none) := hide (fun hl ho => by
        rw [HD.out]
        apply schP_miss hc (letB_no hl)
        rcases ho with h | h
        · exact .inl h
        · exact .inr ⟨ne_of_toNat h.1, schB_no hl h.2.1 h.2.2⟩)
      have HHI : Hid (c.toNat = 58 → p ≠ 0 → scheme (bl s) = some ((bl B).take p)) := hide (fun h h0 => by
        have e : c = 58 := UInt8.toNat_inj.1 h
        rw [e] at hc
        rw [HD.out, schP_hit hc h0])
      have HX : Hid (schS (some ((bl B).take p)) = B.extract 0 p) := hide (by rw [extract_take]; rfl)
      obtain ⟨n, hn⟩ : ∃ n, n = c.toNat := ⟨_, rfl⟩
      rw [← hn] at i00 hcb HGO HMI HHI
      have i0 : ∀ w, (Instr.index 9 (.string B) (.int .i64 (p : Int))).run Try.prog w = .ok (.int .u8 (n : Int)) w := i00
      clear i00 hn hc HD
      by_cases hlet : 97 ≤ n ∧ n ≤ 122
      · have HN := hide (HGO.out (by omega) (.inl ⟨by omega, by omega⟩))
        have d97 : decide ((97 : Int) ≤ (n : Int)) = true := decide_eq_true (by omega)
        have d122 : decide ((n : Int) ≤ 122) = true := decide_eq_true (by omega)
        have q58 : ((n : Int) == 58) = false := beq_eq_false_iff_ne.2 (by omega)
        clear HGO HMI HHI HX hlet
        go_wp2_with fail
        go_roundg (gk - 1)
        case measure => omega
        case rel => exact ⟨rfl, p + 1, by omega, by first | rfl | simp, HN⟩
      · by_cases hz : p = 0
        · rcases (show n = 58 ∨ (n < 97 ∧ n ≠ 58) ∨ 122 < n from by omega) with h | h | h
          · have HN := hide (HMI.out (by omega) (by omega))
            have d97 : decide ((97 : Int) ≤ (n : Int)) = false := decide_eq_false (by omega)
            have q58 : ((n : Int) == 58) = true := beq_iff_eq.2 (by omega)
            have dp : ¬ 0 < p := by omega
            have z0 : ((p : Int) == 0) = true := beq_iff_eq.2 (by omega)
            clear HGO HMI HHI HX h hlet hz
            go_wp2_with fail
            go_ret2
            rw [HN.out]
            exact ⟨rfl, HB⟩
          · have HN := hide (HMI.out (by omega) (by omega))
            have d97 : decide ((97 : Int) ≤ (n : Int)) = false := decide_eq_false (by omega)
            have q58 : ((n : Int) == 58) = false := beq_eq_false_iff_ne.2 (by omega)
            have z0 : ((p : Int) == 0) = true := beq_iff_eq.2 (by omega)
            clear HGO HMI HHI HX h hlet hz
            go_wp2_with fail
            go_ret2
            rw [HN.out]
            exact ⟨rfl, HB⟩
          · have HN := hide (HMI.out (by omega) (by omega))
            have d97 : decide ((97 : Int) ≤ (n : Int)) = true := decide_eq_true (by omega)
            have d122 : decide ((n : Int) ≤ 122) = false := decide_eq_false (by omega)
            have q58 : ((n : Int) == 58) = false := beq_eq_false_iff_ne.2 (by omega)
            have z0 : ((p : Int) == 0) = true := beq_iff_eq.2 (by omega)
            clear HGO HMI HHI HX h hlet hz
            go_wp2_with fail
            go_ret2
            rw [HN.out]
            exact ⟨rfl, HB⟩
        · rcases (show n = 58 ∨ (48 ≤ n ∧ n ≤ 57) ∨ n = 43 ∨ n = 45 ∨ n = 46 ∨ (n < 48 ∧ n ≠ 43 ∧ n ≠ 45 ∧ n ≠ 46) ∨ (58 < n ∧ n < 97) ∨ 122 < n from by omega) with h | h | h | h | h | h | h | h
          · have HN := hide (HHI.out (by omega) (by omega))
            have d97 : decide ((97 : Int) ≤ (n : Int)) = false := decide_eq_false (by omega)
            have q58 : ((n : Int) == 58) = true := beq_iff_eq.2 (by omega)
            have dp : 0 < p := by omega
            clear HGO HMI HHI h hlet hz
            go_wp2_with fail
            go_ret2
            rw [HN.out, HX.out]
            exact ⟨rfl, HB⟩
          · have HN := hide (HGO.out (by omega) (.inr ⟨by omega, by omega⟩))
            have d97 : decide ((97 : Int) ≤ (n : Int)) = false := decide_eq_false (by omega)
            have q58 : ((n : Int) == 58) = false := beq_eq_false_iff_ne.2 (by omega)
            have z0 : ((p : Int) == 0) = false := beq_eq_false_iff_ne.2 (by omega)
            have d48 : decide ((48 : Int) ≤ (n : Int)) = true := decide_eq_true (by omega)
            have d57 : decide ((n : Int) ≤ 57) = true := decide_eq_true (by omega)
            clear HGO HMI HHI HX h hlet hz
            go_wp2_with fail
            go_roundg (gk - 1)
            case measure => omega
            case rel => exact ⟨rfl, p + 1, by omega, by first | rfl | simp, HN⟩
          · have HN := hide (HGO.out (by omega) (.inr ⟨by omega, by omega⟩))
            have d97 : decide ((97 : Int) ≤ (n : Int)) = false := decide_eq_false (by omega)
            have q58 : ((n : Int) == 58) = false := beq_eq_false_iff_ne.2 (by omega)
            have z0 : ((p : Int) == 0) = false := beq_eq_false_iff_ne.2 (by omega)
            have d48 : decide ((48 : Int) ≤ (n : Int)) = false := decide_eq_false (by omega)
            have n43 : ((n : Int) != 43) = false := by simp; omega
            clear HGO HMI HHI HX h hlet hz
            go_wp2_with fail
            go_roundg (gk - 1)
            case measure => omega
            case rel => exact ⟨rfl, p + 1, by omega, by first | rfl | simp, HN⟩
          · have HN := hide (HGO.out (by omega) (.inr ⟨by omega, by omega⟩))
            have d97 : decide ((97 : Int) ≤ (n : Int)) = false := decide_eq_false (by omega)
            have q58 : ((n : Int) == 58) = false := beq_eq_false_iff_ne.2 (by omega)
            have z0 : ((p : Int) == 0) = false := beq_eq_false_iff_ne.2 (by omega)
            have d48 : decide ((48 : Int) ≤ (n : Int)) = false := decide_eq_false (by omega)
            have n43 : ((n : Int) != 43) = true := by simp; omega
            have n45 : ((n : Int) != 45) = false := by simp; omega
            clear HGO HMI HHI HX h hlet hz
            go_wp2_with fail
            go_roundg (gk - 1)
            case measure => omega
            case rel => exact ⟨rfl, p + 1, by omega, by first | rfl | simp, HN⟩
          · have HN := hide (HGO.out (by omega) (.inr ⟨by omega, by omega⟩))
            have d97 : decide ((97 : Int) ≤ (n : Int)) = false := decide_eq_false (by omega)
            have q58 : ((n : Int) == 58) = false := beq_eq_false_iff_ne.2 (by omega)
            have z0 : ((p : Int) == 0) = false := beq_eq_false_iff_ne.2 (by omega)
            have d48 : decide ((48 : Int) ≤ (n : Int)) = false := decide_eq_false (by omega)
            have n43 : ((n : Int) != 43) = true := by simp; omega
            have n45 : ((n : Int) != 45) = true := by simp; omega
            have n46 : ((n : Int) != 46) = false := by simp; omega
            clear HGO HMI HHI HX h hlet hz
            go_wp2_with fail
            go_roundg (gk - 1)
            case measure => omega
            case rel => exact ⟨rfl, p + 1, by omega, by first | rfl | simp, HN⟩
          · have HN := hide (HMI.out (by omega) (by omega))
            have d97 : decide ((97 : Int) ≤ (n : Int)) = false := decide_eq_false (by omega)
            have q58 : ((n : Int) == 58) = false := beq_eq_false_iff_ne.2 (by omega)
            have z0 : ((p : Int) == 0) = false := beq_eq_false_iff_ne.2 (by omega)
            have d48 : decide ((48 : Int) ≤ (n : Int)) = false := decide_eq_false (by omega)
            have n43 : ((n : Int) != 43) = true := by simp; omega
            have n45 : ((n : Int) != 45) = true := by simp; omega
            have n46 : ((n : Int) != 46) = true := by simp; omega
            clear HGO HMI HHI HX h hlet hz
            go_wp2_with fail
            go_ret2
            rw [HN.out]
            exact ⟨rfl, HB⟩
          · have HN := hide (HMI.out (by omega) (by omega))
            have d97 : decide ((97 : Int) ≤ (n : Int)) = false := decide_eq_false (by omega)
            have q58 : ((n : Int) == 58) = false := beq_eq_false_iff_ne.2 (by omega)
            have z0 : ((p : Int) == 0) = false := beq_eq_false_iff_ne.2 (by omega)
            have d48 : decide ((48 : Int) ≤ (n : Int)) = true := decide_eq_true (by omega)
            have d57 : decide ((n : Int) ≤ 57) = false := decide_eq_false (by omega)
            have n43 : ((n : Int) != 43) = true := by simp; omega
            have n45 : ((n : Int) != 45) = true := by simp; omega
            have n46 : ((n : Int) != 46) = true := by simp; omega
            clear HGO HMI HHI HX h hlet hz
            go_wp2_with fail
            go_ret2
            rw [HN.out]
            exact ⟨rfl, HB⟩
          · have HN := hide (HMI.out (by omega) (by omega))
            have d97 : decide ((97 : Int) ≤ (n : Int)) = true := decide_eq_true (by omega)
            have d122 : decide ((n : Int) ≤ 122) = false := decide_eq_false (by omega)
            have q58 : ((n : Int) == 58) = false := beq_eq_false_iff_ne.2 (by omega)
            have z0 : ((p : Int) == 0) = false := beq_eq_false_iff_ne.2 (by omega)
            have d48 : decide ((48 : Int) ≤ (n : Int)) = true := decide_eq_true (by omega)
            have d57 : decide ((n : Int) ≤ 57) = false := decide_eq_false (by omega)
            have n43 : ((n : Int) != 43) = true := by simp; omega
            have n45 : ((n : Int) != 45) = true := by simp; omega
            have n46 : ((n : Int) != 46) = true := by simp; omega
            clear HGO HMI HHI HX h hlet hz
            go_wp2_with fail
            go_ret2
            rw [HN.out]
            exact ⟨rfl, HB⟩
    · have HN : Hid (scheme (bl s) = none) := hide (by rw [HD.out, schP_end (by rw [bl_len]; omega)])
      clear HD
      go_wp2_with fail
      go_ret2
      rw [HN.out]
      exact ⟨rfl, HB⟩
end Go.Proofs.Ytclbkemfgmnfcaa
