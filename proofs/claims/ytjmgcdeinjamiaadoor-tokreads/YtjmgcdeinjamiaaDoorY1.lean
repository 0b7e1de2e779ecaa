/-
  The document's small functions of layer 3: blank, letter, begins, find, skip.
-/
import Derived.Test.YtjmgcdeinjamiaaDoorB8
namespace Go.Proofs.YtjmgcdeinjamiaaDoor
open Go.RowKit
open Utf1

theorem blank_any (c : UInt8) (w : World) :
    Calls Tryd.prog 52 #[.int .u8 (c.toNat : Int)] w fun e w' => e = .returned (.bool (isBl c)) ∧ w' = w := by
  have k : ∀ n : Nat, n < 256 → (c == UInt8.ofNat n) = decide (c.toNat = n) := by
    intro n hn
    by_cases h : c = UInt8.ofNat n
    · rw [beq_iff_eq.2 h, h, toNat_ofNat hn]
      simp
    · rw [beq_eq_false_iff_ne.2 h, decide_eq_false]
      intro e
      apply h
      rw [← e]
      simp
  have HI : Hid (isBl c = (decide (c.toNat = 9) || decide (c.toNat = 10) || decide (c.toNat = 12) || decide (c.toNat = 13) || decide (c.toNat = 32))) := hide (by
    unfold isBl
    rw [← k 9 (by decide), ← k 10 (by decide), ← k 12 (by decide), ← k 13 (by decide), ← k 32 (by decide)]
    rfl)
  clear k
  rw [HI.out]
  clear HI
  generalize c.toNat = n
  rcases (show n = 9 ∨ n = 10 ∨ n = 12 ∨ n = 13 ∨ n = 32 ∨ (n ≠ 9 ∧ n ≠ 10 ∧ n ≠ 12 ∧ n ≠ 13 ∧ n ≠ 32) from by omega) with rfl | rfl | rfl | rfl | rfl | ⟨h1, h2, h3, h4, h5⟩
  case inr.inr.inr.inr.inr =>
    have g1 : ((n : Int) == 9) = false := beq_eq_false_iff_ne.2 (by omega)
    have g2 : ((n : Int) == 10) = false := beq_eq_false_iff_ne.2 (by omega)
    have g3 : ((n : Int) == 12) = false := beq_eq_false_iff_ne.2 (by omega)
    have g4 : ((n : Int) == 13) = false := beq_eq_false_iff_ne.2 (by omega)
    have g5 : ((n : Int) == 32) = false := beq_eq_false_iff_ne.2 (by omega)
    rw [decide_eq_false h1, decide_eq_false h2, decide_eq_false h3, decide_eq_false h4, decide_eq_false h5]
    clear h1 h2 h3 h4 h5
    go_enter Tryd.func52, Tryd.ntmps52
    go_wp2_with fail
    go_ret
    exact ⟨rfl, rfl⟩
  all_goals
    go_enter Tryd.func52, Tryd.ntmps52
    go_wp2_with fail
    go_ret
    exact ⟨rfl, rfl⟩

theorem letter_any (c : UInt8) (w : World) :
    Calls Tryd.prog 48 #[.int .u8 (c.toNat : Int)] w fun e w' => e = .returned (.bool (isLet c)) ∧ w' = w := by
  have hb := c.toNat_lt
  have HI := hide (isLet_iff c)
  obtain ⟨n, hn⟩ : ∃ n, n = c.toNat := ⟨_, rfl⟩
  rw [← hn] at HI hb ⊢
  rw [HI.out]
  clear HI hn
  rcases (show n < 65 ∨ (65 ≤ n ∧ n ≤ 90) ∨ (90 < n ∧ n < 97) ∨ (97 ≤ n ∧ n ≤ 122) ∨ 122 < n from by omega) with h | ⟨h1, h2⟩ | ⟨h1, h2⟩ | ⟨h1, h2⟩ | h
  · rw [show decide ((97 ≤ n ∧ n ≤ 122) ∨ (65 ≤ n ∧ n ≤ 90)) = false from decide_eq_false (by omega)]
    have d1 : decide ((97 : Int) ≤ (n : Int)) = false := decide_eq_false (by omega)
    have d2 : decide ((65 : Int) ≤ (n : Int)) = false := decide_eq_false (by omega)
    clear h
    go_enter Tryd.func48, Tryd.ntmps48
    go_wp2_with fail
    go_ret
    exact ⟨rfl, rfl⟩
  · rw [show decide ((97 ≤ n ∧ n ≤ 122) ∨ (65 ≤ n ∧ n ≤ 90)) = true from decide_eq_true (by omega)]
    have d1 : decide ((97 : Int) ≤ (n : Int)) = false := decide_eq_false (by omega)
    have d2 : decide ((65 : Int) ≤ (n : Int)) = true := decide_eq_true (by omega)
    have d3 : decide ((n : Int) ≤ 90) = true := decide_eq_true (by omega)
    clear h1 h2
    go_enter Tryd.func48, Tryd.ntmps48
    go_wp2_with fail
    go_ret
    exact ⟨rfl, rfl⟩
  · rw [show decide ((97 ≤ n ∧ n ≤ 122) ∨ (65 ≤ n ∧ n ≤ 90)) = false from decide_eq_false (by omega)]
    have d1 : decide ((97 : Int) ≤ (n : Int)) = false := decide_eq_false (by omega)
    have d2 : decide ((65 : Int) ≤ (n : Int)) = true := decide_eq_true (by omega)
    have d3 : decide ((n : Int) ≤ 90) = false := decide_eq_false (by omega)
    clear h1 h2
    go_enter Tryd.func48, Tryd.ntmps48
    go_wp2_with fail
    go_ret
    exact ⟨rfl, rfl⟩
  · rw [show decide ((97 ≤ n ∧ n ≤ 122) ∨ (65 ≤ n ∧ n ≤ 90)) = true from decide_eq_true (by omega)]
    have d1 : decide ((97 : Int) ≤ (n : Int)) = true := decide_eq_true (by omega)
    have d2 : decide ((n : Int) ≤ 122) = true := decide_eq_true (by omega)
    clear h1 h2
    go_enter Tryd.func48, Tryd.ntmps48
    go_wp2_with fail
    go_ret
    exact ⟨rfl, rfl⟩
  · rw [show decide ((97 ≤ n ∧ n ≤ 122) ∨ (65 ≤ n ∧ n ≤ 90)) = false from decide_eq_false (by omega)]
    have d1 : decide ((97 : Int) ≤ (n : Int)) = true := decide_eq_true (by omega)
    have d2 : decide ((n : Int) ≤ 122) = false := decide_eq_false (by omega)
    have d3 : decide ((65 : Int) ≤ (n : Int)) = true := decide_eq_true (by omega)
    have d4 : decide ((n : Int) ≤ 90) = false := decide_eq_false (by omega)
    clear h
    go_enter Tryd.func48, Tryd.ntmps48
    go_wp2_with fail
    go_ret
    exact ⟨rfl, rfl⟩

theorem pre_take (t l : List UInt8) : t.isPrefixOf l = decide (t.length ≤ l.length ∧ l.take t.length = t) := by
  by_cases h : t <+: l
  · rw [List.isPrefixOf_iff_prefix.2 h, decide_eq_true]
    obtain ⟨r, rfl⟩ := h
    exact ⟨by simp, by simp⟩
  · rw [decide_eq_false, Bool.eq_false_iff]
    · exact fun e => h (List.isPrefixOf_iff_prefix.1 e)
    · rintro ⟨_, e⟩
      exact h ⟨l.drop t.length, by conv => lhs; lhs; rw [← e]
                                   exact List.take_append_drop _ _⟩
theorem ext_mid (s : ByteArray) (a b : Nat) : s.extract a b = ⟨(((bl s).drop a).take (b - a)).toArray⟩ := by
  apply ByteArray.ext
  rw [ByteArray.data_extract]
  apply Array.ext'
  simp [bl]
theorem rbegins_any (s : ByteArray) (p : Nat) (t : ByteArray) (hp : p ≤ s.size) (hs : s.size ≤ 100000) (ht : t.size ≤ 100000) (w : World) :
    Calls Tryd.prog 47 #[.string s, .int .i64 (p : Int), .string t] w fun e w' => e = .returned (.bool ((bl t).isPrefixOf ((bl s).drop p))) ∧ w' = w := by
  have HP := hide (pre_take (bl t) ((bl s).drop p))
  rw [HP.out]
  clear HP
  have hl : ((bl s).drop p).length = s.size - p := by rw [List.length_drop, bl_len]
  rw [hl, bl_len]
  by_cases h : p + t.size ≤ s.size
  · have hd : decide (t.size ≤ s.size - p ∧ ((bl s).drop p).take t.size = bl t) = ((s.extract p (p + t.size)).toList == t.toList) := by
      rw [ByteArray.toList_eq, ByteArray.toList_eq, ext_mid]
      show _ = (((bl s).drop p).take (p + t.size - p) == bl t)
      rw [Nat.add_sub_cancel_left]
      by_cases hq : ((bl s).drop p).take t.size = bl t
      · rw [decide_eq_true ⟨by omega, hq⟩, hq]
        simp
      · rw [decide_eq_false (fun h => hq h.2)]
        exact (beq_eq_false_iff_ne.2 hq).symm
    rw [hd]
    generalize hq : ((s.extract p (p + t.size)).toList == t.toList) = b
    clear hd hl
    have d1 : decide ((t.size : Int) ≤ (s.size : Int) - (p : Int)) = true := decide_eq_true (by omega)
    go_enter Tryd.func47, Tryd.ntmps47
    go_wp2
    go_ret
    exact ⟨rfl, rfl⟩
  · rw [decide_eq_false (by omega)]
    go_enter Tryd.func47, Tryd.ntmps47
    go_wp2
    go_ret
    exact ⟨rfl, rfl⟩

/-- How far ahead a text stands; the length: nowhere. -/
def findF (t : List UInt8) : List UInt8 → Nat
  | [] => 0
  | c :: r => if t.isPrefixOf (c :: r) then 0 else findF t r + 1
theorem findF_le (t : List UInt8) : ∀ l, findF t l ≤ l.length
  | [] => Nat.le_refl _
  | c :: r => by
    unfold findF
    split
    · exact Nat.zero_le _
    · have := findF_le t r
      simp only [List.length_cons]
      omega
theorem dropc {s : ByteArray} {p : Nat} (h : p < s.size) : ∃ c, (bl s).drop p = c :: (bl s).drop (p + 1) ∧ (bl s)[p]? = some c := by
  have hp : p < (bl s).length := by rw [bl_len]; exact h
  exact ⟨(bl s)[p], List.drop_eq_getElem_cons hp, List.getElem?_eq_getElem hp⟩
theorem drop_end {s : ByteArray} {p : Nat} (h : ¬ p < s.size) : (bl s).drop p = [] := List.drop_eq_nil_of_le (by rw [bl_len]; omega)

set_option maxHeartbeats 4000000 in
theorem find_any (s : ByteArray) (p : Nat) (t : ByteArray) (hp : p ≤ s.size) (hs : s.size ≤ 100000) (ht : t.size ≤ 100000) (w : World) :
    Calls Tryd.prog 27 #[.string s, .int .i64 (p : Int), .string t] w fun e w' => e = .returned (.int .i64 ((p + findF (bl t) ((bl s).drop p) : Nat) : Int)) ∧ w' = w := by
  obtain ⟨R, hR⟩ : ∃ R, R = p + findF (bl t) ((bl s).drop p) := ⟨_, rfl⟩
  rw [← hR]
  have HB := hide (fun (q : Nat) (hq : q ≤ s.size) (w : World) => rbegins_any s q t hq hs ht w)
  go_enter Tryd.func27, Tryd.ntmps27
  go_wp2_with fail
  go_loopg [1] (s.size - p) (fun g v wr => ∃ q : Nat, q + g = s.size ∧ v = .int .i64 (q : Int) ∧ wr = w ∧ Hid (R = q + findF (bl t) ((bl s).drop q)))
  case atStart => exact ⟨p, by omega, rfl, rfl, hide hR⟩
  case round =>
    obtain ⟨q, hqg, rfl, rfl, HR⟩ := hrel
    clear hR
    by_cases hlt : q < s.size
    · have hb := HB.out q (by omega)
      obtain ⟨c, hc, -⟩ := dropc hlt
      have hd : decide ((q : Int) < (s.size : Int)) = true := decide_eq_true (by omega)
      cases hpre : (bl t).isPrefixOf ((bl s).drop q) with
      | true =>
        rw [hpre] at hb
        have hRq : R = q := by
          rw [HR.out, hc]
          unfold findF
          rw [if_pos (by rw [← hc]; exact hpre)]
          rfl
        subst hRq
        clear hpre HR hc
        have HBB := hide hb
        clear hb
        go_wp2_with fail
        refine (HBB.out _).mono ?_
        rintro e w1 ⟨rfl, rfl⟩
        go_wp2_with fail
        go_ret
        exact ⟨rfl, rfl⟩
      | false =>
        rw [hpre] at hb
        have HR2 : Hid (R = (q + 1) + findF (bl t) ((bl s).drop (q + 1))) := hide (by
          rw [HR.out, hc]
          conv => lhs; rw [findF]
          rw [if_neg (by rw [← hc, hpre]; decide)]
          omega)
        clear hpre HR hc
        have HBB := hide hb
        clear hb
        go_wp2_with fail
        refine (HBB.out _).mono ?_
        rintro e w1 ⟨rfl, rfl⟩
        go_wp2_with fail
        go_roundg (gk - 1)
        case measure => omega
        case rel => exact ⟨q + 1, by omega, by first | rfl | (rw [wrap64_in _ ⟨by omega, by omega⟩]; rfl) | simp, rfl, HR2⟩
    · have hRq : R = q := by
        rw [HR.out, drop_end hlt]
        rfl
      subst hRq
      have hd : decide ((R : Int) < (s.size : Int)) = false := decide_eq_false (by omega)
      clear HR
      go_wp2_with fail
      go_ret
      exact ⟨rfl, rfl⟩

set_option maxHeartbeats 4000000 in
theorem skip_any (s : ByteArray) (p : Nat) (hp : p ≤ s.size) (hs : s.size ≤ 100000) (w : World) :
    Calls Tryd.prog 53 #[.string s, .int .i64 (p : Int)] w fun e w' => e = .returned (.int .i64 ((p + (((bl s).drop p).takeWhile isBl).length : Nat) : Int)) ∧ w' = w := by
  obtain ⟨R, hR⟩ : ∃ R, R = p + (((bl s).drop p).takeWhile isBl).length := ⟨_, rfl⟩
  rw [← hR]
  go_enter Tryd.func53, Tryd.ntmps53
  go_wp2_with fail
  go_loopg [1] (s.size - p) (fun g v wr => ∃ q : Nat, q + g = s.size ∧ v = .int .i64 (q : Int) ∧ wr = w ∧ Hid (R = q + (((bl s).drop q).takeWhile isBl).length))
  case atStart => exact ⟨p, by omega, rfl, rfl, hide hR⟩
  case round =>
    obtain ⟨q, hqg, rfl, rfl, HR⟩ := hrel
    clear hR
    by_cases hlt : q < s.size
    · obtain ⟨c, hc, hge⟩ := dropc hlt
      have i0 := fun w => idxK hge w
      have hb := fun w => blank_any c w
      have hd : decide ((q : Int) < (s.size : Int)) = true := decide_eq_true (by omega)
      obtain ⟨z, hz⟩ : ∃ z : Int, z = (c.toNat : Int) := ⟨_, rfl⟩
      rw [← hz] at i0 hb
      cases hbc : isBl c with
      | true =>
        rw [hbc] at hb
        have HR2 : Hid (R = (q + 1) + (((bl s).drop (q + 1)).takeWhile isBl).length) := hide (by
          rw [HR.out, hc, List.takeWhile_cons, if_pos hbc, List.length_cons]
          omega)
        have HBB := hide hb
        clear hb HR hc hge hbc hz
        go_wp2_with fail
        refine (HBB.out _).mono ?_
        rintro e w1 ⟨rfl, rfl⟩
        go_wp2_with fail
        go_roundg (gk - 1)
        case measure => omega
        case rel => exact ⟨q + 1, by omega, by first | rfl | (rw [wrap64_in _ ⟨by omega, by omega⟩]; rfl) | simp, rfl, HR2⟩
      | false =>
        rw [hbc] at hb
        have hRq : R = q := by
          rw [HR.out, hc, List.takeWhile_cons, if_neg (by rw [hbc]; decide)]
          rfl
        subst hRq
        have HBB := hide hb
        clear hb HR hc hge hbc hz
        go_wp2_with fail
        refine (HBB.out _).mono ?_
        rintro e w1 ⟨rfl, rfl⟩
        go_wp2_with fail
        go_ret
        exact ⟨rfl, rfl⟩
    · have hRq : R = q := by
        rw [HR.out, drop_end hlt]
        rfl
      subst hRq
      have hd : decide ((R : Int) < (s.size : Int)) = false := decide_eq_false (by omega)
      clear HR
      go_wp2_with fail
      go_ret
      exact ⟨rfl, rfl⟩
end Go.Proofs.YtjmgcdeinjamiaaDoor
