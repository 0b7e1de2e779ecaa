/-
  What the law's own digits are.
-/
import Derived.Test.YtlcmdgodpedimabDoorP8
namespace Go.Proofs.YtlcmdgodpedimabDoor
open Go.RowKit
open Utf1

/-- The text of all digits. -/
def dtab : List UInt8 := [48, 49, 50, 51, 52, 53, 54, 55, 56, 57, 97, 98, 99, 100, 101, 102]
theorem dtab_dig : ∀ k : Fin 16, dig ((dtab[k.val]'(by have := k.isLt; exact this)).toNat) = k.val := by decide
theorem dtab_mem (k : Nat) (h : k < 16) : dtab[k]'h ∈ dtab := List.getElem_mem ..
theorem dtab_cut (k : Nat) (h : k < 16) : bl ((⟨#[48, 49, 50, 51, 52, 53, 54, 55, 56, 57, 97, 98, 99, 100, 101, 102]⟩ : ByteArray).extract k (k + 1)) = [dtab[k]'h] := by
  rw [extract_bl]
  show (dtab.drop k).take (k + 1 - k) = _
  rw [show k + 1 - k = 1 by omega, List.drop_eq_getElem_cons (show k < dtab.length from h)]
  rfl
theorem app_bl (a b : ByteArray) : bl (a ++ b) = bl a ++ bl b := by
  show (a ++ b).data.toList = _
  rw [ByteArray.data_append, Array.toList_append]
theorem ba_ext {a b : ByteArray} (h : bl a = bl b) : a = b := by
  cases a
  cases b
  simpa using h
theorem app_mk (a : ByteArray) (c : UInt8) (l : List UInt8) (h : bl a = [c]) : a ++ (⟨l.toArray⟩ : ByteArray) = ⟨(c :: l).toArray⟩ := ba_ext (by
  rw [app_bl, h]
  rfl)

/-- What digits are, and what they spell. -/
def IsDigits (b n : Nat) (D : List UInt8) : Prop := D ≠ [] ∧ (∀ c ∈ D, c ∈ dtab) ∧ num b 0 D = some n ∧ D.length ≤ (if b = 10 then 7 else 6)

theorem part10 (n m : Nat) (l : List UInt8) (hn : n ≤ 9999999) (h1 : m * 10 ^ l.length ≤ n) (h2 : l ≠ [] → 1 ≤ m) : l.length ≤ 6 := by
  by_cases hl : l = []
  · subst hl; simp
  · have hm := h2 hl
    rcases Nat.lt_or_ge 6 l.length with h | h
    · exfalso
      have hp : 10 ^ (6 + 1) ≤ 10 ^ l.length := Nat.pow_le_pow_right (by decide) h
      have hq : 1 * 10 ^ l.length ≤ m * 10 ^ l.length := Nat.mul_le_mul_right _ hm
      have : 10 ^ (6 + 1) = 10000000 := by decide
      omega
    · exact h

set_option maxHeartbeats 4000000 in
theorem digits10 (n : Nat) (hn : n ≤ 9999999) (w : World) :
    Calls Tryd.prog 7 #[.int .i64 (n : Int), .int .i64 10] w fun e w' => (∃ D, e = .returned (.string ⟨D.toArray⟩) ∧ Hid (IsDigits 10 n D)) ∧ Below w.heap.size w w' := by
  go_enter Tryd.func7, Tryd.ntmps7
  go_wp2
  go_loopg [0, 6] n (fun g v0 v6 wr => ∃ (m : Nat) (l : List UInt8), m ≤ g ∧ m ≤ 9999999 ∧ v0 = .int .i64 (m : Int) ∧ v6 = .string ⟨l.toArray⟩ ∧ Below w.heap.size w wr ∧ Hid ((∀ acc, num 10 acc l = some (acc * 10 ^ l.length + (n - m * 10 ^ l.length))) ∧ m * 10 ^ l.length ≤ n ∧ (l ≠ [] → 1 ≤ m) ∧ ∀ c ∈ l, c ∈ dtab))
  case atStart => exact ⟨n, [], Nat.le_refl _, hn, rfl, rfl, Below.refl _ _, hide ⟨fun acc => by simp [num], by simp, fun h => absurd rfl h, fun c hc => by cases hc⟩⟩
  case round =>
    obtain ⟨m, l, hmg, hm, rfl, rfl, hbw, HH⟩ := hrel
    have hlen : l.length ≤ 6 := part10 n m l hn HH.out.2.1 HH.out.2.2.1
    have hS : (⟨l.toArray⟩ : ByteArray).size ≤ 6 := by rw [size_mk]; exact hlen
    by_cases hge : 10 ≤ m
    · obtain ⟨k, hk⟩ : ∃ k : Int, k = ((m % 10 : Nat) : Int) := ⟨_, rfl⟩
      obtain ⟨d, hd⟩ : ∃ d : Int, d = ((m / 10 : Nat) : Int) := ⟨_, rfl⟩
      have f1 : Int.tmod (m : Int) 10 = k := by rw [hk]; rfl
      have f2 : Int.tdiv (m : Int) 10 = d := by rw [hd]; rfl
      have k0 : 0 ≤ k := by omega
      have k1 : k ≤ 10 - 1 := by omega
      have hk16 : m % 10 < 16 := by omega
      have hke : k.toNat = m % 10 := by omega
      have hke1 : (k + 1).toNat = m % 10 + 1 := by omega
      have hX : ((⟨#[48, 49, 50, 51, 52, 53, 54, 55, 56, 57, 97, 98, 99, 100, 101, 102]⟩ : ByteArray).extract k.toNat (k + 1).toNat).size ≤ 16 := by
        rw [hke, hke1, ← bl_len, dtab_cut _ hk16]
        exact (by decide : 1 ≤ 16)
      have hE := app_mk ((⟨#[48, 49, 50, 51, 52, 53, 54, 55, 56, 57, 97, 98, 99, 100, 101, 102]⟩ : ByteArray).extract k.toNat (k + 1).toNat) (dtab[m % 10]'hk16) l (by rw [hke, hke1]; exact dtab_cut _ hk16)
      have HD := hide hd
      have HE := hide hE
      have d0 : 0 ≤ d := by omega
      have d1 : d ≤ 9999999 := by omega
      clear hk hd hE hke hke1
      generalize (⟨l.toArray⟩ : ByteArray) = S at HE hS
      go_wp2
      go_region
      go_wp2
      have hdd := HD.out
      go_roundg (m / 10)
      case measure => omega
      case rel =>
        refine ⟨m / 10, (dtab[m % 10]'hk16) :: l, Nat.le_refl _, by omega, by rw [hdd], by rw [HE.out], hbw.drew, hide ?_⟩
        obtain ⟨g1, g2, g3, g4⟩ := HH.out
        have hdm : m / 10 * 10 + m % 10 = m := by omega
        have hp : 10 ^ (l.length + 1) = 10 * 10 ^ l.length := by rw [Nat.pow_succ, Nat.mul_comm]
        have hmul : m * 10 ^ l.length = m / 10 * 10 ^ (l.length + 1) + m % 10 * 10 ^ l.length := by
          rw [hp, ← Nat.mul_assoc, ← Nat.add_mul, hdm]
        refine ⟨fun acc => ?_, ?_, fun _ => by omega, ?_⟩
        · rw [num_cons]
          have e := dtab_dig ⟨m % 10, hk16⟩
          simp only at e
          rw [e, if_pos (by omega), g1, List.length_cons]
          congr 1
          have : (acc * 10 + m % 10) * 10 ^ l.length = acc * 10 ^ (l.length + 1) + m % 10 * 10 ^ l.length := by
            rw [Nat.add_mul, hp, Nat.mul_assoc]
          omega
        · rw [List.length_cons]
          omega
        · intro c hc
          rcases List.mem_cons.1 hc with rfl | hc
          · exact dtab_mem _ hk16
          · exact g4 c hc
    · have hm16 : m < 16 := by omega
      have hX : ((⟨#[48, 49, 50, 51, 52, 53, 54, 55, 56, 57, 97, 98, 99, 100, 101, 102]⟩ : ByteArray).extract m (m + 1)).size ≤ 16 := by
        rw [← bl_len, dtab_cut _ hm16]
        exact (by decide : 1 ≤ 16)
      have hE := app_mk ((⟨#[48, 49, 50, 51, 52, 53, 54, 55, 56, 57, 97, 98, 99, 100, 101, 102]⟩ : ByteArray).extract m (m + 1)) (dtab[m]'hm16) l (dtab_cut _ hm16)
      have HE := hide hE
      clear hE
      generalize (⟨l.toArray⟩ : ByteArray) = S at HE hS
      go_wp2
      go_ret
      refine ⟨⟨(dtab[m]'hm16) :: l, by rw [← HE.out]; rfl, hide ?_⟩, hbw⟩
      obtain ⟨g1, g2, g3, g4⟩ := HH.out
      refine ⟨by simp, ?_, ?_, ?_⟩
      · intro c hc
        rcases List.mem_cons.1 hc with rfl | hc
        · exact dtab_mem _ hm16
        · exact g4 c hc
      · rw [num_cons]
        have e := dtab_dig ⟨m, hm16⟩
        simp only at e
        rw [e, if_pos (by omega), g1]
        congr 1
        simp only [Nat.zero_mul, Nat.zero_add]
        omega
      · rw [List.length_cons]
        simp only [if_true]
        omega

theorem part16 (n m : Nat) (l : List UInt8) (hn : n ≤ 9999999) (h1 : m * 16 ^ l.length ≤ n) (h2 : l ≠ [] → 1 ≤ m) : l.length ≤ 5 := by
  by_cases hl : l = []
  · subst hl; simp
  · have hm := h2 hl
    rcases Nat.lt_or_ge 5 l.length with h | h
    · exfalso
      have hp : 16 ^ (5 + 1) ≤ 16 ^ l.length := Nat.pow_le_pow_right (by decide) h
      have hq : 1 * 16 ^ l.length ≤ m * 16 ^ l.length := Nat.mul_le_mul_right _ hm
      have : 16 ^ (5 + 1) = 16777216 := by decide
      omega
    · exact h

set_option maxHeartbeats 4000000 in
theorem digits16 (n : Nat) (hn : n ≤ 9999999) (w : World) :
    Calls Tryd.prog 7 #[.int .i64 (n : Int), .int .i64 16] w fun e w' => (∃ D, e = .returned (.string ⟨D.toArray⟩) ∧ Hid (IsDigits 16 n D)) ∧ Below w.heap.size w w' := by
  go_enter Tryd.func7, Tryd.ntmps7
  go_wp2
  go_loopg [0, 6] n (fun g v0 v6 wr => ∃ (m : Nat) (l : List UInt8), m ≤ g ∧ m ≤ 9999999 ∧ v0 = .int .i64 (m : Int) ∧ v6 = .string ⟨l.toArray⟩ ∧ Below w.heap.size w wr ∧ Hid ((∀ acc, num 16 acc l = some (acc * 16 ^ l.length + (n - m * 16 ^ l.length))) ∧ m * 16 ^ l.length ≤ n ∧ (l ≠ [] → 1 ≤ m) ∧ ∀ c ∈ l, c ∈ dtab))
  case atStart => exact ⟨n, [], Nat.le_refl _, hn, rfl, rfl, Below.refl _ _, hide ⟨fun acc => by simp [num], by simp, fun h => absurd rfl h, fun c hc => by cases hc⟩⟩
  case round =>
    obtain ⟨m, l, hmg, hm, rfl, rfl, hbw, HH⟩ := hrel
    have hlen : l.length ≤ 5 := part16 n m l hn HH.out.2.1 HH.out.2.2.1
    have hS : (⟨l.toArray⟩ : ByteArray).size ≤ 5 := by rw [size_mk]; exact hlen
    by_cases hge : 16 ≤ m
    · obtain ⟨k, hk⟩ : ∃ k : Int, k = ((m % 16 : Nat) : Int) := ⟨_, rfl⟩
      obtain ⟨d, hd⟩ : ∃ d : Int, d = ((m / 16 : Nat) : Int) := ⟨_, rfl⟩
      have f1 : Int.tmod (m : Int) 16 = k := by rw [hk]; rfl
      have f2 : Int.tdiv (m : Int) 16 = d := by rw [hd]; rfl
      have k0 : 0 ≤ k := by omega
      have k1 : k ≤ 16 - 1 := by omega
      have hk16 : m % 16 < 16 := by omega
      have hke : k.toNat = m % 16 := by omega
      have hke1 : (k + 1).toNat = m % 16 + 1 := by omega
      have hX : ((⟨#[48, 49, 50, 51, 52, 53, 54, 55, 56, 57, 97, 98, 99, 100, 101, 102]⟩ : ByteArray).extract k.toNat (k + 1).toNat).size ≤ 16 := by
        rw [hke, hke1, ← bl_len, dtab_cut _ hk16]
        exact (by decide : 1 ≤ 16)
      have hE := app_mk ((⟨#[48, 49, 50, 51, 52, 53, 54, 55, 56, 57, 97, 98, 99, 100, 101, 102]⟩ : ByteArray).extract k.toNat (k + 1).toNat) (dtab[m % 16]'hk16) l (by rw [hke, hke1]; exact dtab_cut _ hk16)
      have HD := hide hd
      have HE := hide hE
      have d0 : 0 ≤ d := by omega
      have d1 : d ≤ 9999999 := by omega
      clear hk hd hE hke hke1
      generalize (⟨l.toArray⟩ : ByteArray) = S at HE hS
      go_wp2
      go_region
      go_wp2
      have hdd := HD.out
      go_roundg (m / 16)
      case measure => omega
      case rel =>
        refine ⟨m / 16, (dtab[m % 16]'hk16) :: l, Nat.le_refl _, by omega, by rw [hdd], by rw [HE.out], hbw.drew, hide ?_⟩
        obtain ⟨g1, g2, g3, g4⟩ := HH.out
        have hdm : m / 16 * 16 + m % 16 = m := by omega
        have hp : 16 ^ (l.length + 1) = 16 * 16 ^ l.length := by rw [Nat.pow_succ, Nat.mul_comm]
        have hmul : m * 16 ^ l.length = m / 16 * 16 ^ (l.length + 1) + m % 16 * 16 ^ l.length := by
          rw [hp, ← Nat.mul_assoc, ← Nat.add_mul, hdm]
        refine ⟨fun acc => ?_, ?_, fun _ => by omega, ?_⟩
        · rw [num_cons]
          have e := dtab_dig ⟨m % 16, hk16⟩
          simp only at e
          rw [e, if_pos (by omega), g1, List.length_cons]
          congr 1
          have : (acc * 16 + m % 16) * 16 ^ l.length = acc * 16 ^ (l.length + 1) + m % 16 * 16 ^ l.length := by
            rw [Nat.add_mul, hp, Nat.mul_assoc]
          omega
        · rw [List.length_cons]
          omega
        · intro c hc
          rcases List.mem_cons.1 hc with rfl | hc
          · exact dtab_mem _ hk16
          · exact g4 c hc
    · have hm16 : m < 16 := by omega
      have hX : ((⟨#[48, 49, 50, 51, 52, 53, 54, 55, 56, 57, 97, 98, 99, 100, 101, 102]⟩ : ByteArray).extract m (m + 1)).size ≤ 16 := by
        rw [← bl_len, dtab_cut _ hm16]
        exact (by decide : 1 ≤ 16)
      have hE := app_mk ((⟨#[48, 49, 50, 51, 52, 53, 54, 55, 56, 57, 97, 98, 99, 100, 101, 102]⟩ : ByteArray).extract m (m + 1)) (dtab[m]'hm16) l (dtab_cut _ hm16)
      have HE := hide hE
      clear hE
      generalize (⟨l.toArray⟩ : ByteArray) = S at HE hS
      go_wp2
      go_ret
      refine ⟨⟨(dtab[m]'hm16) :: l, by rw [← HE.out]; rfl, hide ?_⟩, hbw⟩
      obtain ⟨g1, g2, g3, g4⟩ := HH.out
      refine ⟨by simp, ?_, ?_, ?_⟩
      · intro c hc
        rcases List.mem_cons.1 hc with rfl | hc
        · exact dtab_mem _ hm16
        · exact g4 c hc
      · rw [num_cons]
        have e := dtab_dig ⟨m, hm16⟩
        simp only at e
        rw [e, if_pos (by omega), g1]
        congr 1
        simp only [Nat.zero_mul, Nat.zero_add]
        omega
      · rw [List.length_cons]
        simp only [show ¬ (16 = 10) by decide, if_false]
        omega
end Go.Proofs.YtlcmdgodpedimabDoor
