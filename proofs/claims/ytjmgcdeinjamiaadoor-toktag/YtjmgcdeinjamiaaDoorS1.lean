/-
  What versolaw03.simple answers: where it is true, the name is simple.
-/
import Derived.Test.YtjmgcdeinjamiaaDoorB1
import Derived.Test.YtjmgcdeinjamiaaDoorM5
namespace Go.Proofs.YtjmgcdeinjamiaaDoor
open Go.RowKit
open Utf1

/-- So far small letters, and digits behind the first. -/
def simUpto (l : List UInt8) (p : Nat) : Prop := ∀ j c, j < p → l[j]? = some c → (97 ≤ c.toNat ∧ c.toNat ≤ 122) ∨ (0 < j ∧ 48 ≤ c.toNat ∧ c.toNat ≤ 57)
theorem simUpto_more {l : List UInt8} {p : Nat} {c : UInt8} (h : simUpto l p) (hc : l[p]? = some c) (ho : (97 ≤ c.toNat ∧ c.toNat ≤ 122) ∨ (0 < p ∧ 48 ≤ c.toNat ∧ c.toNat ≤ 57)) : simUpto l (p + 1) := by
  intro j d hj hd
  by_cases e : j = p
  · subst e
    rw [hc] at hd
    cases hd
    exact ho
  · exact h j d (by omega) hd
theorem simple_of {l : List UInt8} (h : simUpto l l.length) (hl : 0 < l.length) : Simple l := by
  refine ⟨?_, ?_⟩
  · cases l with
    | nil => simp at hl
    | cons c t =>
      refine ⟨c, t, rfl, ?_⟩
      rcases h 0 c (by simp) rfl with h | h
      · exact h
      · omega
  · intro c hc
    obtain ⟨j, hj, e⟩ := List.mem_iff_getElem.1 hc
    rcases h j c hj (by rw [List.getElem?_eq_getElem hj, e]) with h | h
    · exact .inl h
    · exact .inr h.2

def SimRet (s : ByteArray) (w : World) (e : Ending) (w' : World) : Prop := ∃ b : Bool, e = .returned (.bool b) ∧ w' = w ∧ (b = true → Simple (bl s))

set_option maxHeartbeats 4000000 in
theorem simple_any (s : ByteArray) (w : World) (hm : s.size ≤ 9223372036854775807) :
    Calls Tryd.prog 16 #[.string s] w fun e w' => SimRet s w e w' := by
  go_enter Tryd.func16, Tryd.ntmps16
  go_wp2_with fail
  go_loopg [3] s.size (fun g v wr => ∃ p : Nat, p + g = s.size ∧ v = .int .i64 (p : Int) ∧ wr = w ∧ Hid (simUpto (bl s) p))
  case atStart => exact ⟨0, by omega, rfl, rfl, hide (fun j c hj => by omega)⟩
  case round =>
    obtain ⟨p, hpg, rfl, rfl, HS⟩ := hrel
    by_cases hlt : p < s.size
    · have hge : (bl s)[p]? = some ((bl s)[p]'(by rw [bl_len]; exact hlt)) := List.getElem?_eq_getElem _
      generalize (bl s)[p]'(by rw [bl_len]; exact hlt) = c at hge
      have i00 := fun w => idxK hge w
      have hcb := c.toNat_lt
      have HM := hide (fun ho => simUpto_more HS.out hge ho)
      obtain ⟨n, hn⟩ : ∃ n, n = c.toNat := ⟨_, rfl⟩
      rw [← hn] at i00 hcb HM
      have i0 : ∀ w, (Instr.index 9 (.string s) (.int .i64 (p : Int))).run Tryd.prog w = .ok (.int .u8 (n : Int)) w := i00
      clear i00 hn hge HS
      by_cases h1 : 97 ≤ n ∧ n ≤ 122
      · have HN := hide (HM.out (.inl h1))
        have d97 : decide ((97 : Int) ≤ (n : Int)) = true := decide_eq_true (by omega)
        have d122 : decide ((n : Int) ≤ 122) = true := decide_eq_true (by omega)
        clear HM h1
        go_wp2_with fail
        go_roundg (gk - 1)
        case measure => omega
        case rel => exact ⟨p + 1, by omega, by first | rfl | simp | (rw [wrap64_in _ ⟨by omega, by omega⟩]; rfl), rfl, HN⟩
      · by_cases h2 : 0 < p ∧ 48 ≤ n ∧ n ≤ 57
        · have HN := hide (HM.out (.inr h2))
          have d97 : decide ((97 : Int) ≤ (n : Int)) = false := decide_eq_false (by omega)
          have dp : 0 < p := by omega
          have d48 : decide ((48 : Int) ≤ (n : Int)) = true := decide_eq_true (by omega)
          have d57 : decide ((n : Int) ≤ 57) = true := decide_eq_true (by omega)
          clear HM h1 h2
          go_wp2_with fail
          go_roundg (gk - 1)
          case measure => omega
          case rel => exact ⟨p + 1, by omega, by first | rfl | simp | (rw [wrap64_in _ ⟨by omega, by omega⟩]; rfl), rfl, HN⟩
        · clear HM
          by_cases hp : 0 < p
          · rcases (show n < 48 ∨ (57 < n ∧ n < 97) ∨ 122 < n from by omega) with h | h | h
            · have d97 : decide ((97 : Int) ≤ (n : Int)) = false := decide_eq_false (by omega)
              have dp : 0 < p := by omega
              have d48 : decide ((48 : Int) ≤ (n : Int)) = false := decide_eq_false (by omega)
              clear h h1 h2 hp
              go_wp2_with fail
              go_ret
              exact ⟨false, rfl, rfl, fun h => by cases h⟩
            · have d97 : decide ((97 : Int) ≤ (n : Int)) = false := decide_eq_false (by omega)
              have dp : 0 < p := by omega
              have d48 : decide ((48 : Int) ≤ (n : Int)) = true := decide_eq_true (by omega)
              have d57 : decide ((n : Int) ≤ 57) = false := decide_eq_false (by omega)
              clear h h1 h2 hp
              go_wp2_with fail
              go_ret
              exact ⟨false, rfl, rfl, fun h => by cases h⟩
            · have d97 : decide ((97 : Int) ≤ (n : Int)) = true := decide_eq_true (by omega)
              have d122 : decide ((n : Int) ≤ 122) = false := decide_eq_false (by omega)
              have dp : 0 < p := by omega
              have d48 : decide ((48 : Int) ≤ (n : Int)) = true := decide_eq_true (by omega)
              have d57 : decide ((n : Int) ≤ 57) = false := decide_eq_false (by omega)
              clear h h1 h2 hp
              go_wp2_with fail
              go_ret
              exact ⟨false, rfl, rfl, fun h => by cases h⟩
          · rcases (show n < 97 ∨ 122 < n from by omega) with h | h
            · have d97 : decide ((97 : Int) ≤ (n : Int)) = false := decide_eq_false (by omega)
              have dp : ¬ 0 < p := by omega
              clear h h1 h2 hp
              go_wp2_with fail
              go_ret
              exact ⟨false, rfl, rfl, fun h => by cases h⟩
            · have d97 : decide ((97 : Int) ≤ (n : Int)) = true := decide_eq_true (by omega)
              have d122 : decide ((n : Int) ≤ 122) = false := decide_eq_false (by omega)
              have dp : ¬ 0 < p := by omega
              clear h h1 h2 hp
              go_wp2_with fail
              go_ret
              exact ⟨false, rfl, rfl, fun h => by cases h⟩
    · have hps : p = s.size := by omega
      have HA : Hid (0 < s.size → Simple (bl s)) := hide (fun h => simple_of (by rw [bl_len, ← hps]; exact HS.out) (by rw [bl_len]; exact h))
      clear HS
      go_wp2_with fail
      go_ret
      refine ⟨_, rfl, rfl, fun h => HA.out (by simpa using h)⟩
end Go.Proofs.YtjmgcdeinjamiaaDoor
