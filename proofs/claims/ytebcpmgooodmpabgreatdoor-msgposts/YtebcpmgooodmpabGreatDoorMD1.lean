/-
  The document's decimal, Field and begins, walked.
-/
import Derived.Test.YtebcpmgooodmpabGreatDoorPH
import Derived.Test.YtebcpmgooodmpabGreatDoorMZ
namespace Go.Proofs.YtebcpmgooodmpabGreatDoor
open Go.RowKit
open Utf1
open Pol8 hiding text right Right
open Msg15

theorem mconv_one (w : World) (t : TypeId) (c : Nat) (hc : c < 256) :
    (convert 39 9 (.slice (some ⟨w.heap.size, 0, none⟩) 1 1)).run Tryz.prog (w.alloc (.cells #[.int .u8 (c : Int)] t)) = .ok (.string ⟨#[UInt8.ofNat c]⟩) (w.alloc (.cells #[.int .u8 (c : Int)] t)) := by
  have := run_convert_bytes_back (P := Tryz.prog) (w.alloc (.cells #[.int .u8 (c : Int)] t)) 39 9 5 ⟨w.heap.size, 0, none⟩ 1 [UInt8.ofNat c] Tryz.underlying39 Tryz.underlying5 Tryz.underlying9 (by
    intro j hj
    have : j = 0 := by simp at hj; omega
    subst this
    rw [add_plain]
    have e : ([UInt8.ofNat c][0]'hj).toNat = c := toNat_ofNat hc
    rw [e]
    simp)
  exact this

theorem mnumTo_step {l : L} {k : Nat} {c : UInt8} (h : l[k]? = some c) : numTo 0 (l.take (k + 1)) = stepN (numTo 0 (l.take k)) c := by
  rw [List.take_add_one, h]
  exact (numTo_app (l.take k) [c] 0).trans (numTo_one _ _)
theorem mnumTo_lt (l : L) : ∀ n : Nat, l.all dig = true → numTo n l < (n + 1) * 10 ^ l.length := by
  induction l with
  | nil =>
    intro n _
    rw [List.length_nil, Nat.pow_zero, Nat.mul_one]
    exact Nat.lt_succ_self n
  | cons c l ih =>
    intro n h
    rw [List.all_cons, Bool.and_eq_true] at h
    have hc := of_decide_eq_true h.1
    have i1 := ih (stepN n c) h.2
    unfold stepN at i1
    have h1 : n * 10 + (c.toNat - 48) + 1 ≤ (n + 1) * 10 := by omega
    have h2 := Nat.mul_le_mul_right (10 ^ l.length) h1
    have h3 : (n + 1) * 10 * 10 ^ l.length = (n + 1) * 10 ^ (c :: l).length := by
      rw [List.length_cons, Nat.pow_succ, Nat.mul_assoc, Nat.mul_comm 10]
    rw [numTo_cons]
    unfold stepN
    rw [h3] at h2
    exact Nat.lt_of_lt_of_le i1 h2

/-- Digits are gone through as far as they go, six at most. -/
theorem kd_exit {s : L} {k : Nat} (hk : k ≤ 6) (hl : k ≤ s.length) (hd : (s.take k).all dig = true) (he : k = s.length ∨ k = 6 ∨ ∀ c, s[k]? = some c → dig c = false) : kd s = s.take k := by
  unfold kd
  obtain ⟨r, hr⟩ : ∃ r, r = s.drop k := ⟨_, rfl⟩
  have hs : s = s.take k ++ r := by rw [hr, List.take_append_drop]
  have htw : s.takeWhile dig = s.take k ++ r.takeWhile dig := by
    conv => lhs; rw [hs]
    rw [List.takeWhile_append_of_pos (fun a ha => List.all_eq_true.1 hd a ha)]
  have hlt : (s.take k).length = k := by rw [List.length_take]; omega
  rw [htw]
  rcases he with he | he | he
  · have : r = [] := by rw [hr, he, List.drop_length]
    rw [this]
    simp
    rw [List.take_take, Nat.min_eq_right hk]
  · rw [List.take_append, hlt, he, Nat.sub_self]
    simp
    rw [List.take_take]
    simp
  · have : r.takeWhile dig = [] := by
      cases hrr : r with
      | nil => rfl
      | cons c q =>
        have h1 : s[k]? = some c := by
          have h2 : (s.drop k)[0]? = some c := by rw [← hr, hrr]; rfl
          rw [List.getElem?_drop, Nat.add_zero] at h2
          exact h2
        rw [List.takeWhile_cons_of_neg (by rw [he c h1]; decide)]
    rw [this, List.append_nil, List.take_take, Nat.min_eq_right hk]
end Go.Proofs.YtebcpmgooodmpabGreatDoor
