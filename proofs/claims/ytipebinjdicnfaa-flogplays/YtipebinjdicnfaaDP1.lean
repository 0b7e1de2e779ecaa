/-
  The program's device and the document's, side by side.
-/
import Derived.Test.YtipebinjdicnfaaDR6
namespace Go.Proofs.Ytipebinjdicnfaa
open Go.RowKit

/-- Both are in the same state. -/
def Sim (s : Dv) (r : Rv) : Prop := s.all = r.la ++ r.wa ∧ s.wt = r.wa.length ∧ s.off = r.off ∧ (s.lf = r.n ∨ s.lf < 0 ∧ r.n < 0)
theorem Sim.new : Sim Dv.new Rv.new := ⟨rfl, rfl, rfl, .inl rfl⟩
theorem Sim.zero {s : Dv} {r : Rv} (h : Sim s r) : s.lf = 0 ↔ r.n = 0 := by
  obtain ⟨_, _, _, h⟩ := h
  omega
theorem Sim.goes {s : Dv} {r : Rv} (h : Sim s r) : Sim s.goes r.goes := by
  have hz := h.zero
  obtain ⟨h1, h2, h3, h4⟩ := h
  unfold Dv.goes Rv.goes
  by_cases h0 : s.lf = 0
  · rw [if_pos h0, if_pos (hz.1 h0)]
    exact ⟨h1, h2, rfl, h4⟩
  · rw [if_neg h0, if_neg (fun e => h0 (hz.2 e))]
    by_cases hp : 0 < s.lf
    · rw [if_pos hp, if_pos (by omega)]
      refine ⟨h1, h2, h3, .inl ?_⟩
      show s.lf - 1 = r.n - 1
      omega
    · rw [if_neg hp, if_neg (by omega)]
      exact ⟨h1, h2, h3, h4⟩
theorem goes_off_iff {s : Dv} (h : s.off = false) : s.goes.off = true ↔ s.lf = 0 := by
  unfold Dv.goes
  by_cases h0 : s.lf = 0
  · rw [if_pos h0]
    exact ⟨fun _ => h0, fun _ => rfl⟩
  · rw [if_neg h0]
    split
    · exact ⟨fun e => absurd (h.symm.trans e) (by decide), fun e => absurd e h0⟩
    · exact ⟨fun e => absurd (h.symm.trans e) (by decide), fun e => absurd e h0⟩
theorem not_true {b : Bool} (h : b = false) : ¬ b = true := by rw [h]; decide
theorem Sim.app {s : Dv} {r : Rv} (h : Sim s r) (l : List UInt8) : (s.app l).2 = (r.app l).2 ∧ Sim (s.app l).1 (r.app l).1 := by
  have hg := h.goes
  have hz := h.zero
  have h0 := h
  obtain ⟨h1, h2, h3, h4⟩ := h
  unfold Dv.app Rv.app
  by_cases ho1 : s.off = true
  · have hr1 : r.off = true := by rw [← h3]; exact ho1
    rw [if_pos ho1, if_pos hr1]
    exact ⟨rfl, h0⟩
  · have ho : s.off = false := by simpa using ho1
    have hr1 : ¬ r.off = true := by rw [← h3]; exact ho1
    rw [if_neg ho1, if_neg hr1]
    have hl : s.all.length = r.la.length + r.wa.length := by rw [h1, List.length_append]
    by_cases hf : 60000 < s.all.length + l.length
    · rw [if_pos hf, if_pos (show 60000 < r.la.length + r.wa.length + l.length by omega)]
      exact ⟨rfl, h0⟩
    · rw [if_neg hf, if_neg (show ¬ 60000 < r.la.length + r.wa.length + l.length by omega)]
      by_cases hn : s.lf = 0
      · rw [if_pos ((goes_off_iff ho).2 hn), if_pos (hz.1 hn)]
        exact ⟨rfl, hg⟩
      · rw [if_neg (show ¬ s.goes.off = true from fun e => hn ((goes_off_iff ho).1 e)), if_neg (show ¬ r.n = 0 from fun e => hn (hz.2 e))]
        refine ⟨rfl, ?_, ?_, rfl, hg.2.2.2⟩
        · show s.all ++ l = r.la ++ (r.wa ++ l)
          rw [h1, List.append_assoc]
        · show s.wt + l.length = (r.wa ++ l).length
          rw [h2, List.length_append]
theorem Sim.sync {s : Dv} {r : Rv} (h : Sim s r) : s.sync.2 = r.sync.2 ∧ Sim s.sync.1 r.sync.1 := by
  have hg := h.goes
  have hz := h.zero
  have h0 := h
  obtain ⟨h1, h2, h3, h4⟩ := h
  unfold Dv.sync Rv.sync
  by_cases ho1 : s.off = true
  · have hr1 : r.off = true := by rw [← h3]; exact ho1
    rw [if_pos ho1, if_pos hr1]
    exact ⟨rfl, h0⟩
  · have ho : s.off = false := by simpa using ho1
    have hr1 : ¬ r.off = true := by rw [← h3]; exact ho1
    rw [if_neg ho1, if_neg hr1]
    by_cases hn : s.lf = 0
    · rw [if_pos ((goes_off_iff ho).2 hn), if_pos (hz.1 hn)]
      exact ⟨rfl, hg⟩
    · rw [if_neg (show ¬ s.goes.off = true from fun e => hn ((goes_off_iff ho).1 e)), if_neg (show ¬ r.n = 0 from fun e => hn (hz.2 e))]
      refine ⟨rfl, ?_, rfl, rfl, hg.2.2.2⟩
      show s.all = r.la ++ r.wa ++ []
      rw [h1, List.append_nil]
theorem Sim.trim {s : Dv} {r : Rv} (h : Sim s r) (n : Int) : (s.trim n).2 = (r.trim n).2 ∧ Sim (s.trim n).1 (r.trim n).1 := by
  have hg := h.goes
  have hz := h.zero
  have h0 := h
  obtain ⟨h1, h2, h3, h4⟩ := h
  unfold Dv.trim Rv.trim
  rw [h1]
  by_cases ho1 : s.off = true
  · have hr1 : r.off = true := by rw [← h3]; exact ho1
    rw [if_pos ho1, if_pos hr1]
    exact ⟨rfl, h0⟩
  · have ho : s.off = false := by simpa using ho1
    have hr1 : ¬ r.off = true := by rw [← h3]; exact ho1
    rw [if_neg ho1, if_neg hr1]
    by_cases hf : n < 0 ∨ ((r.la ++ r.wa).length : Int) < n
    · rw [if_pos hf, if_pos hf]
      exact ⟨rfl, h0⟩
    · rw [if_neg hf, if_neg hf]
      by_cases hn : s.lf = 0
      · rw [if_pos ((goes_off_iff ho).2 hn), if_pos (hz.1 hn)]
        exact ⟨rfl, hg⟩
      · rw [if_neg (show ¬ s.goes.off = true from fun e => hn ((goes_off_iff ho).1 e)), if_neg (show ¬ r.n = 0 from fun e => hn (hz.2 e))]
        refine ⟨rfl, ?_, rfl, rfl, hg.2.2.2⟩
        show (r.la ++ r.wa).take n.toNat = (r.la ++ r.wa).take n.toNat ++ []
        rw [List.append_nil]
theorem Sim.arm {s : Dv} {r : Rv} (h : Sim s r) (n : Int) : Sim (s.arm n) (r.arm n) := by
  have h0 := h
  obtain ⟨h1, h2, h3, h4⟩ := h
  unfold Dv.arm Rv.arm
  by_cases ho1 : s.off = true
  · have hr1 : r.off = true := by rw [← h3]; exact ho1
    rw [if_pos ho1, if_pos hr1]
    exact h0
  · have ho : s.off = false := by simpa using ho1
    have hr1 : ¬ r.off = true := by rw [← h3]; exact ho1
    rw [if_neg ho1, if_neg hr1]
    refine ⟨h1, h2, h3, ?_⟩
    show n = max n (-1) ∨ n < 0 ∧ max n (-1) < 0
    omega
theorem Sim.restart {s : Dv} {r : Rv} (h : Sim s r) (n : Int) : Sim (s.restart n) (r.restart n) := by
  obtain ⟨h1, h2, h3, h4⟩ := h
  refine ⟨?_, rfl, rfl, .inl rfl⟩
  show s.all.take (s.kept n) = (r.la ++ r.wa.take (min n.toNat r.wa.length)) ++ []
  have hl : s.all.length = r.la.length + r.wa.length := by rw [h1, List.length_append]
  have hk : s.kept n = r.la.length + min n.toNat r.wa.length := by unfold Dv.kept; rw [h2]; omega
  rw [List.append_nil, h1, hk, List.take_append, List.take_of_length_le (by omega)]
  congr 2
  omega

/-- Both in memory, apart from each other and from some blocks; all from 'base' on. -/
def Two (w : World) (base : Nat) (X : List Nat) (B R : Nat) (s : Dv) (r : Rv) : Prop :=
  ∃ F G, DevIn w B s F ∧ RefIn w R r G ∧ (∀ k ∈ F, base ≤ k ∧ k ∉ G ∧ k ∉ X) ∧ (∀ k ∈ G, base ≤ k ∧ k ∉ X) ∧ (∀ k ∈ X, k < w.heap.size) ∧ base ≤ w.heap.size
/-- What a call leaves of both, and of the rest. -/
def Rest (w w' : World) (base : Nat) (X : List Nat) : Prop := Below base w w' ∧ ∀ k ∈ X, w'.heap[k]? = w.heap[k]?
theorem Two.below {w w' : World} {base : Nat} {X : List Nat} {B R : Nat} {s : Dv} {r : Rv} (h : Two w base X B R s r) (hb : Below w.heap.size w w') : Two w' base X B R s r := by
  obtain ⟨F, G, hd, hr, hF, hG, hX, h0⟩ := h
  exact ⟨F, G, hd.keep (keep_below hb []) (by simp), hr.keep (keep_below hb []) (by simp), hF, hG, fun k h => Nat.lt_of_lt_of_le (hX k h) hb.size, Nat.le_trans h0 hb.size⟩
theorem Two.with {w : World} {base : Nat} {X : List Nat} {B R : Nat} {s : Dv} {r : Rv} (h : Two w base X B R s r) {b : Nat} {w' : World} (hb : Below w.heap.size w w') (h1 : w.heap.size ≤ b) (h2 : b < w'.heap.size) : Two w' base [b] B R s r := by
  obtain ⟨F, G, hd, hr, hF, hG, hX, h0⟩ := h
  refine ⟨F, G, hd.keep (keep_below hb []) (by simp), hr.keep (keep_below hb []) (by simp), fun k hk => ⟨(hF k hk).1, (hF k hk).2.1, fun e => ?_⟩, fun k hk => ⟨(hG k hk).1, fun e => ?_⟩, fun k hk => ?_, Nat.le_trans h0 hb.size⟩
  · have := hd.lt k hk
    simp at e
    omega
  · have := hr.lt k hk
    simp at e
    omega
  · simp at hk
    omega
theorem Rest.trans {w w1 w2 : World} {base : Nat} {X : List Nat} (h : Rest w w1 base X) (h2 : Rest w1 w2 base X) : Rest w w2 base X := ⟨h.1.trans h2.1, fun k hk => (h2.2 k hk).trans (h.2 k hk)⟩
theorem two_calls_d {w : World} {f : Nat} {args : Array Value} {base : Nat} {X : List Nat} {B R : Nat} {s s' : Dv} {r : Rv} {P : Ending → Prop} (h : Two w base X B R s r)
    (hc : ∀ F, DevIn w B s F → (∀ k ∈ F, base ≤ k) → Calls Try.prog f args w fun e w' => P e ∧ Left w w' B s' F) : Calls Try.prog f args w fun e w' => P e ∧ Two w' base X B R s' r ∧ Rest w w' base X := by
  obtain ⟨F, G, hd, hr, hF, hG, hX, hb⟩ := id h
  refine (hc F hd (fun k hk => (hF k hk).1)).mono fun e w' ⟨h1, h2⟩ => ?_
  obtain ⟨F', hd', hn, hk⟩ := h2
  refine ⟨h1, ⟨F', G, hd', hr.keep hk (fun k h1 h2 => (hF k h2).2.1 h1), fun k h1 => ?_, hG, fun k h1 => Nat.lt_of_lt_of_le (hX k h1) hk.size, Nat.le_trans hb hk.size⟩, hk.below (fun k h1 => (hF k h1).1) hb, fun k h1 => hk.block k (hX k h1) (fun h2 => (hF k h2).2.2 h1)⟩
  rcases hn k h1 with h2 | h2
  · exact hF k h2
  · exact ⟨by omega, fun h3 => by have := hr.lt k h3; omega, fun h3 => by have := hX k h3; omega⟩
theorem two_calls_r {w : World} {f : Nat} {args : Array Value} {base : Nat} {X : List Nat} {B R : Nat} {s : Dv} {r r' : Rv} {P : Ending → Prop} (h : Two w base X B R s r)
    (hc : ∀ G, RefIn w R r G → (∀ k ∈ G, base ≤ k) → Calls Try.prog f args w fun e w' => P e ∧ RLeft w w' R r' G) : Calls Try.prog f args w fun e w' => P e ∧ Two w' base X B R s r' ∧ Rest w w' base X := by
  obtain ⟨F, G, hd, hr, hF, hG, hX, hb⟩ := id h
  refine (hc G hr (fun k hk => (hG k hk).1)).mono fun e w' ⟨h1, h2⟩ => ?_
  obtain ⟨G', hr', hn, hk⟩ := h2
  refine ⟨h1, ⟨F, G', hd.keep hk (fun k h1 h2 => (hF k h1).2.1 h2), hr', fun k h1 => ⟨(hF k h1).1, fun h3 => ?_, (hF k h1).2.2⟩, fun k h1 => ?_, fun k h1 => Nat.lt_of_lt_of_le (hX k h1) hk.size, Nat.le_trans hb hk.size⟩, hk.below (fun k h1 => (hG k h1).1) hb, fun k h1 => hk.block k (hX k h1) (fun h2 => (hG k h2).2 h1)⟩
  · rcases hn k h3 with h2 | h2
    · exact (hF k h1).2.1 h2
    · have := hd.lt k h1
      omega
  · rcases hn k h1 with h2 | h2
    · exact hG k h2
    · exact ⟨by omega, fun h3 => by have := hX k h3; omega⟩
end Go.Proofs.Ytipebinjdicnfaa
