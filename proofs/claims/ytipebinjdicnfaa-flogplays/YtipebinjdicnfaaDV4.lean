/-
  A device between two blocks' numbers.
-/
import Derived.Test.YtipebinjdicnfaaDV3
namespace Go.Proofs.Ytipebinjdicnfaa
open Go.RowKit

theorem DevIn.lt {w : World} {B : Nat} {s : Dv} {F : List Nat} (h : DevIn w B s F) : ∀ k ∈ F, k < w.heap.size := by
  obtain ⟨av, hb, ho, _, rfl⟩ := h
  intro k hk
  rcases List.mem_cons.1 hk with rfl | hk
  · exact lt_of_block hb
  · exact (ho.lt k (mem_blk.1 hk)).2
theorem DevIn.keep {w w' : World} {B : Nat} {s : Dv} {F G : List Nat} (h : DevIn w B s F) (hk : Keep w w' G) (hd : ∀ k ∈ F, k ∉ G) : DevIn w' B s F := by
  obtain ⟨av, hb, ho, hs, rfl⟩ := h
  exact ⟨av, (hk.block B (lt_of_block hb) (hd B (List.mem_cons_self ..))).trans hb, own_stays ho hk.block (fun k h => hd k (List.mem_cons_of_mem _ (mem_blk.2 h))), hs, rfl⟩

/-- A device whose blocks lie from 'base' up to below 'top'. -/
def Dev (w : World) (base top B : Nat) (s : Dv) : Prop := ∃ F, DevIn w B s F ∧ (∀ k ∈ F, base ≤ k ∧ k < top) ∧ base ≤ w.heap.size
theorem Dev.below {w w' : World} {base top B : Nat} {s : Dv} (h : Dev w base top B s) (hb : Below w.heap.size w w') : Dev w' base top B s := by
  obtain ⟨F, h1, h2, h3⟩ := h
  exact ⟨F, h1.keep (keep_below hb []) (by simp), h2, Nat.le_trans h3 hb.size⟩
theorem Left.dev {w w' : World} {base top B : Nat} {s : Dv} {F : List Nat} (h : Left w w' B s F) (hF : ∀ k ∈ F, base ≤ k ∧ k < top) (hb : base ≤ w.heap.size) : Dev w' base w'.heap.size B s ∧ Below base w w' := by
  obtain ⟨F', h1, h2, h3⟩ := h
  refine ⟨⟨F', h1, fun k hk => ⟨?_, h1.lt k hk⟩, Nat.le_trans hb h3.size⟩, h3.below (fun k hk => (hF k hk).1) hb⟩
  rcases h2 k hk with h | h
  · exact (hF k h).1
  · omega
theorem dnew (w : World) : Calls Try.prog 10 #[] w fun e w' => e = .returned (.pointer (some ⟨w.heap.size, 0, none⟩)) ∧ Dev w' w.heap.size w'.heap.size w.heap.size Dv.new ∧ Below w.heap.size w w' :=
  (new_any w).mono fun e w' ⟨h1, h2, h3⟩ => ⟨h1, ⟨_, h2, fun k hk => ⟨by simp at hk; omega, h2.lt k hk⟩, h3.size⟩, h3⟩
theorem dapp {w : World} {base top B : Nat} {s : Dv} (h : Dev w base top B s) (v : Value) (l : List UInt8) (hv : IsBytes w v l) (hvk : l ≠ [] → ∀ k, v.ownBlock = some k → k < base ∨ top ≤ k) (hl : l.length ≤ 140737488355328) (s' : Dv × Int) (hs : s.app l = s') :
    Calls Try.prog 24 #[.pointer (some ⟨B, 0, none⟩), v] w fun e w' => e = .returned (.int .i64 s'.2) ∧ Dev w' base w'.heap.size B s'.1 ∧ Below base w w' := by
  subst hs
  obtain ⟨F, h1, h2, h3⟩ := h
  refine (append_any w B s F v l h1 hv (fun hne k hk hF => ?_) hl).mono fun e w' ⟨e1, e2⟩ => ⟨e1, e2.dev h2 h3⟩
  have := h2 k hF
  rcases hvk hne k hk with h | h <;> omega
theorem dsync {w : World} {base top B : Nat} {s : Dv} (h : Dev w base top B s) (s' : Dv × Int) (hs : s.sync = s') :
    Calls Try.prog 25 #[.pointer (some ⟨B, 0, none⟩)] w fun e w' => e = .returned (.int .i64 s'.2) ∧ Dev w' base w'.heap.size B s'.1 ∧ Below base w w' := by
  subst hs
  obtain ⟨F, h1, h2, h3⟩ := h
  exact (sync_any w B s F h1).mono fun e w' ⟨e1, e2⟩ => ⟨e1, e2.dev h2 h3⟩
theorem dtrim {w : World} {base top B : Nat} {s : Dv} (h : Dev w base top B s) (n : Int) (hn : -9223372036854775808 ≤ n ∧ n ≤ 9223372036854775807) (s' : Dv × Int) (hs : s.trim n = s') :
    Calls Try.prog 30 #[.pointer (some ⟨B, 0, none⟩), .int .i64 n] w fun e w' => e = .returned (.int .i64 s'.2) ∧ Dev w' base w'.heap.size B s'.1 ∧ Below base w w' := by
  subst hs
  obtain ⟨F, h1, h2, h3⟩ := h
  exact (trim_any w B s F n h1 hn).mono fun e w' ⟨e1, e2⟩ => ⟨e1, e2.dev h2 h3⟩
theorem darm {w : World} {base top B : Nat} {s : Dv} (h : Dev w base top B s) (n : Int) (hn : -9223372036854775808 ≤ n ∧ n ≤ 9223372036854775807) :
    Calls Try.prog 15 #[.pointer (some ⟨B, 0, none⟩), .int .i64 n] w fun e w' => e = .returned (.tuple #[]) ∧ Dev w' base w'.heap.size B (s.arm n) ∧ Below base w w' := by
  obtain ⟨F, h1, h2, h3⟩ := h
  exact (arm_any w B s F n h1 hn).mono fun e w' ⟨e1, e2⟩ => ⟨e1, e2.dev h2 h3⟩
theorem drestart {w : World} {base top B : Nat} {s : Dv} (h : Dev w base top B s) (n : Int) (hn : -9223372036854775808 ≤ n ∧ n ≤ 9223372036854775807) (s' : Dv) (hs : s.restart n = s') :
    Calls Try.prog 17 #[.pointer (some ⟨B, 0, none⟩), .int .i64 n] w fun e w' => e = .returned (.tuple #[]) ∧ Dev w' base w'.heap.size B s' ∧ Below base w w' := by
  subst hs
  obtain ⟨F, h1, h2, h3⟩ := h
  exact (restart_any w B s F n h1 hn).mono fun e w' ⟨e1, e2⟩ => ⟨e1, e2.dev h2 h3⟩
theorem doff {w : World} {base top B : Nat} {s : Dv} (h : Dev w base top B s) :
    Calls Try.prog 27 #[.pointer (some ⟨B, 0, none⟩)] w fun e w' => e = .returned (.bool s.off) ∧ w' = w := by
  obtain ⟨F, h1, h2, h3⟩ := h
  exact off_any w B s F h1
theorem NewBytes.bytes {w w' : World} {l : List UInt8} (h : NewBytes w w' l) (c : Nat) : IsBytes w' (.slice (some ⟨w.heap.size, 0, none⟩) l.length c) l :=
  .inr ⟨⟨w.heap.size, 0, none⟩, c, rfl, fun j hj => by rw [add_zero_at]; exact tag_cell h.1 j _ (by rw [List.getElem?_toArray]; exact byte_at l j hj)⟩
/-- Bytes, and the text of them. -/
theorem dbytes {w : World} {base top B : Nat} {s : Dv} (h : Dev w base top B s) :
    Calls Try.prog 21 #[.pointer (some ⟨B, 0, none⟩)] w fun e w' => e = .returned (.slice (some ⟨w.heap.size, 0, none⟩) s.all.length s.all.length) ∧ NewBytes w w' s.all ∧ (convert 38 9 (.slice (some ⟨w.heap.size, 0, none⟩) s.all.length s.all.length)).run Try.prog w' = .ok (.string ⟨s.all.toArray⟩) w' ∧ Dev w' base top B s ∧ Below w.heap.size w w' := by
  obtain ⟨F, h1, h2, h3⟩ := id h
  exact (bytes_any w B s F h1).mono fun e w' ⟨e1, e2⟩ => ⟨e1, e2, (e2.bytes _).conv, h.below e2.2, e2.2⟩
/-- A constant's bytes. -/
theorem lit_bytes (w : World) (l : List UInt8) : IsBytes (w.alloc (.cells (Lib.byteCells l).toArray 5 (l.length, l.length + 1))) (.slice (some ⟨w.heap.size, 0, none⟩) l.length l.length) l := by
  refine .inr ⟨⟨w.heap.size, 0, none⟩, _, rfl, fun j hj => ?_⟩
  rw [add_zero_at]
  unfold World.cell?
  simp only [heap_alloc_new]
  simp [byte_at l j hj]
theorem lit_conv (w : World) (C : Array Value) (n : Nat) (hn : C.size = n) : (convert 38 38 (.slice (some ⟨w.heap.size, 0, none⟩) n n)).run Try.prog (w.alloc (.cells C 5)) = .ok (.slice (some ⟨w.heap.size, 0, none⟩) n n) (w.alloc (.cells C 5 (n, n + 1))) := by
  subst hn
  exact Lib.run_convert_bytes_const w 38 5 C C.size C.size Try.underlying38 Try.underlying5

theorem dlit {w : World} {base B : Nat} {s : Dv} (h : Dev w base w.heap.size B s) (l : List UInt8) (hl : l.length ≤ 100000) (n : Nat) (hn : l.length = n) (C : Array Value) (hC : C = (Lib.byteCells l).toArray) (s' : Dv × Int) (hs : s.app l = s') :
    Calls Try.prog 24 #[.pointer (some ⟨B, 0, none⟩), .slice (some ⟨w.heap.size, 0, none⟩) n n] (w.alloc (.cells C 5 (n, n + 1))) fun e w' => e = .returned (.int .i64 s'.2) ∧ Dev w' base w'.heap.size B s'.1 ∧ Below base w w' := by
  subst hn
  subst hC
  subst hs
  have hb : base ≤ w.heap.size := by obtain ⟨_, _, _, h3⟩ := h; exact h3
  exact (dapp (h.below ((Below.refl _ w).alloc (Nat.le_refl _) _)) _ l (lit_bytes w l) (fun _ k hk => .inr (by cases hk; exact Nat.le_refl _)) (by omega) _ rfl).mono fun e w' ⟨h1, h2, h3⟩ => ⟨h1, h2, ((Below.refl _ w).alloc hb _).trans h3⟩

theorem app_ok (x b : List UInt8) (k : Nat) (h : x.length + b.length ≤ 60000) : Dv.app ⟨x, k, -1, false⟩ b = (⟨x ++ b, k + b.length, -1, false⟩, 0) := by
  unfold Dv.app
  rw [if_neg (show ¬ (false = true) by decide), if_neg (by show ¬ 60000 < x.length + b.length; omega)]
  rfl
theorem app_full (x b : List UInt8) (k : Nat) (h : 60000 < x.length + b.length) : Dv.app ⟨x, k, -1, false⟩ b = (⟨x, k, -1, false⟩, 10) := by
  unfold Dv.app
  rw [if_neg (show ¬ (false = true) by decide), if_pos (by show 60000 < x.length + b.length; omega)]
theorem trim_ok (x : List UInt8) (k n : Nat) (h : n ≤ x.length) : Dv.trim ⟨x, k, -1, false⟩ (n : Int) = (⟨x.take n, 0, -1, false⟩, 0) := by
  unfold Dv.trim
  rw [if_neg (show ¬ (false = true) by decide), if_neg (by show ¬ ((n : Int) < 0 ∨ (x.length : Int) < n); omega)]
  rfl
theorem IsBytes.lt {w : World} {v : Value} {l : List UInt8} (h : IsBytes w v l) (hl : l ≠ []) : ∀ k, v.ownBlock = some k → k < w.heap.size := by
  intro k hk
  rcases h with ⟨_, rfl⟩ | ⟨x, cap, rfl, hc⟩
  · exact absurd rfl hl
  · have h0 := cell_lt (hc 0 (List.length_pos_iff.2 hl))
    rw [add_block] at h0
    injection hk with hk
    exact hk ▸ h0
/-- An argument's bytes behind a device's back. -/
theorem arg_ok {w : World} {v : Value} {l : List UInt8} {base : Nat} (h : IsBytes w v l) (hb : w.heap.size ≤ base) (top : Nat) : l ≠ [] → ∀ k, v.ownBlock = some k → k < base ∨ top ≤ k :=
  fun hl k hk => .inl (Nat.lt_of_lt_of_le (h.lt hl k hk) hb)
theorem ret_true (b : Bool) (h : b = true) : Ending.returned (.bool b) = .returned (.bool true) := by rw [h]
end Go.Proofs.Ytipebinjdicnfaa
