/-
  A device between two blocks' numbers; the first look (awake) of layer 12.
-/
import Derived.Test.YtjddhfiollhnfaaDV3
namespace Go.Proofs.Ytjddhfiollhnfaa
open Go.RowKit

theorem DevIn.lt {w : World} {B : Nat} {s : Dv} {F : List Nat} (h : DevIn w B s F) : ∀ k ∈ F, k < w.heap.size := by
  obtain ⟨av, hb, ho, _, rfl⟩ := h
  intro k hk
  rcases List.mem_cons.1 hk with rfl | hk
  · exact lt_of_block hb
  · exact (ho.lt k (mem_blk.1 hk)).2
theorem DevIn.keep {w w' : World} {B : Nat} {s : Dv} {F G : List Nat} (h : DevIn w B s F) (hk : Keep w w' G) (hd : ∀ k ∈ F, k ∉ G) : DevIn w' B s F := by
  obtain ⟨av, hb, ho, hs, rfl⟩ := h
  exact ⟨av, (hk.block B (lt_of_block hb) (hd B (List.mem_cons_self ..))).trans hb, own_stays ho hk.block (fun k h => hd k (List.mem_cons_of_mem _ (mem_blk.2 h))), hs, rfl⟩

/-- A device whose blocks lie from 'base' up to below 'top'. -/
def Dev (w : World) (base top B : Nat) (s : Dv) : Prop := ∃ F, DevIn w B s F ∧ (∀ k ∈ F, base ≤ k ∧ k < top) ∧ base ≤ w.heap.size
theorem Dev.below {w w' : World} {base top B : Nat} {s : Dv} (h : Dev w base top B s) (hb : Below w.heap.size w w') : Dev w' base top B s := by
  obtain ⟨F, h1, h2, h3⟩ := h
  exact ⟨F, h1.keep (keep_below hb []) (by simp), h2, Nat.le_trans h3 hb.size⟩
theorem Left.dev {w w' : World} {base top B : Nat} {s : Dv} {F : List Nat} (h : Left w w' B s F) (hF : ∀ k ∈ F, base ≤ k ∧ k < top) (hb : base ≤ w.heap.size) : Dev w' base w'.heap.size B s ∧ Below base w w' := by
  obtain ⟨F', h1, h2, h3⟩ := h
  refine ⟨⟨F', h1, fun k hk => ⟨?_, h1.lt k hk⟩, Nat.le_trans hb h3.size⟩, h3.below (fun k hk => (hF k hk).1) hb⟩
  rcases h2 k hk with h | h
  · exact (hF k h).1
  · omega
theorem dnew (w : World) : Calls Try.prog 10 #[] w fun e w' => e = .returned (.pointer (some ⟨w.heap.size, 0, none⟩)) ∧ Dev w' w.heap.size w'.heap.size w.heap.size Dv.new ∧ Below w.heap.size w w' :=
  (new_any w).mono fun e w' ⟨h1, h2, h3⟩ => ⟨h1, ⟨_, h2, fun k hk => ⟨by simp at hk; omega, h2.lt k hk⟩, h3.size⟩, h3⟩
theorem dapp {w : World} {base top B : Nat} {s : Dv} (h : Dev w base top B s) (v : Value) (l : List UInt8) (hv : IsBytes w v l) (hvk : l ≠ [] → ∀ k, v.ownBlock = some k → k < base ∨ top ≤ k) (hl : l.length ≤ 140737488355328) (s' : Dv × Int) (hs : s.app l = s') :
    Calls Try.prog 12 #[.pointer (some ⟨B, 0, none⟩), v] w fun e w' => e = .returned (.int .i64 s'.2) ∧ Dev w' base w'.heap.size B s'.1 ∧ Below base w w' := by
  subst hs
  obtain ⟨F, h1, h2, h3⟩ := h
  refine (append_any w B s F v l h1 hv (fun hne k hk hF => ?_) hl).mono fun e w' ⟨e1, e2⟩ => ⟨e1, e2.dev h2 h3⟩
  have := h2 k hF
  rcases hvk hne k hk with h | h <;> omega
theorem dsync {w : World} {base top B : Nat} {s : Dv} (h : Dev w base top B s) (s' : Dv × Int) (hs : s.sync = s') :
    Calls Try.prog 14 #[.pointer (some ⟨B, 0, none⟩)] w fun e w' => e = .returned (.int .i64 s'.2) ∧ Dev w' base w'.heap.size B s'.1 ∧ Below base w w' := by
  subst hs
  obtain ⟨F, h1, h2, h3⟩ := h
  exact (sync_any w B s F h1).mono fun e w' ⟨e1, e2⟩ => ⟨e1, e2.dev h2 h3⟩
theorem dtrim {w : World} {base top B : Nat} {s : Dv} (h : Dev w base top B s) (n : Int) (hn : -9223372036854775808 ≤ n ∧ n ≤ 9223372036854775807) (s' : Dv × Int) (hs : s.trim n = s') :
    Calls Try.prog 16 #[.pointer (some ⟨B, 0, none⟩), .int .i64 n] w fun e w' => e = .returned (.int .i64 s'.2) ∧ Dev w' base w'.heap.size B s'.1 ∧ Below base w w' := by
  subst hs
  obtain ⟨F, h1, h2, h3⟩ := h
  exact (trim_any w B s F n h1 hn).mono fun e w' ⟨e1, e2⟩ => ⟨e1, e2.dev h2 h3⟩
theorem darm {w : World} {base top B : Nat} {s : Dv} (h : Dev w base top B s) (n : Int) (hn : -9223372036854775808 ≤ n ∧ n ≤ 9223372036854775807) :
    Calls Try.prog 18 #[.pointer (some ⟨B, 0, none⟩), .int .i64 n] w fun e w' => e = .returned (.tuple #[]) ∧ Dev w' base w'.heap.size B (s.arm n) ∧ Below base w w' := by
  obtain ⟨F, h1, h2, h3⟩ := h
  exact (arm_any w B s F n h1 hn).mono fun e w' ⟨e1, e2⟩ => ⟨e1, e2.dev h2 h3⟩
theorem drestart {w : World} {base top B : Nat} {s : Dv} (h : Dev w base top B s) (n : Int) (hn : -9223372036854775808 ≤ n ∧ n ≤ 9223372036854775807) (s' : Dv) (hs : s.restart n = s') :
    Calls Try.prog 20 #[.pointer (some ⟨B, 0, none⟩), .int .i64 n] w fun e w' => e = .returned (.tuple #[]) ∧ Dev w' base w'.heap.size B s' ∧ Below base w w' := by
  subst hs
  obtain ⟨F, h1, h2, h3⟩ := h
  exact (restart_any w B s F n h1 hn).mono fun e w' ⟨e1, e2⟩ => ⟨e1, e2.dev h2 h3⟩
theorem doff {w : World} {base top B : Nat} {s : Dv} (h : Dev w base top B s) :
    Calls Try.prog 24 #[.pointer (some ⟨B, 0, none⟩)] w fun e w' => e = .returned (.bool s.off) ∧ w' = w := by
  obtain ⟨F, h1, h2, h3⟩ := h
  exact off_any w B s F h1
theorem NewBytes.bytes {w w' : World} {l : List UInt8} (h : NewBytes w w' l) (c : Nat) : IsBytes w' (.slice (some ⟨w.heap.size, 0, none⟩) l.length c) l :=
  .inr ⟨⟨w.heap.size, 0, none⟩, c, rfl, fun j hj => by rw [add_zero_at]; exact tag_cell h.1 j _ (by rw [List.getElem?_toArray]; exact byte_at l j hj)⟩
/-- Bytes, and the text of them. -/
theorem dbytes {w : World} {base top B : Nat} {s : Dv} (h : Dev w base top B s) :
    Calls Try.prog 22 #[.pointer (some ⟨B, 0, none⟩)] w fun e w' => e = .returned (.slice (some ⟨w.heap.size, 0, none⟩) s.all.length s.all.length) ∧ NewBytes w w' s.all ∧ (convert 28 9 (.slice (some ⟨w.heap.size, 0, none⟩) s.all.length s.all.length)).run Try.prog w' = .ok (.string ⟨s.all.toArray⟩) w' ∧ Dev w' base top B s ∧ Below w.heap.size w w' := by
  obtain ⟨F, h1, h2, h3⟩ := id h
  exact (bytes_any w B s F h1).mono fun e w' ⟨e1, e2⟩ => ⟨e1, e2, (e2.bytes _).conv, h.below e2.2, e2.2⟩
/-- A constant's bytes. -/
theorem lit_bytes (w : World) (l : List UInt8) : IsBytes (w.alloc (.cells (Lib.byteCells l).toArray 5 (l.length, l.length + 1))) (.slice (some ⟨w.heap.size, 0, none⟩) l.length l.length) l := by
  refine .inr ⟨⟨w.heap.size, 0, none⟩, _, rfl, fun j hj => ?_⟩
  rw [add_zero_at]
  unfold World.cell?
  simp only [heap_alloc_new]
  simp [byte_at l j hj]
theorem lit_conv (w : World) (C : Array Value) (n : Nat) (hn : C.size = n) : (convert 28 28 (.slice (some ⟨w.heap.size, 0, none⟩) n n)).run Try.prog (w.alloc (.cells C 5)) = .ok (.slice (some ⟨w.heap.size, 0, none⟩) n n) (w.alloc (.cells C 5 (n, n + 1))) := by
  subst hn
  exact Lib.run_convert_bytes_const w 28 5 C C.size C.size Try.underlying28 Try.underlying5

theorem dlit {w : World} {base B : Nat} {s : Dv} (h : Dev w base w.heap.size B s) (l : List UInt8) (hl : l.length ≤ 100000) (n : Nat) (hn : l.length = n) (C : Array Value) (hC : C = (Lib.byteCells l).toArray) (s' : Dv × Int) (hs : s.app l = s') :
    Calls Try.prog 12 #[.pointer (some ⟨B, 0, none⟩), .slice (some ⟨w.heap.size, 0, none⟩) n n] (w.alloc (.cells C 5 (n, n + 1))) fun e w' => e = .returned (.int .i64 s'.2) ∧ Dev w' base w'.heap.size B s'.1 ∧ Below base w w' := by
  subst hn
  subst hC
  subst hs
  have hb : base ≤ w.heap.size := by obtain ⟨_, _, _, h3⟩ := h; exact h3
  exact (dapp (h.below ((Below.refl _ w).alloc (Nat.le_refl _) _)) _ l (lit_bytes w l) (fun _ k hk => .inr (by cases hk; exact Nat.le_refl _)) (by omega) _ rfl).mono fun e w' ⟨h1, h2, h3⟩ => ⟨h1, h2, ((Below.refl _ w).alloc hb _).trans h3⟩

set_option maxHeartbeats 1000000 in
theorem awake_any (w : World) : Calls Try.prog 9 #[] w fun e w' => e = .returned (.bool true) ∧ Below w.heap.size w w' := by
  have hc3 : ∀ wx : World, (convert 28 28 (.slice (some ⟨wx.heap.size, 0, none⟩) 3 3)).run Try.prog (wx.alloc (.cells #[.int .u8 97, .int .u8 98, .int .u8 99] 5)) = .ok (.slice (some ⟨wx.heap.size, 0, none⟩) 3 3) (wx.alloc (.cells #[.int .u8 97, .int .u8 98, .int .u8 99] 5 (3, 4))) := fun wx => lit_conv wx _ 3 rfl
  have hc2 : ∀ wx : World, (convert 28 28 (.slice (some ⟨wx.heap.size, 0, none⟩) 2 2)).run Try.prog (wx.alloc (.cells #[.int .u8 100, .int .u8 101] 5)) = .ok (.slice (some ⟨wx.heap.size, 0, none⟩) 2 2) (wx.alloc (.cells #[.int .u8 100, .int .u8 101] 5 (2, 3))) := fun wx => lit_conv wx _ 2 rfl
  go_enter Try.func9, Try.ntmps9
  go_wp2_with fail
  refine (dnew w).mono ?_
  rintro e w1 ⟨rfl, hd1, hb1⟩
  have HD1 := hide hd1
  have HB1 := hide hb1
  clear hd1 hb1
  go_wp2_with fail
  refine (dlit HD1.out [97, 98, 99] (by decide) 3 rfl _ rfl (⟨[97, 98, 99], 3, -1, false⟩, 0) rfl).mono ?_
  rintro e w2 ⟨rfl, hd2, hb2⟩
  have HD2 := hide hd2
  have HB2 := hide (HB1.out.trans hb2)
  clear hd2 hb2
  go_wp2_with fail
  refine (dsync HD2.out (⟨[97, 98, 99], 0, -1, false⟩, 0) rfl).mono ?_
  rintro e w3 ⟨rfl, hd3, hb3⟩
  have HD3 : Hid (Dev w3 w.heap.size w3.heap.size w.heap.size ⟨[97, 98, 99], 0, -1, false⟩) := hide hd3
  have HB3 := hide (HB2.out.trans hb3)
  clear hd3 hb3
  go_wp2_with fail
  refine (dlit HD3.out [100, 101] (by decide) 2 rfl _ rfl (⟨[97, 98, 99, 100, 101], 2, -1, false⟩, 0) rfl).mono ?_
  rintro e w4 ⟨rfl, hd4, hb4⟩
  have HD4 := hide hd4
  have HB4 := hide (HB3.out.trans hb4)
  clear hd4 hb4
  go_wp2_with fail
  refine (drestart HD4.out 1 (by decide) ⟨[97, 98, 99, 100], 0, -1, false⟩ rfl).mono ?_
  rintro e w5 ⟨rfl, hd5, hb5⟩
  have HD5 : Hid (Dev w5 w.heap.size w5.heap.size w.heap.size ⟨[97, 98, 99, 100], 0, -1, false⟩) := hide hd5
  have HB5 := hide (HB4.out.trans hb5)
  clear hd5 hb5
  go_wp2_with fail
  refine (dbytes HD5.out).mono ?_
  rintro e w6 ⟨rfl, _, hcv, hd6, hb6⟩
  replace hcv : (convert 28 9 (.slice (some ⟨w5.heap.size, 0, none⟩) 4 4)).run Try.prog w6 = .ok (.string ⟨#[97, 98, 99, 100]⟩) w6 := hcv
  have HB6 := hide (HB5.out.trans (hb6.mono HB5.out.size))
  clear hd6 hb6
  go_wp2_with fail
  go_ret
  exact ⟨rfl, HB6.out⟩

theorem app_ok (x b : List UInt8) (k : Nat) (h : x.length + b.length ≤ 60000) : Dv.app ⟨x, k, -1, false⟩ b = (⟨x ++ b, k + b.length, -1, false⟩, 0) := by
  unfold Dv.app
  rw [if_neg (show ¬ (false = true) by decide), if_neg (by show ¬ 60000 < x.length + b.length; omega)]
  rfl
theorem app_full (x b : List UInt8) (k : Nat) (h : 60000 < x.length + b.length) : Dv.app ⟨x, k, -1, false⟩ b = (⟨x, k, -1, false⟩, 10) := by
  unfold Dv.app
  rw [if_neg (show ¬ (false = true) by decide), if_pos (by show 60000 < x.length + b.length; omega)]
theorem trim_ok (x : List UInt8) (k n : Nat) (h : n ≤ x.length) : Dv.trim ⟨x, k, -1, false⟩ (n : Int) = (⟨x.take n, 0, -1, false⟩, 0) := by
  unfold Dv.trim
  rw [if_neg (show ¬ (false = true) by decide), if_neg (by show ¬ ((n : Int) < 0 ∨ (x.length : Int) < n); omega)]
  rfl
theorem IsBytes.lt {w : World} {v : Value} {l : List UInt8} (h : IsBytes w v l) (hl : l ≠ []) : ∀ k, v.ownBlock = some k → k < w.heap.size := by
  intro k hk
  rcases h with ⟨_, rfl⟩ | ⟨x, cap, rfl, hc⟩
  · exact absurd rfl hl
  · have h0 := cell_lt (hc 0 (List.length_pos_iff.2 hl))
    rw [add_block] at h0
    injection hk with hk
    exact hk ▸ h0
/-- An argument's bytes behind a device's back. -/
theorem arg_ok {w : World} {v : Value} {l : List UInt8} {base : Nat} (h : IsBytes w v l) (hb : w.heap.size ≤ base) (top : Nat) : l ≠ [] → ∀ k, v.ownBlock = some k → k < base ∨ top ≤ k :=
  fun hl k hk => .inl (Nat.lt_of_lt_of_le (h.lt hl k hk) hb)
theorem ret_true (b : Bool) (h : b = true) : Ending.returned (.bool b) = .returned (.bool true) := by rw [h]
end Go.Proofs.Ytjddhfiollhnfaa
