/-
  A device and its log, all from a block's number on; the first look (awake).
-/
import Derived.Test.YtipebinjdicnfaaFW3
import Derived.Test.YtipebinjdicnfaaFR1
import Derived.Maps.AppendAt
namespace Go.Proofs.Ytipebinjdicnfaa
open Go.RowKit

/-- A device in blocks from 'base' on. -/
def FD (w : World) (base B : Nat) (s : Dv) : Prop := ∃ F, DevIn w B s F ∧ (∀ k ∈ F, base ≤ k) ∧ base ≤ w.heap.size
/-- What a call leaves of all else. -/
structure Aft (w w' : World) (base : Nat) : Prop where
  below : Below base w w'
  str : ∀ b v n xs, w.ownsRow b 9 1 v n xs → w'.ownsRow b 9 1 v n xs
  log : ∀ L B, LogB w L B → LogB w' L B
theorem Aft.refl (w : World) (base : Nat) : Aft w w base := ⟨Below.refl _ _, fun _ _ _ _ h => h, fun _ _ h => h⟩
theorem Aft.trans {w w1 w2 : World} {base : Nat} (h : Aft w w1 base) (h2 : Aft w1 w2 base) : Aft w w2 base := ⟨h.below.trans h2.below, fun _ _ _ _ x => h2.str _ _ _ _ (h.str _ _ _ _ x), fun _ _ x => h2.log _ _ (h.log _ _ x)⟩
theorem Aft.of {w w' : World} {base : Nat} (hb : Below w.heap.size w w') (h : base ≤ w.heap.size) : Aft w w' base := ⟨hb.mono h, fun _ _ _ _ x => own_below x hb, fun _ _ x => log_below x hb⟩
theorem FD.size {w : World} {base B : Nat} {s : Dv} (h : FD w base B s) : base ≤ w.heap.size := by obtain ⟨_, _, _, h⟩ := h; exact h
theorem FD.below {w w' : World} {base B : Nat} {s : Dv} (h : FD w base B s) (hb : Below w.heap.size w w') : FD w' base B s := by
  obtain ⟨F, h1, h2, h3⟩ := h
  exact ⟨F, h1.keep (keep_below hb []) (by simp), h2, Nat.le_trans h3 hb.size⟩
theorem FD.left {w w' : World} {base B : Nat} {s s' : Dv} {F : List Nat} (h1 : DevIn w B s F) (h2 : ∀ k ∈ F, base ≤ k) (h3 : base ≤ w.heap.size) (hl : Left w w' B s' F) : FD w' base B s' ∧ Aft w w' base := by
  have hl0 := hl
  obtain ⟨F', k1, k2, k3⟩ := hl
  refine ⟨⟨F', k1, fun k hk => ?_, Nat.le_trans h3 k3.size⟩, k3.below h2 h3, fun _ _ _ _ x => str_left x h1 hl0, fun _ _ x => log_left x h1 hl0⟩
  rcases k2 k hk with h | h
  · exact h2 k h
  · omega
theorem fnew (w : World) (base : Nat) (hb : base ≤ w.heap.size) : Calls Try.prog 10 #[] w fun e w' => e = .returned (.pointer (some ⟨w.heap.size, 0, none⟩)) ∧ FD w' base w.heap.size ⟨[], 0, -1, false⟩ ∧ Aft w w' base :=
  (new_any w).mono fun e w' ⟨h1, h2, h3⟩ => ⟨h1, ⟨_, h2, fun k hk => by simp at hk; omega, Nat.le_trans hb h3.size⟩, Aft.of h3 hb⟩
theorem fapp {w : World} {base B : Nat} {s : Dv} (h : FD w base B s) (v : Value) (l : List UInt8) (hv : IsBytes w v l) (hk : l ≠ [] → ∀ k, v.ownBlock = some k → k < base) (hl : l.length ≤ 140737488355328) (s' : Dv × Int) (hs : s.app l = s') :
    Calls Try.prog 24 #[.pointer (some ⟨B, 0, none⟩), v] w fun e w' => e = .returned (.int .i64 s'.2) ∧ FD w' base B s'.1 ∧ Aft w w' base := by
  subst hs
  obtain ⟨F, h1, h2, h3⟩ := h
  refine (append_any w B s F v l h1 hv (fun hne k hkk hF => ?_) hl).mono fun e w' ⟨e1, e2⟩ => ⟨e1, FD.left h1 h2 h3 e2⟩
  have a := h2 k hF
  have b := hk hne k hkk
  omega
theorem fsync {w : World} {base B : Nat} {s : Dv} (h : FD w base B s) (s' : Dv × Int) (hs : s.sync = s') :
    Calls Try.prog 25 #[.pointer (some ⟨B, 0, none⟩)] w fun e w' => e = .returned (.int .i64 s'.2) ∧ FD w' base B s'.1 ∧ Aft w w' base := by
  subst hs
  obtain ⟨F, h1, h2, h3⟩ := h
  exact (sync_any w B s F h1).mono fun e w' ⟨e1, e2⟩ => ⟨e1, FD.left h1 h2 h3 e2⟩
theorem farm {w : World} {base B : Nat} {s : Dv} (h : FD w base B s) (n : Int) (hn : -9223372036854775808 ≤ n ∧ n ≤ 9223372036854775807) :
    Calls Try.prog 15 #[.pointer (some ⟨B, 0, none⟩), .int .i64 n] w fun e w' => e = .returned (.tuple #[]) ∧ FD w' base B (s.arm n) ∧ Aft w w' base := by
  obtain ⟨F, h1, h2, h3⟩ := h
  exact (arm_any w B s F n h1 hn).mono fun e w' ⟨e1, e2⟩ => ⟨e1, FD.left h1 h2 h3 e2⟩
theorem frestart {w : World} {base B : Nat} {s : Dv} (h : FD w base B s) (n : Int) (hn : -9223372036854775808 ≤ n ∧ n ≤ 9223372036854775807) (s' : Dv) (hs : s.restart n = s') :
    Calls Try.prog 17 #[.pointer (some ⟨B, 0, none⟩), .int .i64 n] w fun e w' => e = .returned (.tuple #[]) ∧ FD w' base B s' ∧ Aft w w' base := by
  subst hs
  obtain ⟨F, h1, h2, h3⟩ := h
  exact (restart_any w B s F n h1 hn).mono fun e w' ⟨e1, e2⟩ => ⟨e1, FD.left h1 h2 h3 e2⟩
theorem fput {w : World} {base L B : Nat} {s : Dv} (h : FD w base B s) (hl : LogB w L B) (t : ByteArray) (s' : Dv × Int) (hs : s.put t = s') :
    Calls Try.prog 13 #[.pointer (some ⟨L, 0, none⟩), .string t] w fun e w' => e = .returned (.int .i64 s'.2) ∧ FD w' base B s'.1 ∧ Aft w w' base := by
  subst hs
  obtain ⟨F, h1, h2, h3⟩ := h
  exact (put_any w L B s F t hl h1).mono fun e w' ⟨e1, e2⟩ => ⟨e1, FD.left h1 h2 h3 e2⟩
theorem fsize {w : World} {base L B : Nat} {s : Dv} (h : FD w base B s) (hl : LogB w L B) :
    Calls Try.prog 23 #[.pointer (some ⟨L, 0, none⟩)] w fun e w' => e = .returned (.int .i64 (s.all.length : Int)) ∧ FD w' base B s ∧ Below w.heap.size w w' := by
  have h0 := h
  obtain ⟨F, h1, h2, h3⟩ := h
  exact (size_any w L B s F hl h1).mono fun e w' ⟨e1, e2⟩ => ⟨e1, h0.below e2, e2⟩
theorem fopen {w : World} {base B : Nat} {s : Dv} (h : FD w base B s) (l : List ByteArray) (s' : Dv) (ho : Opn s l s' 0) :
    Calls Try.prog 12 #[.pointer (some ⟨B, 0, none⟩)] w fun e w' => (∃ (L : Nat) (vp : Option Addr) (vc : Nat), e = .returned (.tuple #[.pointer (some ⟨L, 0, none⟩), .slice vp l.length vc, .int .i64 0]) ∧ LogB w' L B ∧ w'.ownsRow base 9 1 (.slice vp l.length vc) l.length (strV l)) ∧ FD w' base B s' ∧ Aft w w' base := by
  obtain ⟨F, h1, h2, h3⟩ := h
  refine (open_any w B s F h1).mono fun e w' ⟨l2, s2, x, p, v, k1, k2, k3, k4, k5⟩ => ?_
  obtain ⟨rfl, rfl, rfl⟩ := ho.one k1
  rw [if_pos rfl] at k5
  obtain ⟨L, rfl, k5, _⟩ := k5
  obtain ⟨vp, vc, rfl⟩ := own_len k3
  exact ⟨⟨L, vp, vc, k2, k5, own_base k3 h3⟩, FD.left h1 h2 h3 k4⟩
theorem put_ok (x : List UInt8) (k : Nat) (t : ByteArray) (ht : t.size ≤ 20000) (h : x.length + (3 + t.size) ≤ 60000) : Dv.put ⟨x, k, -1, false⟩ t = (⟨x ++ fr t, 0, -1, false⟩, 0) := by
  unfold Dv.put
  rw [if_neg (by omega), app_ok x (fr t) k (by rw [fr_len]; exact h)]
  rfl
theorem put_full (x : List UInt8) (k : Nat) (t : ByteArray) (ht : t.size ≤ 20000) (h : 60000 < x.length + (3 + t.size)) : Dv.put ⟨x, k, -1, false⟩ t = (⟨x, k, -1, false⟩, 10) := by
  unfold Dv.put
  rw [if_neg (by omega), app_full x (fr t) k (by rw [fr_len]; exact h)]
  rfl
theorem opn_ok {x : List UInt8} {l : List ByteArray} {r : List UInt8} (k : Nat) (h : Rd x l r) : Opn ⟨x, k, -1, false⟩ l ⟨frs l, if r = [] then k else 0, -1, false⟩ 0 := by
  unfold Opn
  rw [if_neg (show ¬ (false = true) by decide)]
  refine ⟨l, r, h, ?_⟩
  have hx := h.eq
  by_cases hr : r = []
  · rw [if_pos hr, if_pos hr]
    subst hr
    rw [List.append_nil] at hx
    rw [hx]
    exact ⟨rfl, rfl, rfl⟩
  · rw [if_neg hr, if_neg hr]
    have hl : ((x.length : Int) - (r.length : Int)) = (((frs l).length : Nat) : Int) := by rw [hx, List.length_append]; omega
    show (Dv.trim ⟨x, k, -1, false⟩ ((x.length : Int) - (r.length : Int))).1 = _ ∧ _
    rw [hl, trim_ok x k (frs l).length (by rw [hx, List.length_append]; omega)]
    refine ⟨?_, rfl, rfl⟩
    show (⟨x.take (frs l).length, 0, -1, false⟩ : Dv) = _
    rw [hx, List.take_left]

/-- Strings behind a row of one's own. -/
theorem wpList_append_strs {w : World} {ops : Array Oper} {rest : List Oper} {o : Oper} {a : Act} {Q : Exit → Act → World → Prop} (hgd : o.guard = none) (s x : Operand)
    (ho : o.op = .call { callee := .builtin .append, args := #[s, x], argTypes := #[29, 29] })
    (base : Nat) (v : Value) (n : Nat) (xs : List ByteArray) (hs : a.eval s = v) (hown : w.ownsRow base 9 1 v n (strV xs))
    (u : Value) (l : List ByteArray) (hx : a.eval x = u) (hl : StrArg w u l) (h63 : n + l.length ≤ 100000000) (hbase : base ≤ w.heap.size)
    (h : ∀ v' w', w'.ownsRow base 9 1 v' (n + l.length) (strV (xs ++ l)) → w.grownBy w' v.ownBlock → wpList Try.prog ops Q rest (a.put o.dst v') w') : wpList Try.prog ops Q (o :: rest) a w := by
  obtain ⟨i0, hi, hz0, hz1, hz2⟩ := info_parts infoString
  obtain ⟨p, cap, rfl, h0, hc⟩ := hl
  cases p with
  | none =>
    have hl0 : l = [] := by
      cases l with
      | nil => rfl
      | cons y l =>
        obtain ⟨_, _, e, _⟩ := hc 0 y rfl
        cases e
    subst hl0
    rw [h0 rfl] at hx
    refine wpList_append_own_none hgd s x 29 ho base 9 i0 1 Try.underlying29 hi v n _ hs hown hx ?_
    refine h v w ?_ ⟨rfl, rfl, rfl, Nat.le_refl _, fun _ _ _ => rfl⟩
    rw [List.append_nil]
    exact hown
  | some ad =>
    refine wpList_append_own_at w hgd s x 29 ho base 9 i0 _ 1 16 Try.underlying29 hi hz0 hz1 hz2 rfl (by decide) v n _ hs hown ad l.length cap (strV l) hx (by rw [strV_len, Nat.mul_one]) (fun j u hj => ?_) (fun y hy => ?_) (by unfold maxLen; omega) (by omega) hbase fun v' w' h1 h2 _ h3 => h v' w' ?_ h2
    · unfold strV at hj
      rw [List.getElem?_map] at hj
      cases hlj : l[j]? with
      | none => rw [hlj] at hj; cases hj
      | some y =>
        rw [hlj] at hj
        obtain ⟨b, off, e, hcell⟩ := hc j y hlj
        injection e with e
        subst e
        rw [add_at, hcell]
        exact hj
    · unfold strV at hy
      obtain ⟨z, _, rfl⟩ := List.mem_map.1 hy
      rfl
    · rw [strV_app]
      exact h1
theorem own_empty (w : World) (base : Nat) (h : base ≤ w.heap.size) : (w.alloc (.cells #[] 9)).ownsRow base 9 1 (.slice (some ⟨w.heap.size, 0, none⟩) 0 0) 0 (strV []) :=
  World.ownsRow_made w _ 0 h (by decide) rfl
theorem str_one (w : World) (t : ByteArray) : StrArg (w.alloc (.cells #[.string t] 9)) (.slice (some ⟨w.heap.size, 0, none⟩) 1 1) [t] := by
  refine ⟨some ⟨w.heap.size, 0, none⟩, 1, rfl, (fun h => by simp at h), fun i s hi => ⟨w.heap.size, 0, rfl, ?_⟩⟩
  match i, hi with
  | 0, hi => simp at hi; subst hi; exact tag_cell (heap_alloc_new _ _) 0 _ rfl
  | i + 1, hi => simp at hi

set_option maxHeartbeats 2000000 in
theorem awake_any (w : World) : Calls Try.prog 9 #[] w fun e w' => e = .returned (.bool true) ∧ Below w.heap.size w w' := by
  obtain ⟨TA, hTA⟩ : ∃ TA : ByteArray, TA = ⟨#[97, 98]⟩ := ⟨_, rfl⟩
  have HTA := hide hTA
  clear hTA
  go_enter Try.func9, Try.ntmps9
  go_wp2_with fail
  refine (fnew w w.heap.size (Nat.le_refl _)).mono ?_
  rintro e w1 ⟨rfl, hd1, ha1⟩
  have HD1 := hide hd1
  have HA1 := hide ha1
  clear hd1 ha1
  go_wp2_with fail
  refine (fopen HD1.out [] ⟨[], 0, -1, false⟩ (opn_all rfl Rd.nil)).mono ?_
  rintro e w2 ⟨⟨L, vp, vc, rfl, hl2, ho2⟩, hd2, ha2⟩
  have HD2 := hide hd2
  have HL2 := hide hl2
  have HA2 := hide (HA1.out.trans ha2)
  clear hd2 ha2 hl2 ho2
  go_wp2_with fail
  rw [← HTA.out]
  refine (fput HD2.out HL2.out TA (⟨fr TA, 0, -1, false⟩, 0) (by rw [put_ok [] 0 TA (by rw [HTA.out]; decide) (by rw [HTA.out]; decide)]; rfl)).mono ?_
  rintro e w3 ⟨rfl, hd3, ha3⟩
  have HD3 : Hid (FD w3 w.heap.size w.heap.size ⟨fr TA, 0, -1, false⟩) := hide hd3
  have HA3 := hide (HA2.out.trans ha3)
  clear hd3 ha3
  go_wp2_with fail
  refine (fopen HD3.out [TA] ⟨fr TA, 0, -1, false⟩ (opn_all rfl (by have h := Rd.frs (l := [TA]) (fun t ht => by rw [List.mem_singleton.1 ht, HTA.out]; decide); rw [frs_one] at h; exact h))).mono ?_
  rintro e w4 ⟨⟨L4, vp, vc, rfl, hl4, ho4⟩, hd4, ha4⟩
  have HD4 := hide hd4
  have HL4 := hide hl4
  have HA4 := hide (HA3.out.trans ha4)
  obtain ⟨p4, c4, e4, -, hc4⟩ := own_str ho4
  injection e4 with e4 _ _
  obtain ⟨b4, o4, rfl, z4⟩ := hc4 0 TA rfl
  subst e4
  have z4 : w4.cell? ⟨b4, o4, none⟩ = some (.string TA) := z4
  have hTB : (TA.toList == [97, 98]) = true := by rw [HTA.out, ByteArray.toList_eq]; rfl
  clear hd4 ha4 hl4 ho4 hc4
  go_wp2_with fail
  refine (fsize HD4.out HL4.out).mono ?_
  rintro e w5 ⟨rfl, hd5, hb5⟩
  have hz : ((fr TA).length : Int) = 5 := by rw [HTA.out]; rfl
  have HB5 := hide (HA4.out.below.trans (hb5.mono HD4.out.size))
  rw [hz]
  clear hd5 hb5 hz
  go_wp2_with fail
  go_ret
  exact ⟨rfl, HB5.out⟩
end Go.Proofs.Ytipebinjdicnfaa
