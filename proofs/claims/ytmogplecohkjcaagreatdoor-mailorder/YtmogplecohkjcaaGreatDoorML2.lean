/-
  The law MailOrder.
-/
import Derived.Test.YtmogplecohkjcaaGreatDoorMBZ
namespace Go.Proofs.YtmogplecohkjcaaGreatDoor
open Go.RowKit
open Utf1
open Pol8 hiding text right Right
open Msg15 Mail17

/-- What is left behind the first ones, but one. -/
def remA (N k i : Nat) : List Ms := ((List.range' i (N - i)).filter (fun j => decide (j ≠ k))).map fun (j : Nat) => ackM 1 0 (j : Int)
theorem rem_skip {N k : Nat} (h : k < N) : remA N k k = remA N k (k + 1) := by
  unfold remA
  obtain ⟨d, hd⟩ : ∃ d, N - k = d + 1 := ⟨N - k - 1, by omega⟩
  rw [hd, show N - (k + 1) = d by omega, List.range'_succ, List.filter_cons, if_neg (by simp)]
theorem rem_take {N k i : Nat} (h : i < N) (hk : i ≠ k) : remA N k i = ackM 1 0 (i : Int) :: remA N k (i + 1) := by
  unfold remA
  obtain ⟨d, hd⟩ : ∃ d, N - i = d + 1 := ⟨N - i - 1, by omega⟩
  rw [hd, show N - (i + 1) = d by omega, List.range'_succ, List.filter_cons, if_pos (by simp [hk])]
  rfl
theorem rem_end (N k : Nat) : remA N k N = [] := by
  unfold remA
  rw [Nat.sub_self]
  rfl
theorem filter_all {s n k : Nat} (h : k < s) : (List.range' s n).filter (fun j => decide (j ≠ k)) = List.range' s n := by
  rw [List.filter_eq_self]
  intro a ha
  have := (List.mem_range'_1.1 ha).1
  simp
  omega
theorem erase_range : ∀ (n s k : Nat), k < n → (List.range' s n).eraseIdx k = (List.range' s n).filter (fun j => decide (j ≠ s + k))
  | 0, _, _, h => by omega
  | n + 1, s, 0, _ => by
    rw [List.range'_succ, List.eraseIdx_cons_zero, List.filter_cons, if_neg (by simp)]
    exact (filter_all (by omega)).symm
  | n + 1, s, k + 1, h => by
    rw [List.range'_succ, List.eraseIdx_cons_succ, erase_range n (s + 1) k (by omega), List.filter_cons, if_pos (by simp)]
    have : s + 1 + k = s + (k + 1) := by omega
    rw [this]
theorem map_erase {α β : Type} (f : α → β) : ∀ (l : List α) (k : Nat), (l.map f).eraseIdx k = (l.eraseIdx k).map f
  | [], _ => rfl
  | _ :: _, 0 => rfl
  | x :: l, k + 1 => by
    rw [List.map_cons, List.eraseIdx_cons_succ, List.eraseIdx_cons_succ, List.map_cons, map_erase f l k]
theorem rem_start {N k : Nat} (h : k < N) : (acks 1 0 N).eraseIdx k = remA N k 0 := by
  unfold acks remA
  rw [map_erase, List.range_eq_range', erase_range N 0 k h, Nat.sub_zero, Nat.zero_add]

theorem rem_len {N k : Nat} (h : k < N) : (remA N k 0).length = N - 1 := by
  rw [← rem_start h, List.length_eraseIdx, acks_len, if_pos h]

set_option maxRecDepth 100000 in
set_option maxHeartbeats 16000000 in
theorem order_walk {Bx : World → Value → List Ms → List Nat → Prop} (C : MailC Bx) (n at_ : Int) (w : World) (hg : GlobM w) :
    Calls Tryz.prog 5 #[.int .i64 n, .int .i64 at_] w fun e w' => e = .returned (.bool true) ∧ Below w.heap.size w w' := by
  have HG := hide hg
  have HC := hide C
  have CW := hide (mawake_any C w hg)
  clear C hg
  go_enter Tryz.func5, Tryz.ntmps5
  go_wp2_with fail
  refine CW.out.mono ?_
  rintro e w0 ⟨rfl, hb0⟩
  have B0 := hide hb0
  clear hb0 CW
  go_wp2_with fail
  refine (mnew_any HC.out w0 (HG.out.below B0.out)).mono ?_
  rintro e w1 ⟨⟨a, rfl, hx1⟩, hb1⟩
  have B1 := hide (bel2 B0.out hb1)
  have X1 := hide hx1
  have BN := hide hb1
  clear hx1 hb1
  by_cases c0 : n < 1
  · have e0 : decide (n < 1) = true := decide_eq_true c0
    go_wp2_with fail
    go_ret
    exact ⟨rfl, B1.out⟩
  have e0 : decide (n < 1) = false := decide_eq_false c0
  by_cases c1 : 16 < n
  · have e1 : decide (16 < n) = true := decide_eq_true c1
    go_wp2_with fail
    go_ret
    exact ⟨rfl, B1.out⟩
  have e1 : decide (16 < n) = false := decide_eq_false c1
  by_cases c2 : at_ < 0
  · have e2 : decide (at_ < 0) = true := decide_eq_true c2
    go_wp2_with fail
    go_ret
    exact ⟨rfl, B1.out⟩
  have e2 : decide (at_ < 0) = false := decide_eq_false c2
  have BW : Hid (Below w.heap.size w w0) := B0
  clear B1
  obtain ⟨N, rfl⟩ : ∃ N : Nat, n = (N : Int) := ⟨n.toNat, by omega⟩
  obtain ⟨A, rfl⟩ : ∃ A : Nat, at_ = (A : Int) := ⟨at_.toNat, by omega⟩
  have hN : N ≤ 16 := by omega
  have hN1 : 1 ≤ N := by omega
  go_wp2_with fail
  clear e0 e1 e2 c0 c1 c2
  go_loopg [7] N (fun g v7 wr => ∃ (i : Nat), i + g = N ∧ v7 = .int .i64 (i : Int) ∧ Hid (MBx Bx w0.heap.size wr a (acks 1 0 i)) ∧ Hid (Below w0.heap.size w0 wr))
  case atStart => exact ⟨0, by omega, rfl, X1, BN⟩
  case round =>
    obtain ⟨i, hi, rfl, HX, HB⟩ := hrel
    clear X1 BN
    by_cases hlt : i < N
    · go_wp2_with fail
      refine (ack_any 1 0 (i : Int) wr).mono ?_
      rintro e wrb ⟨rfl, hb⟩
      have HBb := hide (HB.out.trans (hb.mono HB.out.size))
      have HXb := hide (HX.out.below HC.out hb)
      clear hb HX HB
      have CP := hide (mput_any HC.out w0.heap.size wrb a (acks 1 0 i) (bare (ackM 1 0 (i : Int))) (HG.out.below (BW.out.trans (HBb.out.mono BW.out.size))) HBb.out.size HXb.out (ack_ok 1 0 (i : Int) (HG.out.below (BW.out.trans (HBb.out.mono BW.out.size)))) ackM_sml)
      go_wp2_with fail
      refine CP.out.mono ?_
      rintro e w3 ⟨⟨c, ms', rfl, hp, hx⟩, hb⟩
      have hR : MRight (ackM 1 0 (i : Int)) := ackM_right (by decide) (by decide) (by decide) (by omega)
      obtain ⟨rfl, rfl⟩ := put_ok hp hR (show cnt 0 (acks 1 0 i) < 16 by rw [acks_cnt]; omega)
      rw [← acks_next] at hx
      clear hR
      have HB3 := hide (HBb.out.trans hb)
      have HX3 := hide hx
      clear hp hx hb CP HXb HBb
      go_wp2_with fail
      go_roundg (N - (i + 1))
      case measure => omega
      case rel => exact ⟨i + 1, by omega, by first | rfl | (push_cast; rfl), HX3, HB3⟩
    · have hiN : i = N := by omega
      subst hiN
      obtain ⟨k, hk⟩ : ∃ k, k = A % i := ⟨_, rfl⟩
      have hki : k < i := by rw [hk]; exact Nat.mod_lt _ (by omega)
      have HK := hide hk
      have hmod : (A : Int).tmod (i : Int) = (k : Int) := by rw [hk]; rfl
      clear hk
      have B4 := HB
      have X4 := HX
      clear HB HX
      have d0 : decide ((i : Int) = 0) = false := decide_eq_false (by omega)
      have d0' : ((i : Int) == 0) = false := by simp; omega
      have CK := hide (mtake_any HC.out w0.heap.size  wr a (acks 1 0 i) (k : Int) (HG.out.below (BW.out.trans (B4.out.mono BW.out.size))) B4.out.size X4.out (by omega))
      go_wp2_with fail
      refine CK.out.mono ?_
      rintro e w5 ⟨⟨t, b, ms', rfl, ht, hp, hx⟩, hb⟩
      obtain ⟨rfl, hm, rfl⟩ := take_ok hp (acks_at hki)
      rw [rem_start hki] at hx
      obtain ⟨pia, nia, cia, ppa, npa, cpa, p1a, n1a, c1a, p2a, n2a, c2a, p3a, n3a, c3a, p4a, n4a, c4a, p5a, n5a, c5a, ei, ep, e1, e2, e3, e4, e5⟩ := Im.shape ht
      obtain ⟨m, vi, vp, v1, v2, v3, v4, v5, ids, ts, l1, l2, l3, l4, l5⟩ := t
      obtain rfl : m = ackM 1 0 (k : Int) := hm
      dsimp only at ei ep e1 e2 e3 e4 e5
      subst ei ep e1 e2 e3 e4 e5
      dsimp only [Im.val, ackM, Ms.zero, Pol.zero]
      have B4a := hide ((B4.out.trans hb).alloc (Nat.le_trans B4.out.size hb.size) (.cells (Im.cells ⟨ackM 1 0 (k : Int), .slice pia nia cia, .slice ppa npa cpa, .slice p1a n1a c1a, .slice p2a n2a c2a, .slice p3a n3a c3a, .slice p4a n4a c4a, .slice p5a n5a c5a, ids, ts, l1, l2, l3, l4, l5⟩).toArray 35))
      have X4a := hide (MBx.fence HC.out hx (.cells (Im.cells ⟨ackM 1 0 (k : Int), .slice pia nia cia, .slice ppa npa cpa, .slice p1a n1a c1a, .slice p2a n2a c2a, .slice p3a n3a c3a, .slice p4a n4a c4a, .slice p5a n5a c5a, ids, ts, l1, l2, l3, l4, l5⟩).toArray 35))
      dsimp only [Im.cells, ackM, Ms.zero, Pol.zero] at B4a X4a
      clear hp hx hb ht CK X4 B4
      have Y3 : Hid (∀ wx : World, wx.heap[w5.heap.size]? = (w5.alloc (.cells (Im.cells ⟨ackM 1 0 (k : Int), .slice pia nia cia, .slice ppa npa cpa, .slice p1a n1a c1a, .slice p2a n2a c2a, .slice p3a n3a c3a, .slice p4a n4a c4a, .slice p5a n5a c5a, ids, ts, l1, l2, l3, l4, l5⟩).toArray 35)).heap[w5.heap.size]? → wx.cell? ⟨w5.heap.size, 3, none⟩ = some (.int .i64 (k : Int))) := hide (fun wx h => tag_cell (h.trans (new_block _ _ _)) 3 _ rfl)
      dsimp only [Im.cells, ackM, Pol.zero] at Y3
      have d1 : decide ((k : Int) = (k : Int)) = true := decide_eq_true rfl
      go_wp2_with fail
      have CK := hide (mtakeq_any HC.out w0.heap.size w5.heap.size _ a (remA i k 0) ((i : Int) - 1) (HG.out.below (BW.out.trans (B4a.out.mono BW.out.size))) B4a.out.size X4a.out (by omega))
      go_wp2_with fail
      refine CK.out.mono ?_
      rintro e w6 ⟨⟨t, b, ms', rfl, ht, hp, hx, hq⟩, hb⟩
      obtain ⟨rfl, hm, rfl⟩ := take_none hp (.inr (by rw [rem_len hki]; omega))
      have y3 := Y3.out w6 hq
      obtain ⟨pib, nib, cib, ppb, npb, cpb, p1b, n1b, c1b, p2b, n2b, c2b, p3b, n3b, c3b, p4b, n4b, c4b, p5b, n5b, c5b, ei, ep, e1, e2, e3, e4, e5⟩ := Im.shape ht
      obtain ⟨m, vi, vp, v1, v2, v3, v4, v5, ids, ts, l1, l2, l3, l4, l5⟩ := t
      obtain rfl : m = Ms.zero := hm
      dsimp only at ei ep e1 e2 e3 e4 e5
      subst ei ep e1 e2 e3 e4 e5
      dsimp only [Im.val, ackM, Ms.zero, Pol.zero]
      have B4ab := hide ((B4a.out.trans hb).alloc (Nat.le_trans B4a.out.size hb.size) (.cells (Im.cells ⟨Ms.zero, .slice pib nib cib, .slice ppb npb cpb, .slice p1b n1b c1b, .slice p2b n2b c2b, .slice p3b n3b c3b, .slice p4b n4b c4b, .slice p5b n5b c5b, ids, ts, l1, l2, l3, l4, l5⟩).toArray 35))
      have X4ab := hide (MBx.below HC.out hx (bel_alloc (Below.refl _ _) (.cells (Im.cells ⟨Ms.zero, .slice pib nib cib, .slice ppb npb cpb, .slice p1b n1b c1b, .slice p2b n2b c2b, .slice p3b n3b c3b, .slice p4b n4b c4b, .slice p5b n5b c5b, ids, ts, l1, l2, l3, l4, l5⟩).toArray 35)))
      dsimp only [Im.cells, ackM, Ms.zero, Pol.zero] at B4ab X4ab
      clear hp hx hb ht CK X4a B4a
      have y4 := cell_keep y3 (bel_alloc (Below.refl _ _) (.cells (Im.cells ⟨Ms.zero, .slice pib nib cib, .slice ppb npb cpb, .slice p1b n1b c1b, .slice p2b n2b c2b, .slice p3b n3b c3b, .slice p4b n4b c4b, .slice p5b n5b c5b, ids, ts, l1, l2, l3, l4, l5⟩).toArray 35))
      dsimp only [Im.cells, Ms.zero, Pol.zero] at y4
      clear y3 Y3
      go_wp2_with fail
      clear y4
      go_loopg [13, 14, 15] i (fun g v13 v14 v15 wx => ∃ (j : Nat), j + g = i ∧ v13 = .int .i64 (j : Int) ∧ Hid (MBx Bx w0.heap.size wx a (remA i k j)) ∧ Hid (Below w0.heap.size w0 wx))
      case atStart => exact ⟨0, by omega, rfl, X4ab, B4ab⟩
      case round =>
        obtain ⟨j, hj, rfl, X5, B5⟩ := hrel
        clear X4ab B4ab
        by_cases hlj : j < i
        · have f5 : decide ((j : Int) < (i : Int)) = true := decide_eq_true (by omega)
          by_cases hjk : j = k
          · have f6 : decide ((j : Int) = (k : Int)) = true := decide_eq_true (by omega)
            have f6' : ((j : Int) == (k : Int)) = true := by simp; omega
            have X6 : Hid (MBx Bx w0.heap.size wr a (remA i k (j + 1))) := hide (by
              have h := X5.out
              rw [hjk, rem_skip hki] at h
              rw [hjk]
              exact h)
            clear hjk X5
            go_wp2_with fail
            go_roundg (i - (j + 1))
            case measure => omega
            case rel => exact ⟨j + 1, by omega, by first | rfl | (push_cast; rfl), X6, B5⟩
          · have f6 : decide ((j : Int) = (k : Int)) = false := decide_eq_false (by omega)
            have f6' : ((j : Int) == (k : Int)) = false := by simp; omega
            have HJK := hide hjk
            clear hjk
            go_wp2_with fail
            have CK := hide (mtake_any HC.out w0.heap.size  wr a (remA i k j) 0 (HG.out.below (BW.out.trans (B5.out.mono BW.out.size))) B5.out.size X5.out (by decide))
            go_wp2_with fail
            refine CK.out.mono ?_
            rintro e w7 ⟨⟨t, b, ms', rfl, ht, hp, hx⟩, hb⟩
            obtain ⟨rfl, hm, rfl⟩ := take_ok (k := 0) hp (by rw [rem_take hlj HJK.out]; rfl)
            rw [rem_take hlj HJK.out, List.eraseIdx_cons_zero] at hx
            obtain ⟨pic, nic, cic, ppc, npc, cpc, p1c, n1c, c1c, p2c, n2c, c2c, p3c, n3c, c3c, p4c, n4c, c4c, p5c, n5c, c5c, ei, ep, e1, e2, e3, e4, e5⟩ := Im.shape ht
            obtain ⟨m, vi, vp, v1, v2, v3, v4, v5, ids, ts, l1, l2, l3, l4, l5⟩ := t
            obtain rfl : m = ackM 1 0 (j : Int) := hm
            dsimp only at ei ep e1 e2 e3 e4 e5
            subst ei ep e1 e2 e3 e4 e5
            dsimp only [Im.val, ackM, Ms.zero, Pol.zero]
            have B5c := hide ((B5.out.trans hb).alloc (Nat.le_trans B5.out.size hb.size) (.cells (Im.cells ⟨ackM 1 0 (j : Int), .slice pic nic cic, .slice ppc npc cpc, .slice p1c n1c c1c, .slice p2c n2c c2c, .slice p3c n3c c3c, .slice p4c n4c c4c, .slice p5c n5c c5c, ids, ts, l1, l2, l3, l4, l5⟩).toArray 35))
            have X5c := hide (MBx.below HC.out hx (bel_alloc (Below.refl _ _) (.cells (Im.cells ⟨ackM 1 0 (j : Int), .slice pic nic cic, .slice ppc npc cpc, .slice p1c n1c c1c, .slice p2c n2c c2c, .slice p3c n3c c3c, .slice p4c n4c c4c, .slice p5c n5c c5c, ids, ts, l1, l2, l3, l4, l5⟩).toArray 35)))
            dsimp only [Im.cells, ackM, Ms.zero, Pol.zero] at B5c X5c
            clear hp hx hb ht CK X5 B5
            have f7 : decide ((j : Int) = (j : Int)) = true := decide_eq_true rfl
            go_wp2_with fail
            go_roundg (i - (j + 1))
            case measure => omega
            case rel => exact ⟨j + 1, by omega, by first | rfl | (push_cast; rfl), X5c, B5c⟩
        · have hji : j = i := by omega
          subst hji
          have X6 : Hid (MBx Bx w0.heap.size wr a []) := hide (by
            have h := X5.out
            rw [rem_end] at h
            exact h)
          clear X5
          have B6 : Hid (Below w.heap.size w wr) := hide (BW.out.trans (B5.out.mono BW.out.size))
          have CA := hide (mall_any HC.out w0.heap.size wr a [] (HG.out.below B6.out) X6.out)
          have CM : Hid (∀ wx, Below wr.heap.size wr wx → Calls Tryz.prog 20 #[.pointer (some a)] wx fun e w' => e = .returned (.agg #[.int .i64 0, .int .i64 0, .int .i64 0, .int .i64 0, .int .i64 0, .int .i64 0]) ∧ Below wx.heap.size wx w') := hide (fun wx h => mmany_any HC.out w0.heap.size wx a [] (HG.out.below (bel2 B6.out h)) (X6.out.below HC.out h))
          have hq := fun wx => six_eql 0 0 0 0 0 0 0 0 0 0 0 0 wx
          clear X6 B5
          go_wp2_with fail
          refine CA.out.mono ?_
          rintro e w8 ⟨⟨u, ts9, rfl, hr, hm, -⟩, hb8⟩
          obtain ⟨q9, c9, rfl, -⟩ := hr.shape
          have hlen : ts9.length = 0 := by
            have := congrArg List.length hm
            simpa using this
          rw [hlen]
          have C8 := hide (CM.out w8 hb8)
          have B8 := hide (bel2 B6.out hb8)
          clear hr hm hb8 hlen CA CM B6
          go_wp2_with fail
          refine C8.out.mono ?_
          rintro e w9 ⟨rfl, hb9⟩
          have B9 := hide (bel2 B8.out hb9)
          clear hb9 C8 B8
          go_wp2_with fail
          go_ret
          exact ⟨rfl, B9.out⟩
end Go.Proofs.YtmogplecohkjcaaGreatDoor
