/-
  The law MailTwice.
-/
import Derived.Test.YtmogplecohkjcaaGreatDoorMBZ
namespace Go.Proofs.YtmogplecohkjcaaGreatDoor
open Go.RowKit
open Utf1
open Pol8 hiding text right Right
open Msg15 Mail17

theorem ep_at {w : World} {p : Option Addr} {n c : Nat} {ts : List Im} {ms : List Ms} (h : MRow w (.slice p n c) ts) (hm : ts.map Im.m = ms) {i : Nat} {m : Ms} (hi : ms[i]? = some m) : ∃ b off, p = some ⟨b, off, none⟩ ∧ w.cell? ⟨b, off + i * 15 + 3, none⟩ = some (.int .i64 m.ep) := by
  subst hm
  rw [List.getElem?_map] at hi
  cases ht : ts[i]? with
  | none => rw [ht] at hi; cases hi
  | some t =>
    rw [ht] at hi
    obtain ⟨b, off, e, hr, -⟩ := h.at ht
    have e2 : t.m = m := by simpa using hi
    exact ⟨b, off, e, by rw [← e2]; exact (fifteen hr).2.2.2.1⟩

set_option maxRecDepth 100000 in
set_option maxHeartbeats 16000000 in
theorem twice_walk {Bx : World → Value → List Ms → List Nat → Prop} (C : MailC Bx) (n at_ : Int) (w : World) (hg : GlobM w) :
    Calls Tryz.prog 7 #[.int .i64 n, .int .i64 at_] w fun e w' => e = .returned (.bool true) ∧ Below w.heap.size w w' := by
  have HG := hide hg
  have HC := hide C
  have CW := hide (mawake_any C w hg)
  clear C hg
  go_enter Tryz.func7, Tryz.ntmps7
  go_wp2_with fail
  refine CW.out.mono ?_
  rintro e w0 ⟨rfl, hb0⟩
  have B0 := hide hb0
  clear hb0 CW
  go_wp2_with fail
  refine (mnew_any HC.out w0 (HG.out.below B0.out)).mono ?_
  rintro e w1 ⟨⟨a, rfl, hx1⟩, hb1⟩
  have B1 := hide (bel2 B0.out hb1)
  have X1 := hide hx1
  have BN := hide hb1
  clear hx1 hb1
  by_cases c0 : n < 1
  · have e0 : decide (n < 1) = true := decide_eq_true c0
    go_wp2_with fail
    go_ret
    exact ⟨rfl, B1.out⟩
  have e0 : decide (n < 1) = false := decide_eq_false c0
  by_cases c1 : 15 < n
  · have e1 : decide (15 < n) = true := decide_eq_true c1
    go_wp2_with fail
    go_ret
    exact ⟨rfl, B1.out⟩
  have e1 : decide (15 < n) = false := decide_eq_false c1
  by_cases c2 : at_ < 0
  · have e2 : decide (at_ < 0) = true := decide_eq_true c2
    go_wp2_with fail
    go_ret
    exact ⟨rfl, B1.out⟩
  have e2 : decide (at_ < 0) = false := decide_eq_false c2
  have BW : Hid (Below w.heap.size w w0) := B0
  clear B1
  obtain ⟨N, rfl⟩ : ∃ N : Nat, n = (N : Int) := ⟨n.toNat, by omega⟩
  obtain ⟨A, rfl⟩ : ∃ A : Nat, at_ = (A : Int) := ⟨at_.toNat, by omega⟩
  have hN : N ≤ 15 := by omega
  have hN1 : 1 ≤ N := by omega
  go_wp2_with fail
  clear e0 e1 e2 c0 c1 c2
  go_loopg [7] N (fun g v7 wr => ∃ (i : Nat), i + g = N ∧ v7 = .int .i64 (i : Int) ∧ Hid (MBx Bx w0.heap.size wr a (acks 2 3 i)) ∧ Hid (Below w0.heap.size w0 wr))
  case atStart => exact ⟨0, by omega, rfl, X1, BN⟩
  case round =>
    obtain ⟨i, hi, rfl, HX, HB⟩ := hrel
    clear X1 BN
    by_cases hlt : i < N
    · go_wp2_with fail
      refine (ack_any 2 3 (i : Int) wr).mono ?_
      rintro e wrb ⟨rfl, hb⟩
      have HBb := hide (HB.out.trans (hb.mono HB.out.size))
      have HXb := hide (HX.out.below HC.out hb)
      clear hb HX HB
      have CP := hide (mput_any HC.out w0.heap.size wrb a (acks 2 3 i) (bare (ackM 2 3 (i : Int))) (HG.out.below (BW.out.trans (HBb.out.mono BW.out.size))) HBb.out.size HXb.out (ack_ok 2 3 (i : Int) (HG.out.below (BW.out.trans (HBb.out.mono BW.out.size)))) ackM_sml)
      go_wp2_with fail
      refine CP.out.mono ?_
      rintro e w3 ⟨⟨c, ms', rfl, hp, hx⟩, hb⟩
      have hR : MRight (ackM 2 3 (i : Int)) := ackM_right (by decide) (by decide) (by decide) (by omega)
      obtain ⟨rfl, rfl⟩ := put_ok hp hR (show cnt 3 (acks 2 3 i) < 16 by rw [acks_cnt]; omega)
      rw [← acks_next] at hx
      clear hR
      have HB3 := hide (HBb.out.trans hb)
      have HX3 := hide hx
      clear hp hx hb CP HXb HBb
      go_wp2_with fail
      go_roundg (N - (i + 1))
      case measure => omega
      case rel => exact ⟨i + 1, by omega, by first | rfl | (push_cast; rfl), HX3, HB3⟩
    · have hiN : i = N := by omega
      subst hiN
      obtain ⟨k, hk⟩ : ∃ k, k = A % i := ⟨_, rfl⟩
      have hki : k < i := by rw [hk]; exact Nat.mod_lt _ (by omega)
      have hmod : (A : Int).tmod (i : Int) = (k : Int) := by rw [hk]; rfl
      clear hk
      have d0 : decide ((i : Int) = 0) = false := decide_eq_false (by omega)
      have d0' : ((i : Int) == 0) = false := by simp; omega
      have CT := hide (mtwice_any HC.out w0.heap.size wr a (acks 2 3 i) (k : Int) (HG.out.below (BW.out.trans (HB.out.mono BW.out.size))) HB.out.size HX.out (by omega))
      clear HX
      go_wp2_with fail
      refine CT.out.mono ?_
      rintro e w5 ⟨⟨c, ms5, rfl, hp, hx5⟩, hb5⟩
      have hR : MRight (ackM 2 3 (k : Int)) := ackM_right (by decide) (by decide) (by decide) (by omega)
      obtain ⟨rfl, rfl⟩ := twice_ok hp (acks_at hki) hR (show cnt 3 (acks 2 3 i) < 16 by rw [acks_cnt]; omega)
      have B5 := hide (HB.out.trans hb5)
      have CA := hide (mall_any HC.out w0.heap.size w5 a _ (HG.out.below (BW.out.trans (B5.out.mono BW.out.size))) hx5)
      clear hp hx5 hb5 CT HB hR
      go_wp2_with fail
      refine CA.out.mono ?_
      rintro e w6 ⟨⟨u, ts, rfl, hr, hm, -⟩, hb6⟩
      obtain ⟨q, c, rfl, -⟩ := hr.shape
      have hlen : ts.length = i + 1 := by
        have := congrArg List.length hm
        rw [List.length_map, List.length_append, acks_len] at this
        exact this
      rw [hlen] at hr ⊢
      have B6 := hide (BW.out.trans ((B5.out.trans (hb6.mono B5.out.size)).mono BW.out.size))
      obtain ⟨b, off, rfl, y⟩ := ep_at hr hm (i := i) (m := ackM 2 3 (k : Int)) (by rw [List.getElem?_append_right (by rw [acks_len]; exact Nat.le_refl _), acks_len, Nat.sub_self]; rfl)
      have HROW : Hid (∀ j, j < i → w6.cell? ⟨b, off + j * 15 + 3, none⟩ = some (.int .i64 (j : Int))) := hide (fun j hj => by
        obtain ⟨b', off', e, h⟩ := ep_at hr hm (i := j) (m := ackM 2 3 (j : Int)) (by rw [List.getElem?_append_left (by rw [acks_len]; exact hj)]; exact acks_at hj)
        injection e with e
        injection e with e1 e2
        subst e1 e2
        exact h)
      dsimp only [ackM] at y
      have d1 : decide ((i : Int) + 1 = (i : Int) + 1) = true := decide_eq_true rfl
      have d2 : decide ((k : Int) = (k : Int)) = true := decide_eq_true rfl
      have g1 : (i : Int) < (i : Int) + 1 := by omega
      clear hr hm hb6 hlen CA B5
      go_wp2_with fail
      clear y
      go_loopg [11] i (fun g v11 wx => ∃ (j : Nat), j + g = i ∧ v11 = .int .i64 (j : Int) ∧ wx = w6)
      case atStart => exact ⟨0, by omega, rfl, rfl⟩
      case round =>
        obtain ⟨j, hj, rfl, rfl⟩ := hrel
        by_cases hlj : j < i
        · have y := HROW.out j hlj
          have d3 : decide ((j : Int) = (j : Int)) = true := decide_eq_true rfl
          have g2 : (j : Int) < (i : Int) + 1 := by omega
          go_wp2_with fail
          go_roundg (i - (j + 1))
          case measure => omega
          case rel => exact ⟨j + 1, by omega, by first | rfl | (push_cast; rfl), rfl⟩
        · have hji : j = i := by omega
          subst hji
          go_wp2_with fail
          go_ret
          exact ⟨rfl, B6.out⟩
end Go.Proofs.YtmogplecohkjcaaGreatDoor
