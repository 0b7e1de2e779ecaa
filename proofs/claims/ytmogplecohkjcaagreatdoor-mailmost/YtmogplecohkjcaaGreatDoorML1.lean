/-
  The law MailMost.
-/
import Derived.Test.YtmogplecohkjcaaGreatDoorMBZ
namespace Go.Proofs.YtmogplecohkjcaaGreatDoor
open Go.RowKit
open Utf1
open Pol8 hiding text right Right
open Msg15 Mail17

/-- So many are under way tx two nodes. -/
def MostI (tx other : Int) (i : Nat) (ms : List Ms) : Prop := cnt tx ms = min i 16 ∧ cnt other ms = min i 16 ∧ ∀ t, t ≠ tx → t ≠ other → cnt t ms = 0
theorem most_app {tx other : Int} (hne : tx ≠ other) {i : Nat} {ms : List Ms} (h : MostI tx other i ms) (hi : i < 16) (e f : Int) : MostI tx other (i + 1) ((ms ++ [ackM 0 tx e]) ++ [ackM 0 other f]) := by
  obtain ⟨h1, h2, h3⟩ := h
  have a : ∀ t, cnt t [ackM 0 tx e] = if tx = t then 1 else 0 := fun t => cnt_one t _
  have b : ∀ t, cnt t [ackM 0 other f] = if other = t then 1 else 0 := fun t => cnt_one t _
  refine ⟨?_, ?_, fun t k1 k2 => ?_⟩
  · rw [cnt_app, cnt_app, a, b, if_pos rfl, if_neg (fun e => hne e.symm), h1]
    omega
  · rw [cnt_app, cnt_app, a, b, if_neg hne, if_pos rfl, h2]
    omega
  · rw [cnt_app, cnt_app, a, b, if_neg (fun e => k1 e.symm), if_neg (fun e => k2 e.symm), h3 t k1 k2]
theorem most_end {tx other : Int} (_ : 1 ≤ tx ∧ tx ≤ 5 ∧ 1 ≤ other ∧ other ≤ 5 ∧ tx ≠ other) {i : Nat} {ms : List Ms} (h : MostI tx other i ms) : ∀ t, cnt t ms = if t = tx ∨ t = other then min i 16 else 0 := fun t => by
  obtain ⟨h1, h2, h3⟩ := h
  by_cases e : t = tx
  · rw [e, h1, if_pos (.inl rfl)]
  · by_cases f : t = other
    · rw [f, h2, if_pos (.inr rfl)]
    · rw [h3 t e f, if_neg (fun k => k.elim e f)]
/-- Six numbers, two of them set. -/
def sixK (X Y i : Nat) : Array Value := ((([.int .i64 0, .int .i64 0, .int .i64 0, .int .i64 0, .int .i64 0, .int .i64 0] : List Value).set X (.int .i64 (min (i : Int) 16))).set Y (.int .i64 (min (i : Int) 16))).toArray
theorem mtwo_cells {w : World} {i : Nat} (X Y k : Nat) (hX : X < 6) (hY : Y < 6) (hk : k < 6) :
    (w.alloc (.cells (sixK X Y i) 47)).cell? ⟨w.heap.size, k, none⟩ = some (.int .i64 ((if (k : Int) = (X : Int) ∨ (k : Int) = (Y : Int) then min i 16 else 0 : Nat) : Int)) := by
  refine tag_cell (new_block w _ 47) k _ ?_
  unfold sixK
  have e : min (i : Int) 16 = ((min i 16 : Nat) : Int) := by omega
  rw [e]
  rcases (show X = 0 ∨ X = 1 ∨ X = 2 ∨ X = 3 ∨ X = 4 ∨ X = 5 by omega) with rfl | rfl | rfl | rfl | rfl | rfl <;> rcases (show Y = 0 ∨ Y = 1 ∨ Y = 2 ∨ Y = 3 ∨ Y = 4 ∨ Y = 5 by omega) with rfl | rfl | rfl | rfl | rfl | rfl <;> rcases (show k = 0 ∨ k = 1 ∨ k = 2 ∨ k = 3 ∨ k = 4 ∨ k = 5 by omega) with rfl | rfl | rfl | rfl | rfl | rfl <;> simp
theorem most_same {tx other : Int} {i : Nat} {ms : List Ms} (h : MostI tx other i ms) (hi : 16 ≤ i) : MostI tx other (i + 1) ms := by
  obtain ⟨h1, h2, h3⟩ := h
  exact ⟨by rw [h1]; omega, by rw [h2]; omega, h3⟩

set_option maxRecDepth 100000 in
set_option maxHeartbeats 16000000 in
theorem most_walk {Bx : World → Value → List Ms → List Nat → Prop} (C : MailC Bx) (n tx other : Int) (w : World) (hg : GlobM w) :
    Calls Tryz.prog 4 #[.int .i64 n, .int .i64 tx, .int .i64 other] w fun e w' => e = .returned (.bool true) ∧ Below w.heap.size w w' := by
  have HG := hide hg
  have HC := hide C
  have CW := hide (mawake_any C w hg)
  clear C hg
  go_enter Tryz.func4, Tryz.ntmps4
  go_wp2_with fail
  refine CW.out.mono ?_
  rintro e w0 ⟨rfl, hb0⟩
  have B0 := hide hb0
  clear hb0 CW
  go_wp2_with fail
  refine (mnew_any HC.out w0 (HG.out.below B0.out)).mono ?_
  rintro e w1 ⟨⟨a, rfl, hx1⟩, hb1⟩
  have B1 := hide (bel2 B0.out hb1)
  have X1 := hide hx1
  have BN := hide hb1
  clear hx1 hb1
  by_cases c0 : n < 0
  · have e0 : decide (n < 0) = true := decide_eq_true c0
    go_wp2_with fail
    go_ret
    exact ⟨rfl, B1.out⟩
  have e0 : decide (n < 0) = false := decide_eq_false c0
  by_cases c1 : 30 < n
  · have e1 : decide (30 < n) = true := decide_eq_true c1
    go_wp2_with fail
    go_ret
    exact ⟨rfl, B1.out⟩
  have e1 : decide (30 < n) = false := decide_eq_false c1
  by_cases c2 : tx < 1
  · have e2 : decide (tx < 1) = true := decide_eq_true c2
    go_wp2_with fail
    go_ret
    exact ⟨rfl, B1.out⟩
  have e2 : decide (tx < 1) = false := decide_eq_false c2
  by_cases c3 : 5 < tx
  · have e3 : decide (5 < tx) = true := decide_eq_true c3
    go_wp2_with fail
    go_ret
    exact ⟨rfl, B1.out⟩
  have e3 : decide (5 < tx) = false := decide_eq_false c3
  by_cases c4 : other < 1
  · have e4 : decide (other < 1) = true := decide_eq_true c4
    go_wp2_with fail
    go_ret
    exact ⟨rfl, B1.out⟩
  have e4 : decide (other < 1) = false := decide_eq_false c4
  by_cases c5 : 5 < other
  · have e5 : decide (5 < other) = true := decide_eq_true c5
    go_wp2_with fail
    go_ret
    exact ⟨rfl, B1.out⟩
  have e5 : decide (5 < other) = false := decide_eq_false c5
  by_cases c6 : tx = other
  · have e6 : decide (tx = other) = true := decide_eq_true c6
    have f6 : (tx == other) = true := by simpa using c6
    go_wp2_with fail
    go_ret
    exact ⟨rfl, B1.out⟩
  have e6 : decide (tx = other) = false := decide_eq_false c6
  have f6 : (tx == other) = false := by simpa using c6
  have BW : Hid (Below w.heap.size w w0) := B0
  have BZ : Hid (Below w0.heap.size w0 w1) := BN
  clear BN B1
  obtain ⟨N, rfl⟩ : ∃ N : Nat, n = (N : Int) := ⟨n.toNat, by omega⟩
  have hN : N ≤ 30 := by omega
  have HT : Hid (1 ≤ tx ∧ tx ≤ 5 ∧ 1 ≤ other ∧ other ≤ 5 ∧ tx ≠ other) := hide ⟨by omega, by omega, by omega, by omega, c6⟩
  go_wp2_with fail
  clear e0 e1 e2 e3 e4 e5 e6 f6 c0 c1 c2 c3 c4 c5 c6
  go_loopg [9, 10] N (fun g v9 v10 wr => ∃ (i : Nat) (ms : List Ms), i + g = N ∧ v9 = .int .i64 (i : Int) ∧ Hid (MBx Bx w0.heap.size wr a ms ∧ MostI tx other i ms) ∧ Hid (Below w0.heap.size w0 wr))
  case atStart => exact ⟨0, [], by omega, rfl, hide ⟨X1.out, ⟨by rw [cnt_nil]; rfl, by rw [cnt_nil]; rfl, fun t _ _ => cnt_nil t⟩⟩, BZ⟩
  case round =>
    obtain ⟨i, ms, hi, rfl, HX, HB⟩ := hrel
    clear X1 BZ
    by_cases hlt : i < N
    · have hR : ∀ t, (t = tx ∨ t = other) → MRight (ackM 0 t (i : Int)) := fun t ht => by
        have := HT.out
        exact ackM_right (by decide) (by rcases ht with rfl | rfl <;> omega) (by rcases ht with rfl | rfl <;> omega) (by omega)
      have HR := hide hR
      have X2 := hide HX.out.1
      have M2 := hide HX.out.2
      clear hR HX
      go_wp2_with fail
      refine (ack_any 0 tx (i : Int) wr).mono ?_
      rintro e wrb ⟨rfl, hb⟩
      have HBb := hide (HB.out.trans (hb.mono HB.out.size))
      have X2b := hide (X2.out.below HC.out hb)
      clear hb X2 HB
      have CP := hide (mput_any HC.out w0.heap.size wrb a ms (bare (ackM 0 tx (i : Int))) (HG.out.below (BW.out.trans (HBb.out.mono BW.out.size))) HBb.out.size X2b.out (ack_ok 0 tx (i : Int) (HG.out.below (BW.out.trans (HBb.out.mono BW.out.size)))) ackM_sml)
      go_wp2_with fail
      refine CP.out.mono ?_
      rintro e w3 ⟨⟨c, ms', rfl, hp, hx⟩, hb⟩
      by_cases h16 : i < 16
      · have d16 : decide ((i : Int) < 16) = true := decide_eq_true (by omega)
        obtain ⟨rfl, rfl⟩ := put_ok hp (HR.out tx (.inl rfl)) (show cnt tx ms < 16 by have := M2.out.1; omega)
        have B3 := hide (HBb.out.trans hb)
        have X3 := hide hx
        clear hp hx hb CP X2b HBb
        go_wp2_with fail
        refine (ack_any 0 other (i : Int) w3).mono ?_
        rintro e w3b ⟨rfl, hb⟩
        have B3b := hide (B3.out.trans (hb.mono B3.out.size))
        have X3b := hide (X3.out.below HC.out hb)
        clear hb X3 B3
        have CP := hide (mput_any HC.out w0.heap.size w3b a (ms ++ [ackM 0 tx (i : Int)]) (bare (ackM 0 other (i : Int))) (HG.out.below (BW.out.trans (B3b.out.mono BW.out.size))) B3b.out.size X3b.out (ack_ok 0 other (i : Int) (HG.out.below (BW.out.trans (B3b.out.mono BW.out.size)))) ackM_sml)
        go_wp2_with fail
        refine CP.out.mono ?_
        rintro e w4 ⟨⟨c, ms', rfl, hp, hx⟩, hb⟩
        obtain ⟨rfl, rfl⟩ := put_ok hp (HR.out other (.inr rfl)) (show cnt other (ms ++ [ackM 0 tx (i : Int)]) < 16 by
          rw [cnt_app, cnt_one, if_neg (show ¬ (ackM 0 tx (i : Int)).to = other from HT.out.2.2.2.2)]
          have := M2.out.2.1
          omega)
        have B4 := hide (B3b.out.trans hb)
        have X4 := hide hx
        have M4 : Hid (MostI tx other (i + 1) ((ms ++ [ackM 0 tx (i : Int)]) ++ [ackM 0 other (i : Int)])) := hide (most_app HT.out.2.2.2.2 M2.out h16 _ _)
        clear hp hx hb CP X3b B3b M2
        go_wp2_with fail
        go_roundg (N - (i + 1))
        case measure => omega
        case rel => exact ⟨i + 1, _, by omega, by first | rfl | (push_cast; rfl), hide ⟨X4.out, M4.out⟩, B4⟩
      · have d16 : decide ((i : Int) < 16) = false := decide_eq_false (by omega)
        obtain ⟨rfl, e9⟩ := put_full hp (HR.out tx (.inl rfl)) (show 16 ≤ cnt tx ms by have := M2.out.1; omega)
        rw [e9] at hx
        clear e9
        have B3 := hide (HBb.out.trans hb)
        have X3 := hide hx
        clear hp hx hb CP X2b HBb
        go_wp2_with fail
        refine (ack_any 0 other (i : Int) w3).mono ?_
        rintro e w3b ⟨rfl, hb⟩
        have B3b := hide (B3.out.trans (hb.mono B3.out.size))
        have X3b := hide (X3.out.below HC.out hb)
        clear hb X3 B3
        have CP := hide (mput_any HC.out w0.heap.size w3b a ms (bare (ackM 0 other (i : Int))) (HG.out.below (BW.out.trans (B3b.out.mono BW.out.size))) B3b.out.size X3b.out (ack_ok 0 other (i : Int) (HG.out.below (BW.out.trans (B3b.out.mono BW.out.size)))) ackM_sml)
        go_wp2_with fail
        refine CP.out.mono ?_
        rintro e w4 ⟨⟨c, ms', rfl, hp, hx⟩, hb⟩
        obtain ⟨rfl, e9⟩ := put_full hp (HR.out other (.inr rfl)) (show 16 ≤ cnt other ms by have := M2.out.2.1; omega)
        rw [e9] at hx
        have B4 := hide (B3b.out.trans hb)
        have X4 := hide hx
        have M4 : Hid (MostI tx other (i + 1) ms) := hide (most_same M2.out (by omega))
        clear hp hx hb CP X3b B3b M2
        go_wp2_with fail
        go_roundg (N - (i + 1))
        case measure => omega
        case rel => exact ⟨i + 1, _, by omega, by first | rfl | (push_cast; rfl), hide ⟨X4.out, M4.out⟩, B4⟩
    · have hiN : i = N := by omega
      subst hiN
      have HE := hide (most_end HT.out HX.out.2)
      obtain ⟨X, rfl⟩ : ∃ X : Nat, tx = (X : Int) := ⟨tx.toNat, by have := HT.out; omega⟩
      obtain ⟨Y, rfl⟩ : ∃ Y : Nat, other = (Y : Int) := ⟨other.toNat, by have := HT.out; omega⟩
      have hX6 : X < 6 := by have := HT.out; omega
      have hY6 : Y < 6 := by have := HT.out; omega
      obtain ⟨V, hV⟩ : ∃ V : Nat → Int, ∀ k, V k = ((cnt (k : Int) ms : Nat) : Int) := ⟨_, fun _ => rfl⟩
      have HV := hide hV
      have HM : Hid (∀ wx, Below w0.heap.size w0 wx ∧ MBx Bx w0.heap.size wx a ms → Calls Tryz.prog 20 #[.pointer (some a)] wx fun e w' => e = .returned (.agg #[.int .i64 (V 0), .int .i64 (V 1), .int .i64 (V 2), .int .i64 (V 3), .int .i64 (V 4), .int .i64 (V 5)]) ∧ Below wx.heap.size wx w') := hide (fun wx h => by
        rw [hV, hV, hV, hV, hV, hV]
        exact mmany_any HC.out w0.heap.size wx a ms (HG.out.below (BW.out.trans (h.1.mono BW.out.size))) h.2)
      obtain ⟨W2, hW2⟩ : ∃ W2, W2 = wr.alloc (.cells (sixK X Y i) 47) := ⟨_, rfl⟩
      have HW := hide hW2
      have HY : Hid (∀ wx, Below W2.heap.size W2 wx → wx.cell? ⟨wr.heap.size, 0, none⟩ = some (.int .i64 (V 0)) ∧ wx.cell? ⟨wr.heap.size, 1, none⟩ = some (.int .i64 (V 1)) ∧ wx.cell? ⟨wr.heap.size, 2, none⟩ = some (.int .i64 (V 2)) ∧ wx.cell? ⟨wr.heap.size, 3, none⟩ = some (.int .i64 (V 3)) ∧ wx.cell? ⟨wr.heap.size, 4, none⟩ = some (.int .i64 (V 4)) ∧ wx.cell? ⟨wr.heap.size, 5, none⟩ = some (.int .i64 (V 5)) ∧ Hid (Below W2.heap.size W2 wx)) := hide (by
        have k : ∀ k, k < 6 → W2.cell? ⟨wr.heap.size, k, none⟩ = some (.int .i64 (V k)) := fun k hk => by
          rw [hV, HE.out, hW2]
          exact mtwo_cells X Y k hX6 hY6 hk
        exact fun wx hb => ⟨cell_keep (k 0 (by decide)) hb, cell_keep (k 1 (by decide)) hb, cell_keep (k 2 (by decide)) hb, cell_keep (k 3 (by decide)) hb, cell_keep (k 4 (by decide)) hb, cell_keep (k 5 (by decide)) hb, hide hb⟩)
      have HZ : Hid (∀ wx, Below W2.heap.size W2 wx → Below w0.heap.size w0 wx ∧ MBx Bx w0.heap.size wx a ms) := hide (fun wx hb => by
        have h0 : Below wr.heap.size wr W2 := by
          rw [hW2]
          exact bel_alloc (Below.refl _ _) _
        have h1 : Below wr.heap.size wr wx := bel2 h0 hb
        exact ⟨bel2 HB.out h1, HX.out.1.below HC.out h1⟩)
      have HA : Hid (∀ wx, (wx.cell? ⟨wr.heap.size, 0, none⟩ = some (.int .i64 (V 0)) ∧ wx.cell? ⟨wr.heap.size, 1, none⟩ = some (.int .i64 (V 1)) ∧ wx.cell? ⟨wr.heap.size, 2, none⟩ = some (.int .i64 (V 2)) ∧ wx.cell? ⟨wr.heap.size, 3, none⟩ = some (.int .i64 (V 3)) ∧ wx.cell? ⟨wr.heap.size, 4, none⟩ = some (.int .i64 (V 4)) ∧ wx.cell? ⟨wr.heap.size, 5, none⟩ = some (.int .i64 (V 5)) ∧ Hid (Below W2.heap.size W2 wx)) → Calls Tryz.prog 20 #[.pointer (some a)] wx fun e w' => e = .returned (.agg #[.int .i64 (V 0), .int .i64 (V 1), .int .i64 (V 2), .int .i64 (V 3), .int .i64 (V 4), .int .i64 (V 5)]) ∧ Below W2.heap.size W2 w') := hide (fun wx h => (HM.out wx (HZ.out wx h.2.2.2.2.2.2.out)).mono (fun _ _ k => ⟨k.1, bel2 h.2.2.2.2.2.2.out k.2⟩))
      have HB9 : Hid (∀ wx, (wx.cell? ⟨wr.heap.size, 0, none⟩ = some (.int .i64 (V 0)) ∧ wx.cell? ⟨wr.heap.size, 1, none⟩ = some (.int .i64 (V 1)) ∧ wx.cell? ⟨wr.heap.size, 2, none⟩ = some (.int .i64 (V 2)) ∧ wx.cell? ⟨wr.heap.size, 3, none⟩ = some (.int .i64 (V 3)) ∧ wx.cell? ⟨wr.heap.size, 4, none⟩ = some (.int .i64 (V 4)) ∧ wx.cell? ⟨wr.heap.size, 5, none⟩ = some (.int .i64 (V 5)) ∧ Hid (Below W2.heap.size W2 wx)) → Below w0.heap.size w0 wx) := hide (fun wx h => (HZ.out wx h.2.2.2.2.2.2.out).1)
      clear HM HZ
      have hq := fun wx => six_eql (V 0) (V 1) (V 2) (V 3) (V 4) (V 5) (V 0) (V 1) (V 2) (V 3) (V 4) (V 5) wx
      clear hV hW2 HE HX
      go_wp2_with fail
      change Code.wp _ _ _ _ (wr.alloc (.cells (sixK X Y i) 47))
      rw [← HW.out]
      clear HW
      have hs0 := HY.out W2 (Below.refl _ _)
      go_region_held3 (fun wx => wx.cell? ⟨wr.heap.size, 0, none⟩ = some (.int .i64 (V 0)) ∧ wx.cell? ⟨wr.heap.size, 1, none⟩ = some (.int .i64 (V 1)) ∧ wx.cell? ⟨wr.heap.size, 2, none⟩ = some (.int .i64 (V 2)) ∧ wx.cell? ⟨wr.heap.size, 3, none⟩ = some (.int .i64 (V 3)) ∧ wx.cell? ⟨wr.heap.size, 4, none⟩ = some (.int .i64 (V 4)) ∧ wx.cell? ⟨wr.heap.size, 5, none⟩ = some (.int .i64 (V 5)) ∧ Hid (Below W2.heap.size W2 wx))
        (first | exact HY.out _ ((Below.refl _ _).drew) | exact HY.out _ (by assumption))
        (first
          | (go_at_call 20; refine (HA.out _ (by assumption)).mono ?_; rintro e w6 ⟨rfl, h6⟩))
      all_goals
        have H7 := hide (HB9.out _ (by assumption))
        go_wp2_with fail
        go_ret
        exact ⟨rfl, BW.out.trans (H7.out.mono BW.out.size)⟩
end Go.Proofs.YtmogplecohkjcaaGreatDoor
