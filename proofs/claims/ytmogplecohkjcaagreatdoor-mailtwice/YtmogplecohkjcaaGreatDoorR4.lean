/-
  The program's own lists that are right.
-/
import Derived.Test.YtmogplecohkjcaaGreatDoorRZ
namespace Go.Proofs.YtmogplecohkjcaaGreatDoor
open Go.RowKit
open Utf1 Pol8

set_option maxRecDepth 100000 in
set_option maxHeartbeats 8000000 in
theorem prights_any (g : Nat) (lb : Array Value) (eg : ∀ args w, (callFunc g args).run Tryz.prog w = .ok (.enter g args) w) (p : L → Bool) (v : Value) (ss : List ByteArray) (hl : ss.length ≤ 100000) (hz : ∀ x ∈ ss, x.size ≤ 100000) (w : World) (hv : StrArg w v ss) (hp : Tells g lb p w) :
    Calls Tryz.prog 55 #[v, .func (.func g) #[] lb] w fun e w' => e = .returned (.bool (rises (ss.map bl) && (ss.map bl).all p)) ∧ Below w.heap.size w w' := by
  have CE := hide (fun wx (hx : Below w.heap.size w wx) => peach_any g lb eg p v ss hl hz wx (hv.below hx) (hp.later hx))
  obtain ⟨R, hR⟩ : ∃ R, R = (rises (ss.map bl) && (ss.map bl).all p) := ⟨_, rfl⟩
  rw [← hR]
  have HAL := hide hR
  have HV := hide hv
  clear hp hz hR eg
  obtain ⟨q, cap, rfl, -, -⟩ := hv
  obtain ⟨N, hN⟩ : ∃ N, N = ss.length := ⟨_, rfl⟩
  rw [← hN] at hl HV CE ⊢
  have HN := hide hN
  clear hN
  by_cases h64 : 64 < N
  · have HR : Hid (R = false) := hide (by
      rw [HAL.out]
      unfold rises
      rw [decide_eq_false (by rw [List.length_map, ← HN.out]; omega), Bool.and_false, Bool.false_and])
    clear HAL CE HV
    go_enter Tryz.func55, Tryz.ntmps55
    go_wp2_with fail
    go_ret
    rw [HR.out]
    exact ⟨rfl, Below.refl _ _⟩
  go_enter Tryz.func55, Tryz.ntmps55
  go_wp2_with fail
  go_loopg [5] (N + 1) (fun g v wx => ∃ i : Nat, 1 ≤ i ∧ N + 1 ≤ i + g ∧ i ≤ N + 1 ∧ v = .int .i64 (i : Int) ∧ Hid (Below w.heap.size w wx ∧ ∀ j a b, j + 1 < i → ss[j]? = some a → ss[j + 1]? = some b → lt (bl a) (bl b) = true))
  case atStart => exact ⟨1, by omega, by omega, by omega, rfl, hide ⟨Below.refl _ _, fun j a b hj => by omega⟩⟩
  case round =>
    obtain ⟨i, h1, hg, hiN, rfl, HU⟩ := hrel
    by_cases hlt : i < N
    · obtain ⟨k, rfl⟩ : ∃ k, i = k + 1 := ⟨i - 1, by omega⟩
      obtain ⟨x, hx⟩ : ∃ y, ss[k]? = some y := ⟨_, List.getElem?_eq_getElem (by rw [← HN.out]; omega)⟩
      obtain ⟨y, hy⟩ : ∃ y, ss[k + 1]? = some y := ⟨_, List.getElem?_eq_getElem (by rw [← HN.out]; exact hlt)⟩
      obtain ⟨b, off, rfl, c0, c1⟩ : ∃ b off, q = some ⟨b, off, none⟩ ∧ wr.cell? ⟨b, off + k, none⟩ = some (.string x) ∧ wr.cell? ⟨b, off + (k + 1), none⟩ = some (.string y) := by
        obtain ⟨p', cap', e, -, hc⟩ := HV.out.below HU.out.1
        injection e with e1 e2 e3
        obtain ⟨b, off, e4, h⟩ := hc k x hx
        obtain ⟨b', off', e5, h'⟩ := hc (k + 1) y hy
        rw [e4] at e5
        injection e5 with e5
        injection e5 with e6 e7
        subst e6
        subst e7
        exact ⟨b, off, e1.trans e4, h, h'⟩
      have hkc : ((k + 1 : Nat) : Int) - 1 = (k : Int) := by omega
      have HB : Hid (Below w.heap.size w wr.drew) := hide HU.out.1.drew
      have HYES : Hid (lt (bl x) (bl y) = true → ∀ j a b, j + 1 < k + 2 → ss[j]? = some a → ss[j + 1]? = some b → lt (bl a) (bl b) = true) := hide (fun h j a b hj ha hb => by
        by_cases e : j = k
        · subst e
          rw [hx] at ha
          rw [hy] at hb
          cases ha
          cases hb
          exact h
        · exact HU.out.2 j a b (by omega) ha hb)
      have HNO : Hid (lt (bl x) (bl y) = false → R = false) := hide (fun h => by
        rw [HAL.out]
        unfold rises
        rw [Bool.and_eq_false_iff, Bool.and_eq_false_iff]
        left
        left
        cases hc : chain (ss.map bl)
        · rfl
        · have := (chain_iff _).1 hc k (bl x) (bl y) (by rw [List.getElem?_map, hx]; rfl) (by rw [List.getElem?_map, hy]; rfl)
          rw [h] at this
          cases this)
      clear hx hy HU
      cases hxy : lt (bl x) (bl y) with
      | true =>
        have HU2 := hide (HYES.out hxy)
        have hgq2 := less_is x y
        rw [hxy] at hgq2
        clear HYES HNO hxy
        go_wp2_with fail
        go_region
        go_wp2_with fail
        go_roundg (gk - 1)
        case measure => omega
        case rel => exact ⟨k + 2, by omega, by omega, by omega, by first | rfl | simp | (congr 1), hide ⟨HB.out, HU2.out⟩⟩
      | false =>
        have HR := hide (HNO.out hxy)
        have hgq2 := less_is x y
        rw [hxy] at hgq2
        clear HYES HNO hxy
        go_wp2_with fail
        go_region
        go_wp2_with fail
        go_ret
        rw [HR.out]
        exact ⟨rfl, HB.out⟩
    · have HC : Hid (chain (ss.map bl) = true) := hide (by
        rw [chain_iff]
        intro j a b ha hb
        rw [List.getElem?_map] at ha hb
        cases hx : ss[j]? with
        | none => rw [hx] at ha; cases ha
        | some x =>
          cases hy : ss[j + 1]? with
          | none => rw [hy] at hb; cases hb
          | some y =>
            rw [hx] at ha
            rw [hy] at hb
            cases ha
            cases hb
            have := (List.getElem?_eq_some_iff.1 hy).1
            exact HU.out.2 j x y (by have := HN.out; omega) hx hy)
      have HR : Hid (R = (ss.map bl).all p) := hide (by
        rw [HAL.out]
        unfold rises
        rw [HC.out, decide_eq_true (by rw [List.length_map, ← HN.out]; omega), Bool.true_and, Bool.true_and])
      have CE2 := hide (CE.out wr HU.out.1)
      have HB := hide HU.out.1
      clear HAL HC CE HU
      rw [← HR.out] at CE2
      clear HR
      go_wp2_with fail
      refine CE2.out.mono ?_
      rintro e w3 ⟨rfl, hb3⟩
      have HB3 := hide (bel2 HB.out hb3)
      clear hb3
      go_wp2_with fail
      go_ret
      exact ⟨rfl, HB3.out⟩

theorem attrOk_none {el : List L} {s : L} (h : (46 : UInt8) ∉ s) : attrOk el s = false := by
  unfold attrOk
  rw [dot_none s h]
theorem attrOk_some {el : List L} {a b : L} (h : (46 : UInt8) ∉ a) : attrOk el (a ++ 46 :: b) = (decide (a = [42] ∨ a ∈ el) && may b) := by
  unfold attrOk
  rw [dot_some a b h]

/-- The policy's own block, from which the closure reads. -/
def BoxR (B : Nat) (A : Array Value) (wx : World) : Prop := wx.heap[B]? = some (.cells A 33 (0, 0))
theorem BoxR.keep {B : Nat} {A : Array Value} {wx wy : World} (h : BoxR B A wx) (hb : Below wx.heap.size wx wy) : BoxR B A wy :=
  (hb.block _ (Array.getElem?_eq_some_iff.1 h).1).trans h

set_option maxRecDepth 100000 in
set_option maxHeartbeats 8000000 in
theorem pattr_any (B : Nat) (a0 : Int) (v1 v2 v3 v4 v5 : Value) (a6 a7 a8 : Int) (ss : List ByteArray) (hl : ss.length ≤ 100000) (x : ByteArray) (hx : x.size ≤ 100000) (w : World) (hbx : BoxR B #[.int .i64 a0, v1, v2, v3, v4, v5, .int .i64 a6, .int .i64 a7, .int .i64 a8] w) (hv : StrArg w v1 ss) :
    Calls Tryz.prog 48 #[.string x, .pointer (some ⟨B, 0, none⟩)] w fun e w' => e = .returned (.bool (attrOk (ss.map bl) (bl x))) ∧ Below w.heap.size w w' := by
  by_cases hd : (46 : UInt8) ∈ bl x
  · obtain ⟨n, a, hna, hn, hsz, -, -, -⟩ := split_ba x 46 hd
    have c1 := fun w => cut_some x 46 n a hna hn hx w
    rw [hna, attrOk_some hn, may_is]
    have HE : Hid (∀ wx, Below w.heap.size w wx → Calls Tryz.prog 50 #[pvalL a0 v1 v2 v3 v4 v5 a6 a7 a8, .string n] wx fun e w' => e = .returned (.bool (decide (bl n ∈ ss.map bl))) ∧ Below wx.heap.size wx w') := hide (fun wx h => pelem_any a0 v1 v2 v3 v4 v5 a6 a7 a8 n ss hl wx (hv.below h))
    have c3 := fun w => pword_any a (by omega) w
    have c4 := fun w => pnevA_any a w
    have f0 := eq_lit n [42]
    have HD : Hid (decide (bl n = [42] ∨ bl n ∈ ss.map bl) = (decide (bl n = [42]) || decide (bl n ∈ ss.map bl))) := hide (Bool.decide_or _ _)
    rw [HD.out]
    have HY : Hid (∀ wx, Below w.heap.size w wx → wx.cell? ⟨B, 0, none⟩ = some (.int .i64 a0) ∧ wx.cell? ⟨B, 1, none⟩ = some v1 ∧ wx.cell? ⟨B, 2, none⟩ = some v2 ∧ wx.cell? ⟨B, 3, none⟩ = some v3 ∧ wx.cell? ⟨B, 4, none⟩ = some v4 ∧ wx.cell? ⟨B, 5, none⟩ = some v5 ∧ wx.cell? ⟨B, 6, none⟩ = some (.int .i64 a6) ∧ wx.cell? ⟨B, 7, none⟩ = some (.int .i64 a7) ∧ wx.cell? ⟨B, 8, none⟩ = some (.int .i64 a8)) := hide (fun wx h => by
      have := hbx.keep h
      exact ⟨tag_cell this 0 _ rfl, tag_cell this 1 _ rfl, tag_cell this 2 _ rfl, tag_cell this 3 _ rfl, tag_cell this 4 _ rfl, tag_cell this 5 _ rfl, tag_cell this 6 _ rfl, tag_cell this 7 _ rfl, tag_cell this 8 _ rfl⟩)
    clear hna hn hsz hd hv hbx HD
    generalize decide (bl n ∈ ss.map bl) = t2 at HE ⊢
    generalize isWord (bl a) = t3 at c3 ⊢
    generalize nevA (bl a) = t4 at c4 ⊢
    generalize decide (bl n = [42]) = t1 at f0 ⊢
    cases t1 with
    | true =>
      cases t3 with
      | false =>
        go_enter Tryz.func48, Tryz.ntmps48
        go_wp2_with fail
        refine (c1 _).mono ?_
        rintro e w1 ⟨rfl, hb1⟩
        go_wp2_with fail
        refine (c3 _).mono ?_
        rintro e w2 ⟨rfl, rfl⟩
        go_wp2_with fail
        go_ret
        exact ⟨rfl, hb1⟩
      | true =>
        go_enter Tryz.func48, Tryz.ntmps48
        go_wp2_with fail
        refine (c1 _).mono ?_
        rintro e w1 ⟨rfl, hb1⟩
        go_wp2_with fail
        refine (c3 _).mono ?_
        rintro e w2 ⟨rfl, rfl⟩
        go_wp2_with fail
        refine (c4 _).mono ?_
        rintro e w2 ⟨rfl, rfl⟩
        go_wp2_with fail
        go_ret
        exact ⟨by simp, hb1⟩
    | false =>
      cases t2 with
      | false =>
        go_enter Tryz.func48, Tryz.ntmps48
        go_wp2_with fail
        refine (c1 _).mono ?_
        rintro e w1 ⟨rfl, hb1⟩
        obtain ⟨y0, y1, y2, y3, y4, y5, y6, y7, y8⟩ := HY.out _ hb1
        go_wp2_with fail
        refine (HE.out _ hb1).mono ?_
        rintro e w2 ⟨rfl, hb2⟩
        have HB := hide (bel2 hb1 hb2)
        clear hb2 hb1 y0 y1 y2 y3 y4 y5 y6 y7 y8
        go_wp2_with fail
        go_ret
        exact ⟨rfl, HB.out⟩
      | true =>
        cases t3 with
        | false =>
          go_enter Tryz.func48, Tryz.ntmps48
          go_wp2_with fail
          refine (c1 _).mono ?_
          rintro e w1 ⟨rfl, hb1⟩
          obtain ⟨y0, y1, y2, y3, y4, y5, y6, y7, y8⟩ := HY.out _ hb1
          go_wp2_with fail
          refine (HE.out _ hb1).mono ?_
          rintro e w2 ⟨rfl, hb2⟩
          have HB := hide (bel2 hb1 hb2)
          clear hb2 hb1 y0 y1 y2 y3 y4 y5 y6 y7 y8
          go_wp2_with fail
          refine (c3 _).mono ?_
          rintro e w2 ⟨rfl, rfl⟩
          go_wp2_with fail
          go_ret
          exact ⟨rfl, HB.out⟩
        | true =>
          go_enter Tryz.func48, Tryz.ntmps48
          go_wp2_with fail
          refine (c1 _).mono ?_
          rintro e w1 ⟨rfl, hb1⟩
          obtain ⟨y0, y1, y2, y3, y4, y5, y6, y7, y8⟩ := HY.out _ hb1
          go_wp2_with fail
          refine (HE.out _ hb1).mono ?_
          rintro e w2 ⟨rfl, hb2⟩
          have HB := hide (bel2 hb1 hb2)
          clear hb2 hb1 y0 y1 y2 y3 y4 y5 y6 y7 y8
          go_wp2_with fail
          refine (c3 _).mono ?_
          rintro e w2 ⟨rfl, rfl⟩
          go_wp2_with fail
          refine (c4 _).mono ?_
          rintro e w2 ⟨rfl, rfl⟩
          go_wp2_with fail
          go_ret
          exact ⟨by simp, HB.out⟩
  · have c1 := fun w => cut_none x 46 hd w
    rw [attrOk_none hd]
    clear hd hv hbx
    go_enter Tryz.func48, Tryz.ntmps48
    go_wp2_with fail
    refine (c1 _).mono ?_
    rintro e w1 ⟨rfl, hb1⟩
    go_wp2_with fail
    go_ret
    exact ⟨rfl, hb1⟩
end Go.Proofs.YtmogplecohkjcaaGreatDoor
