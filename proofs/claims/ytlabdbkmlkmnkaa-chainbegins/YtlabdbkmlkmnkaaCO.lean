/-
  The program's own ownList and own: a policy that shares nothing.
-/
import Derived.Test.YtlabdbkmlkmnkaaDS
import Derived.Test.YtlabdbkmlkmnkaaShelf
import Derived.Laws.Rows
namespace Go.Proofs.Ytlabdbkmlkmnkaa
open Go.RowKit
open Utf1 Pol8

theorem sclone_any (s : ByteArray) (hs : s.size ≤ 100000) (w : World) :
    Calls Try.prog 56 #[.string s] w fun e w' => e = .returned (.string s) ∧ Below w.heap.size w w' := by
  have C1 := hide (Try.stringslite_Clone s w (by omega))
  go_enter Try.func56, Try.ntmps56
  go_wp2_with fail
  refine C1.out.mono ?_
  rintro e w1 ⟨rfl, h1⟩
  have H1 := hide h1
  clear h1 C1
  go_wp2_with fail
  go_ret
  exact ⟨rfl, H1.out⟩
theorem lclone_any (v : Value) (ss : List ByteArray) (hl : ss.length ≤ 100000) (w : World) (hv : StrArg w v ss) :
    Calls Try.prog 55 #[v] w fun e w' => ∃ u, e = .returned u ∧ w'.ownsRow w.heap.size 9 1 u ss.length (strV ss) ∧ Below w.heap.size w w' := by
  obtain ⟨p, cap, rfl, h0, hc⟩ := hv
  cases p with
  | none =>
    have e : ss = [] := by
      cases ss with
      | nil => rfl
      | cons x r =>
        obtain ⟨b, off, e, -⟩ := hc 0 x rfl
        cases e
    subst e
    exact (Try.slices_Clone_string_nil _ _ w).mono fun e w' ⟨h1, h2⟩ => ⟨_, h1, by rw [h2]; exact World.ownsRow_nil _ _ _ _, by rw [h2]; exact Below.refl _ _⟩
  | some a =>
    cases ss with
    | nil => exact (Try.slices_Clone_string_zero a cap w).mono fun e w' ⟨u, h1, h2, _, h3⟩ => ⟨u, h1, h2, h3⟩
    | cons x r =>
      obtain ⟨b, off, e, -⟩ := hc 0 x rfl
      injection e with e
      subst e
      have hcell : ∀ j, j < (x :: r).length → w.cell? ⟨b, off + j, none⟩ = some (.string ((x :: r).getD j ByteArray.empty)) := fun j hj => by
        obtain ⟨b', off', e, h⟩ := hc j _ (List.getElem?_eq_getElem hj)
        injection e with e
        injection e with e1 e2
        subst e1 e2
        rw [List.getD_eq_getElem?_getD, List.getElem?_eq_getElem hj]
        exact h
      refine (Try.slices_Clone_string b off (x :: r).length cap (x :: r) w (Nat.le_refl _) (by omega) hcell).mono fun e w' ⟨u, h1, h2, _, h3⟩ => ⟨u, h1, ?_, h3⟩
      rw [List.take_of_length_le (Nat.le_refl _)] at h2
      exact h2
set_option maxRecDepth 100000 in
set_option maxHeartbeats 8000000 in
theorem ownList_any (v : Value) (ss : List ByteArray) (hl : ss.length ≤ 100000) (hz : ∀ x ∈ ss, x.size ≤ 100000) (w : World) (hv : StrArg w v ss) :
    Calls Try.prog 41 #[v] w fun e w' => ∃ u, e = .returned u ∧ w'.ownsRow w.heap.size 9 1 u ss.length (strV ss) ∧ Below w.heap.size w w' := by
  have C1 := hide (lclone_any v ss hl w hv)
  have HZ := hide hz
  obtain ⟨p0, cap0, rfl, -, -⟩ := hv
  clear hz
  go_enter Try.func41, Try.ntmps41
  go_wp2_with fail
  refine C1.out.mono ?_
  rintro e w1 ⟨u, rfl, hown, hb⟩
  obtain ⟨p, c, rfl, -⟩ := own_shape hown
  have H1 := hide (And.intro hown hb)
  obtain ⟨N, hN⟩ : ∃ N, N = ss.length := ⟨_, rfl⟩
  have HN := hide hN
  rw [← hN] at H1 hl
  clear hown hb C1
  try rw [← hN]
  clear hN
  go_wp2_with fail
  go_loopg [10] N (fun g v10 wx => ∃ i : Nat, i + g = N ∧ v10 = .int .i64 (i : Int) ∧ Hid (wx.ownsRow w.heap.size 9 1 (.slice p N c) N (strV ss) ∧ Below w.heap.size w wx))
  case atStart => exact ⟨0, by omega, rfl, hide H1.out⟩
  case round =>
    obtain ⟨i, hi, rfl, HU⟩ := hrel
    clear H1
    by_cases hlt : i < N
    · obtain ⟨s, hs⟩ : ∃ s, ss[i]? = some s := ⟨_, List.getElem?_eq_getElem (by have := HN.out; omega)⟩
      have hsz : s.size ≤ 100000 := HZ.out s (List.mem_of_getElem? hs)
      obtain ⟨g, rfl⟩ : ∃ g, p = some ⟨g, 0, none⟩ := by
        rcases HU.out.1.2 with ⟨e, hz⟩ | ⟨g, cap, cur, e, _⟩
        · omega
        · injection e with e1
          exact ⟨g, e1⟩
      have hge : (strV ss)[i]? = some (.string s) := by unfold strV; rw [List.getElem?_map, hs]; rfl
      have c0 : wr.cell? ⟨g, i, none⟩ = some (.string s) := by rw [HU.out.1.cellAt i (by omega), hge]
      have C2 := hide (sclone_any s hsz wr)
      have HG := hide hge
      clear hge hs
      go_wp2_with fail
      refine C2.out.mono ?_
      rintro e w2 ⟨rfl, h2⟩
      have H2 : Hid (w2.ownsRow w.heap.size 9 1 (.slice (some ⟨g, 0, none⟩) N c) N (strV ss) ∧ Below w.heap.size w w2) := hide ⟨HU.out.1.kept (row := none) (below_grown h2) (Classical.em _), HU.out.2.trans (h2.mono HU.out.2.size)⟩
      have d0 : w2.cell? ⟨g, i, none⟩ = some (.string s) := by rw [H2.out.1.cellAt i (by omega), HG.out]
      have f0 : w2.frozen? ⟨g, i, none⟩ = false := H2.out.1.frozenAt i
      clear h2 C2 c0 HU
      go_wp2_with fail
      have H3 : Hid ((w2.setCell ⟨g, i, none⟩ (.string s)).ownsRow w.heap.size 9 1 (.slice (some ⟨g, 0, none⟩) N c) N (strV ss) ∧ Below w.heap.size w (w2.setCell ⟨g, i, none⟩ (.string s))) := hide (by
        have h := (H2.out.1.stored i (.string s)).1
        have e : (strV ss).set i (.string s) = strV ss := by
          apply List.ext_getElem?
          intro j
          by_cases ej : i = j
          · subst ej
            rw [List.getElem?_set_self (List.getElem?_eq_some_iff.1 HG.out).1, HG.out]
          · rw [List.getElem?_set_ne ej]
        rw [e] at h
        have hg : w.heap.size ≤ g := (own_block H2.out.1 (k := g) rfl).1
        exact ⟨h, H2.out.2.setCell (show w.heap.size ≤ (⟨g, i, none⟩ : Addr).block from hg) _⟩)
      clear H2 d0 f0
      go_roundg (N - i - 1)
      case measure => omega
      case rel => exact ⟨i + 1, by omega, by first | rfl | simp, H3⟩
    · go_wp2_with fail
      go_ret
      refine ⟨_, rfl, ?_, HU.out.2⟩
      rw [← HN.out]
      exact HU.out.1

/-- A row of strings in blocks from B on. -/
def RowB (B : Nat) (w : World) (v : Value) (ss : List ByteArray) : Prop := StrArg w v ss ∧ ∀ b off n c, v = .slice (some ⟨b, off, none⟩) n c → B ≤ b
theorem RowB.below {B : Nat} {w w' : World} {v : Value} {ss : List ByteArray} (h : RowB B w v ss) (hb : Below w.heap.size w w') : RowB B w' v ss := ⟨h.1.below hb, h.2⟩
theorem RowB.setCell {B : Nat} {w : World} {v : Value} {ss : List ByteArray} (h : RowB B w v ss) {a : Addr} (ha : a.block < B) (u : Value) : RowB B (w.setCell a u) v ss := by
  obtain ⟨⟨p, cap, rfl, h0, hc⟩, hb⟩ := h
  refine ⟨⟨p, cap, rfl, h0, fun i s hi => ?_⟩, hb⟩
  obtain ⟨b, off, hp, hcell⟩ := hc i s hi
  refine ⟨b, off, hp, ?_⟩
  have h1 := hb b off _ _ (by rw [hp])
  unfold World.cell? at hcell ⊢
  rw [Below.heap_setCell _ _ _ _ (by show b ≠ a.block; omega)]
  exact hcell
theorem RowB.setRow {B : Nat} {w : World} {v : Value} {ss : List ByteArray} (h : RowB B w v ss) {g : Nat} (ha : g < B) (cs : Array Value) : RowB B (w.setRow g cs) v ss := by
  obtain ⟨⟨p, cap, rfl, h0, hc⟩, hb⟩ := h
  refine ⟨⟨p, cap, rfl, h0, fun i s hi => ?_⟩, hb⟩
  obtain ⟨b, off, hp, hcell⟩ := hc i s hi
  refine ⟨b, off, hp, ?_⟩
  have h1 := hb b off _ _ (by rw [hp])
  unfold World.cell? at hcell ⊢
  rw [setRow_other _ _ _ _ (by show b ≠ g; omega)]
  exact hcell
theorem rowB_own {B C : Nat} {w : World} {v : Value} {ss : List ByteArray} (h : w.ownsRow C 9 1 v ss.length (strV ss)) (hC : B ≤ C) : RowB B w v ss :=
  ⟨own_arg h, fun b off n c e => by
    subst e
    have := (own_block h (k := b) rfl).1
    omega⟩
theorem BoxQ.put {w wx : World} {A Z : Array Value} (h : BoxQ w A Z wx) (i : Nat) (v : Value) : BoxQ w (A.setIfInBounds i v) Z (wx.setCell ⟨w.heap.size, i, none⟩ v) :=
  ⟨heap_setCell_same wx _ i _ _ v h.1, (Below.heap_setCell _ _ _ _ (by show w.heap.size + 1 ≠ w.heap.size; omega)).trans h.2.1, h.2.2.setCell (Nat.le_refl _) _⟩
theorem below_row {B : Nat} {a w : World} (h : Below B a w) {g : Nat} (hg : B ≤ g) (cs : Array Value) : Below B a (w.setRow g cs) :=
  ⟨h.os, h.tape, h.output, by rw [size_setRow]; exact h.size, fun k hk => (setRow_other w g k cs (by omega)).trans (h.block k hk)⟩
abbrev zeroP : Array Value := #[.int .i64 0, .slice none 0 0, .slice none 0 0, .slice none 0 0, .slice none 0 0, .slice none 0 0, .int .i64 0, .int .i64 0, .int .i64 0]
/-- The slices lie in blocks from B on. -/
structure It.new (B : Nat) (w : World) (t : It) : Prop where
  r1 : RowB B w t.v1 t.l1
  r2 : RowB B w t.v2 t.l2
  r3 : RowB B w t.v3 t.l3
  r4 : RowB B w t.v4 t.l4
  r5 : RowB B w t.v5 t.l5
/-- What is asked of own. -/
def OwnC : Prop := ∀ (t : It) (w : World), t.ok w → fits t.p → Calls Try.prog 21 #[t.val] w fun e w' => (∃ t' : It, e = .returned t'.val ∧ t'.p = t.p ∧ t'.ok w' ∧ t'.new w.heap.size w') ∧ Below w.heap.size w w'
set_option maxRecDepth 100000 in
set_option maxHeartbeats 16000000 in
theorem own_any : OwnC := by
  intro t w ht hf
  obtain ⟨P, v1, v2, v3, v4, v5, l1, l2, l3, l4, l5⟩ := t
  have hf : fits P := hf
  have ht : PolV w v1 v2 v3 v4 v5 P l1 l2 l3 l4 l5 := ht
  have HT := hide ht
  obtain ⟨f1, z1⟩ := fits_of hf (by simp) ht.e1
  obtain ⟨f2, z2⟩ := fits_of hf (by simp) ht.e2
  obtain ⟨f3, z3⟩ := fits_of hf (by simp) ht.e3
  obtain ⟨f4, z4⟩ := fits_of hf (by simp) ht.e4
  obtain ⟨f5, z5⟩ := fits_of hf (by simp) ht.e5
  have C1 : Hid (∀ wx, Below w.heap.size w wx → Calls Try.prog 41 #[v1] wx fun e w' => ∃ u, e = .returned u ∧ w'.ownsRow wx.heap.size 9 1 u l1.length (strV l1) ∧ Below wx.heap.size wx w') := hide (fun wx h => ownList_any v1 l1 f1 z1 wx (ht.s1.below h))
  have C2 : Hid (∀ wx, Below w.heap.size w wx → Calls Try.prog 41 #[v2] wx fun e w' => ∃ u, e = .returned u ∧ w'.ownsRow wx.heap.size 9 1 u l2.length (strV l2) ∧ Below wx.heap.size wx w') := hide (fun wx h => ownList_any v2 l2 f2 z2 wx (ht.s2.below h))
  have C3 : Hid (∀ wx, Below w.heap.size w wx → Calls Try.prog 41 #[v3] wx fun e w' => ∃ u, e = .returned u ∧ w'.ownsRow wx.heap.size 9 1 u l3.length (strV l3) ∧ Below wx.heap.size wx w') := hide (fun wx h => ownList_any v3 l3 f3 z3 wx (ht.s3.below h))
  have C4 : Hid (∀ wx, Below w.heap.size w wx → Calls Try.prog 41 #[v4] wx fun e w' => ∃ u, e = .returned u ∧ w'.ownsRow wx.heap.size 9 1 u l4.length (strV l4) ∧ Below wx.heap.size wx w') := hide (fun wx h => ownList_any v4 l4 f4 z4 wx (ht.s4.below h))
  have C5 : Hid (∀ wx, Below w.heap.size w wx → Calls Try.prog 41 #[v5] wx fun e w' => ∃ u, e = .returned u ∧ w'.ownsRow wx.heap.size 9 1 u l5.length (strV l5) ∧ Below wx.heap.size wx w') := hide (fun wx h => ownList_any v5 l5 f5 z5 wx (ht.s5.below h))
  obtain ⟨a0, a6, a7, a8, ha0, ha6, ha7, ha8⟩ : ∃ a0 a6 a7 a8, a0 = P.ep ∧ a6 = P.dp ∧ a7 = P.nd ∧ a8 = P.bt := ⟨_, _, _, _, rfl, rfl, rfl, rfl⟩
  obtain ⟨w1, hw1⟩ : ∃ w1, w1 = (w.alloc (.cells #[.int .i64 a0, v1, v2, v3, v4, v5, .int .i64 a6, .int .i64 a7, .int .i64 a8] 30)).alloc (.cells zeroP 30) := ⟨_, rfl⟩
  have H1 : Hid (BoxQ w #[.int .i64 a0, v1, v2, v3, v4, v5, .int .i64 a6, .int .i64 a7, .int .i64 a8] zeroP w1) := hide (by rw [hw1]; exact BoxQ.new _ _ _)
  show Calls Try.prog 21 #[pval P v1 v2 v3 v4 v5] w _
  have HAA := hide (And.intro ha0 (And.intro ha6 (And.intro ha7 ha8)))
  unfold pval
  rw [← ha0, ← ha6, ← ha7, ← ha8]
  have hsz1 : w.heap.size + 2 ≤ w1.heap.size := by rw [hw1]; simp
  obtain ⟨o1, k1, rfl, -, -⟩ := ht.s1
  obtain ⟨o2, k2, rfl, -, -⟩ := ht.s2
  obtain ⟨o3, k3, rfl, -, -⟩ := ht.s3
  obtain ⟨o4, k4, rfl, -, -⟩ := ht.s4
  obtain ⟨o5, k5, rfl, -, -⟩ := ht.s5
  clear ht hf z1 z2 z3 z4 z5 f1 f2 f3 f4 f5 ha0 ha6 ha7 ha8
  go_enter Try.func21, Try.ntmps21
  go_upto_region 1 with fail
  rw [← hw1]
  clear hw1
  have HSZ := hide hsz1
  clear hsz1
  have y1 := H1.out.a 1 _ rfl
  go_wp2_with fail
  refine (C1.out _ H1.out.2.2).mono ?_
  rintro e x1 ⟨u, rfl, hown, hb⟩
  obtain ⟨p1, c1, rfl, -⟩ := own_shape hown
  have X1 := hide (H1.out.keep hb)
  have Y1 : Hid (RowB (w.heap.size + 2) x1 (.slice p1 l1.length c1) l1) := hide (rowB_own hown (HSZ.out))
  have HSX : Hid (w.heap.size + 2 ≤ x1.heap.size) := hide (by have := HSZ.out; have := hb.size; omega)
  have d1 := X1.out.a 1 _ rfl
  have z1 : x1.frozen? ⟨w.heap.size, 1, none⟩ = false := frozen_of_row _ _ _ _ _ X1.out.1
  clear hown hb y1 C1 H1
  go_upto_region 2 with fail
  obtain ⟨w2, hw⟩ : ∃ w2, w2 = x1.setCell ⟨w.heap.size, 1, none⟩ (.slice p1 l1.length c1) := ⟨_, rfl⟩
  have H2 : Hid (BoxQ w #[.int .i64 a0, .slice p1 (List.length l1) c1, .slice o2 (List.length l2) k2, .slice o3 (List.length l3) k3, .slice o4 (List.length l4) k4, .slice o5 (List.length l5) k5, .int .i64 a6, .int .i64 a7, .int .i64 a8] zeroP w2) := hide (by rw [hw]; exact X1.out.put 1 _)
  have HSZ2 : Hid (w.heap.size + 2 ≤ w2.heap.size) := hide (by rw [hw]; have := HSX.out; simpa using this)
  have Y1 : Hid (RowB (w.heap.size + 2) w2 (.slice p1 l1.length c1) l1) := hide (by rw [hw]; exact Y1.out.setCell (by show w.heap.size < w.heap.size + 2; omega) _)
  rw [← hw]
  clear hw d1 z1 X1 HSX
  have y2 := H2.out.a 2 _ rfl
  go_wp2_with fail
  refine (C2.out _ H2.out.2.2).mono ?_
  rintro e x2 ⟨u, rfl, hown, hb⟩
  obtain ⟨p2, c2, rfl, -⟩ := own_shape hown
  have X2 := hide (H2.out.keep hb)
  have Y2 : Hid (RowB (w.heap.size + 2) x2 (.slice p2 l2.length c2) l2) := hide (rowB_own hown (HSZ2.out))
  have Y1 := hide (Y1.out.below hb)
  have HSX : Hid (w.heap.size + 2 ≤ x2.heap.size) := hide (by have := HSZ2.out; have := hb.size; omega)
  have d2 := X2.out.a 2 _ rfl
  have z2 : x2.frozen? ⟨w.heap.size, 2, none⟩ = false := frozen_of_row _ _ _ _ _ X2.out.1
  clear hown hb y2 C2 H2
  go_upto_region 3 with fail
  obtain ⟨w3, hw⟩ : ∃ w3, w3 = x2.setCell ⟨w.heap.size, 2, none⟩ (.slice p2 l2.length c2) := ⟨_, rfl⟩
  have H3 : Hid (BoxQ w #[.int .i64 a0, .slice p1 (List.length l1) c1, .slice p2 (List.length l2) c2, .slice o3 (List.length l3) k3, .slice o4 (List.length l4) k4, .slice o5 (List.length l5) k5, .int .i64 a6, .int .i64 a7, .int .i64 a8] zeroP w3) := hide (by rw [hw]; exact X2.out.put 2 _)
  have HSZ3 : Hid (w.heap.size + 2 ≤ w3.heap.size) := hide (by rw [hw]; have := HSX.out; simpa using this)
  have Y1 : Hid (RowB (w.heap.size + 2) w3 (.slice p1 l1.length c1) l1) := hide (by rw [hw]; exact Y1.out.setCell (by show w.heap.size < w.heap.size + 2; omega) _)
  have Y2 : Hid (RowB (w.heap.size + 2) w3 (.slice p2 l2.length c2) l2) := hide (by rw [hw]; exact Y2.out.setCell (by show w.heap.size < w.heap.size + 2; omega) _)
  rw [← hw]
  clear hw d2 z2 X2 HSX
  have y3 := H3.out.a 3 _ rfl
  go_wp2_with fail
  refine (C3.out _ H3.out.2.2).mono ?_
  rintro e x3 ⟨u, rfl, hown, hb⟩
  obtain ⟨p3, c3, rfl, -⟩ := own_shape hown
  have X3 := hide (H3.out.keep hb)
  have Y3 : Hid (RowB (w.heap.size + 2) x3 (.slice p3 l3.length c3) l3) := hide (rowB_own hown (HSZ3.out))
  have Y1 := hide (Y1.out.below hb)
  have Y2 := hide (Y2.out.below hb)
  have HSX : Hid (w.heap.size + 2 ≤ x3.heap.size) := hide (by have := HSZ3.out; have := hb.size; omega)
  have d3 := X3.out.a 3 _ rfl
  have z3 : x3.frozen? ⟨w.heap.size, 3, none⟩ = false := frozen_of_row _ _ _ _ _ X3.out.1
  clear hown hb y3 C3 H3
  go_upto_region 4 with fail
  obtain ⟨w4, hw⟩ : ∃ w4, w4 = x3.setCell ⟨w.heap.size, 3, none⟩ (.slice p3 l3.length c3) := ⟨_, rfl⟩
  have H4 : Hid (BoxQ w #[.int .i64 a0, .slice p1 (List.length l1) c1, .slice p2 (List.length l2) c2, .slice p3 (List.length l3) c3, .slice o4 (List.length l4) k4, .slice o5 (List.length l5) k5, .int .i64 a6, .int .i64 a7, .int .i64 a8] zeroP w4) := hide (by rw [hw]; exact X3.out.put 3 _)
  have HSZ4 : Hid (w.heap.size + 2 ≤ w4.heap.size) := hide (by rw [hw]; have := HSX.out; simpa using this)
  have Y1 : Hid (RowB (w.heap.size + 2) w4 (.slice p1 l1.length c1) l1) := hide (by rw [hw]; exact Y1.out.setCell (by show w.heap.size < w.heap.size + 2; omega) _)
  have Y2 : Hid (RowB (w.heap.size + 2) w4 (.slice p2 l2.length c2) l2) := hide (by rw [hw]; exact Y2.out.setCell (by show w.heap.size < w.heap.size + 2; omega) _)
  have Y3 : Hid (RowB (w.heap.size + 2) w4 (.slice p3 l3.length c3) l3) := hide (by rw [hw]; exact Y3.out.setCell (by show w.heap.size < w.heap.size + 2; omega) _)
  rw [← hw]
  clear hw d3 z3 X3 HSX
  have y4 := H4.out.a 4 _ rfl
  go_wp2_with fail
  refine (C4.out _ H4.out.2.2).mono ?_
  rintro e x4 ⟨u, rfl, hown, hb⟩
  obtain ⟨p4, c4, rfl, -⟩ := own_shape hown
  have X4 := hide (H4.out.keep hb)
  have Y4 : Hid (RowB (w.heap.size + 2) x4 (.slice p4 l4.length c4) l4) := hide (rowB_own hown (HSZ4.out))
  have Y1 := hide (Y1.out.below hb)
  have Y2 := hide (Y2.out.below hb)
  have Y3 := hide (Y3.out.below hb)
  have HSX : Hid (w.heap.size + 2 ≤ x4.heap.size) := hide (by have := HSZ4.out; have := hb.size; omega)
  have d4 := X4.out.a 4 _ rfl
  have z4 : x4.frozen? ⟨w.heap.size, 4, none⟩ = false := frozen_of_row _ _ _ _ _ X4.out.1
  clear hown hb y4 C4 H4
  go_upto_region 5 with fail
  obtain ⟨w5, hw⟩ : ∃ w5, w5 = x4.setCell ⟨w.heap.size, 4, none⟩ (.slice p4 l4.length c4) := ⟨_, rfl⟩
  have H5 : Hid (BoxQ w #[.int .i64 a0, .slice p1 (List.length l1) c1, .slice p2 (List.length l2) c2, .slice p3 (List.length l3) c3, .slice p4 (List.length l4) c4, .slice o5 (List.length l5) k5, .int .i64 a6, .int .i64 a7, .int .i64 a8] zeroP w5) := hide (by rw [hw]; exact X4.out.put 4 _)
  have HSZ5 : Hid (w.heap.size + 2 ≤ w5.heap.size) := hide (by rw [hw]; have := HSX.out; simpa using this)
  have Y1 : Hid (RowB (w.heap.size + 2) w5 (.slice p1 l1.length c1) l1) := hide (by rw [hw]; exact Y1.out.setCell (by show w.heap.size < w.heap.size + 2; omega) _)
  have Y2 : Hid (RowB (w.heap.size + 2) w5 (.slice p2 l2.length c2) l2) := hide (by rw [hw]; exact Y2.out.setCell (by show w.heap.size < w.heap.size + 2; omega) _)
  have Y3 : Hid (RowB (w.heap.size + 2) w5 (.slice p3 l3.length c3) l3) := hide (by rw [hw]; exact Y3.out.setCell (by show w.heap.size < w.heap.size + 2; omega) _)
  have Y4 : Hid (RowB (w.heap.size + 2) w5 (.slice p4 l4.length c4) l4) := hide (by rw [hw]; exact Y4.out.setCell (by show w.heap.size < w.heap.size + 2; omega) _)
  rw [← hw]
  clear hw d4 z4 X4 HSX
  have y5 := H5.out.a 5 _ rfl
  go_wp2_with fail
  refine (C5.out _ H5.out.2.2).mono ?_
  rintro e x5 ⟨u, rfl, hown, hb⟩
  obtain ⟨p5, c5, rfl, -⟩ := own_shape hown
  have X5 := hide (H5.out.keep hb)
  have Y5 : Hid (RowB (w.heap.size + 2) x5 (.slice p5 l5.length c5) l5) := hide (rowB_own hown (HSZ5.out))
  have Y1 := hide (Y1.out.below hb)
  have Y2 := hide (Y2.out.below hb)
  have Y3 := hide (Y3.out.below hb)
  have Y4 := hide (Y4.out.below hb)
  have HSX : Hid (w.heap.size + 2 ≤ x5.heap.size) := hide (by have := HSZ5.out; have := hb.size; omega)
  have d5 := X5.out.a 5 _ rfl
  have z5 : x5.frozen? ⟨w.heap.size, 5, none⟩ = false := frozen_of_row _ _ _ _ _ X5.out.1
  clear hown hb y5 C5 H5
  go_upto_region 6 with fail
  obtain ⟨w6, hw⟩ : ∃ w6, w6 = x5.setCell ⟨w.heap.size, 5, none⟩ (.slice p5 l5.length c5) := ⟨_, rfl⟩
  have H6 : Hid (BoxQ w #[.int .i64 a0, .slice p1 (List.length l1) c1, .slice p2 (List.length l2) c2, .slice p3 (List.length l3) c3, .slice p4 (List.length l4) c4, .slice p5 (List.length l5) c5, .int .i64 a6, .int .i64 a7, .int .i64 a8] zeroP w6) := hide (by rw [hw]; exact X5.out.put 5 _)
  have HSZ6 : Hid (w.heap.size + 2 ≤ w6.heap.size) := hide (by rw [hw]; have := HSX.out; simpa using this)
  have Y1 : Hid (RowB (w.heap.size + 2) w6 (.slice p1 l1.length c1) l1) := hide (by rw [hw]; exact Y1.out.setCell (by show w.heap.size < w.heap.size + 2; omega) _)
  have Y2 : Hid (RowB (w.heap.size + 2) w6 (.slice p2 l2.length c2) l2) := hide (by rw [hw]; exact Y2.out.setCell (by show w.heap.size < w.heap.size + 2; omega) _)
  have Y3 : Hid (RowB (w.heap.size + 2) w6 (.slice p3 l3.length c3) l3) := hide (by rw [hw]; exact Y3.out.setCell (by show w.heap.size < w.heap.size + 2; omega) _)
  have Y4 : Hid (RowB (w.heap.size + 2) w6 (.slice p4 l4.length c4) l4) := hide (by rw [hw]; exact Y4.out.setCell (by show w.heap.size < w.heap.size + 2; omega) _)
  have Y5 : Hid (RowB (w.heap.size + 2) w6 (.slice p5 l5.length c5) l5) := hide (by rw [hw]; exact Y5.out.setCell (by show w.heap.size < w.heap.size + 2; omega) _)
  rw [← hw]
  clear hw d5 z5 X5 HSX
  go_step
  refine wpList_load_row rfl 30 _ rfl w.heap.size rfl 30 #[.int .i64 a0, .slice p1 (List.length l1) c1, .slice p2 (List.length l2) c2, .slice p3 (List.length l3) c3, .slice p4 (List.length l4) c4, .slice p5 (List.length l5) c5, .int .i64 a6, .int .i64 a7, .int .i64 a8] (0, 0) _ H6.out.1 Try.underlying30 rfl (by kernel_rfl) ?_
  refine wpList_store_row rfl 30 _ _ rfl (w.heap.size + 1) #[.int .i64 a0, .slice p1 (List.length l1) c1, .slice p2 (List.length l2) c2, .slice p3 (List.length l3) c3, .slice p4 (List.length l4) c4, .slice p5 (List.length l5) c5, .int .i64 a6, .int .i64 a7, .int .i64 a8] rfl rfl 30 _ H6.out.2.1 (by kernel_rfl) rfl (by simp [Value.oneCell']) ?_
  obtain ⟨w7, hw⟩ : ∃ w7, w7 = w6.setRow (w.heap.size + 1) #[.int .i64 a0, .slice p1 (List.length l1) c1, .slice p2 (List.length l2) c2, .slice p3 (List.length l3) c3, .slice p4 (List.length l4) c4, .slice p5 (List.length l5) c5, .int .i64 a6, .int .i64 a7, .int .i64 a8] := ⟨_, rfl⟩
  have K7 : Hid (w7.heap[w.heap.size + 1]? = some (.cells #[.int .i64 a0, .slice p1 (List.length l1) c1, .slice p2 (List.length l2) c2, .slice p3 (List.length l3) c3, .slice p4 (List.length l4) c4, .slice p5 (List.length l5) c5, .int .i64 a6, .int .i64 a7, .int .i64 a8] 30 (0, 0))) := hide (by rw [hw]; exact setRow_heap _ _ _ _ _ _ H6.out.2.1)
  have B7 : Hid (Below w.heap.size w w7) := hide (by rw [hw]; exact below_row H6.out.2.2 (by omega) _)
  have Y1 : Hid (RowB (w.heap.size + 2) w7 (.slice p1 l1.length c1) l1) := hide (by rw [hw]; exact Y1.out.setRow (by omega) _)
  have Y2 : Hid (RowB (w.heap.size + 2) w7 (.slice p2 l2.length c2) l2) := hide (by rw [hw]; exact Y2.out.setRow (by omega) _)
  have Y3 : Hid (RowB (w.heap.size + 2) w7 (.slice p3 l3.length c3) l3) := hide (by rw [hw]; exact Y3.out.setRow (by omega) _)
  have Y4 : Hid (RowB (w.heap.size + 2) w7 (.slice p4 l4.length c4) l4) := hide (by rw [hw]; exact Y4.out.setRow (by omega) _)
  have Y5 : Hid (RowB (w.heap.size + 2) w7 (.slice p5 l5.length c5) l5) := hide (by rw [hw]; exact Y5.out.setRow (by omega) _)
  rw [← hw]
  clear hw H6 HSZ6
  go_wp2_with fail
  refine bodyPost_ret (results_cell_row rfl _ _ (w.heap.size + 1) 30 #[.int .i64 a0, .slice p1 (List.length l1) c1, .slice p2 (List.length l2) c2, .slice p3 (List.length l3) c3, .slice p4 (List.length l4) c4, .slice p5 (List.length l5) c5, .int .i64 a6, .int .i64 a7, .int .i64 a8] (0, 0) _ rfl K7.out Try.underlying30 rfl (by kernel_rfl)) rfl ?_
  have hlow : ∀ (v : Value) (l : List ByteArray), RowB (w.heap.size + 2) w7 v l → RowB w.heap.size w7 v l := fun v l h => ⟨h.1, fun b off n c e => by have := h.2 b off n c e; omega⟩
  refine ⟨⟨⟨P, .slice p1 l1.length c1, .slice p2 l2.length c2, .slice p3 l3.length c3, .slice p4 l4.length c4, .slice p5 l5.length c5, l1, l2, l3, l4, l5⟩, ?_, rfl, ⟨Y1.out.1, Y2.out.1, Y3.out.1, Y4.out.1, Y5.out.1, HT.out.e1, HT.out.e2, HT.out.e3, HT.out.e4, HT.out.e5, trivial⟩, ⟨hlow _ _ Y1.out, hlow _ _ Y2.out, hlow _ _ Y3.out, hlow _ _ Y4.out, hlow _ _ Y5.out⟩⟩, B7.out⟩
  rw [HAA.out.1, HAA.out.2.1, HAA.out.2.2.1, HAA.out.2.2.2]
end Go.Proofs.Ytlabdbkmlkmnkaa
