/-
  The document's Same of two messages, walked.
-/
import Derived.Test.YtmogplecohkjcaaGreatDoorMEV
import Derived.Test.YtmogplecohkjcaaGreatDoorMD7
import Derived.Test.YtmogplecohkjcaaGreatDoorQZ
import Derived.BigQuiet
import Derived.Deep.CutRange
namespace Go.Proofs.YtmogplecohkjcaaGreatDoor
open Go.RowKit
open Utf1
open Pol8 hiding text right Right
open Msg15

/-- Two messages' parameters in their blocks. -/
def BoxM (w : World) (A B : Array Value) (wx : World) : Prop := wx.heap[w.heap.size]? = some (.cells A 35 (0, 0)) ∧ wx.heap[w.heap.size + 1]? = some (.cells B 35 (0, 0)) ∧ Below w.heap.size w wx
theorem BoxM.keep {w wx wy : World} {A B : Array Value} (h : BoxM w A B wx) (hb : Below wx.heap.size wx wy) : BoxM w A B wy :=
  ⟨(hb.block _ (Array.getElem?_eq_some_iff.1 h.1).1).trans h.1, (hb.block _ (Array.getElem?_eq_some_iff.1 h.2.1).1).trans h.2.1, h.2.2.trans (hb.mono h.2.2.size)⟩
theorem BoxM.a {w wx : World} {A B : Array Value} (h : BoxM w A B wx) (i : Nat) (v : Value) (hv : A[i]? = some v) : wx.cell? ⟨w.heap.size, i, none⟩ = some v := tag_cell h.1 i v hv
theorem BoxM.b {w wx : World} {A B : Array Value} (h : BoxM w A B wx) (i : Nat) (v : Value) (hv : B[i]? = some v) : wx.cell? ⟨w.heap.size + 1, i, none⟩ = some v := tag_cell h.2.1 i v hv
theorem BoxM.new (w : World) (A B : Array Value) : BoxM w A B ((w.alloc (.cells A 35)).alloc (.cells B 35)) := by
  have s1 : (w.alloc (.cells A 35)).heap.size = w.heap.size + 1 := by simp
  have k2 := new_block (w.alloc (.cells A 35)) B 35
  rw [s1] at k2
  refine ⟨?_, k2, bel_alloc (bel_alloc (Below.refl _ _) _) _⟩
  rw [Below.heap_alloc _ _ _ (by rw [s1]; omega)]
  exact new_block _ _ _
theorem map_same {α β : Type} {f : α → β} (hf : ∀ x y, f x = f y → x = y) : ∀ (a b : List α), a.map f = b.map f → a = b
  | [], [], _ => rfl
  | [], _ :: _, h => by cases h
  | _ :: _, [], h => by cases h
  | x :: a, y :: b, h => by
    injection h with h1 h2
    rw [hf x y h1, map_same hf a b h2]
theorem bl_pair (x y : ByteArray × ByteArray) (h : (bl x.1, bl x.2) = (bl y.1, bl y.2)) : x = y := by
  injection h with h1 h2
  obtain ⟨a, b⟩ := x
  obtain ⟨c, d⟩ := y
  have e1 : a = c := ba_ext h1
  have e2 : b = d := ba_ext h2
  rw [e1, e2]
theorem list_at {α : Type} {a b : List α} (hl : a.length = b.length) (h : ∀ (i : Nat) (x y : α), a[i]? = some x → b[i]? = some y → x = y) : a = b := by
  apply List.ext_getElem? 
  intro i
  by_cases hi : i < a.length
  · have ha := List.getElem?_eq_getElem hi
    have hb := List.getElem?_eq_getElem (show i < b.length by omega)
    rw [ha, hb, h i _ _ ha hb]
  · rw [List.getElem?_eq_none (by omega), List.getElem?_eq_none (by omega)]
theorem boolOf_iff {T U : Prop} {e : Ending} (h : T ↔ U) (hb : BoolOf T e) : BoolOf U e := by
  obtain ⟨b, he, hb⟩ := hb
  exact ⟨b, he, hb.trans h⟩

set_option maxRecDepth 100000 in
set_option maxHeartbeats 64000000 in
theorem msame_any (a b : Ms) (vi vp v1 v2 v3 v4 v5 ui up u1 u2 u3 u4 u5 : Value) (ids1 : List ByteArray) (ts1 : List (ByteArray × ByteArray)) (l1 l2 l3 l4 l5 : List ByteArray) (ids2 : List ByteArray) (ts2 : List (ByteArray × ByteArray)) (k1 k2 k3 k4 k5 : List ByteArray) (w : World) (ha : MV w a vi vp v1 v2 v3 v4 v5 ids1 ts1 l1 l2 l3 l4 l5) (hb : MV w b ui up u1 u2 u3 u4 u5 ids2 ts2 k1 k2 k3 k4 k5) :
    Calls Tryz.prog 15 #[mval a.kind a.fr a.to a.ep vi vp a.pol v1 v2 v3 v4 v5, mval b.kind b.fr b.to b.ep ui up b.pol u1 u2 u3 u4 u5] w fun e w' => BoolOf (a = b) e ∧ Below w.heap.size w w' := by
  have HAB : Hid (a = b ↔ ((a.kind = b.kind ∧ a.fr = b.fr ∧ a.to = b.to ∧ a.ep = b.ep ∧ ids1.length = ids2.length ∧ ts1.length = ts2.length ∧ sameP a.pol b.pol = true) ∧ (∀ (i : Nat) (x y : ByteArray), ids1[i]? = some x → ids2[i]? = some y → x = y) ∧ (∀ (i : Nat) (x y : ByteArray × ByteArray), ts1[i]? = some x → ts2[i]? = some y → x = y))) := hide (by
    constructor
    · rintro rfl
      have h1 : ids1 = ids2 := map_same (fun x y h => ba_ext h) _ _ (ha.ei.symm.trans hb.ei)
      have h2 : ts1 = ts2 := map_same bl_pair _ _ (ha.ep.symm.trans hb.ep)
      subst h1 h2
      refine ⟨⟨rfl, rfl, rfl, rfl, rfl, rfl, (sameP_iff _ _).2 rfl⟩, fun i x y hx hy => ?_, fun i x y hx hy => ?_⟩
      · rw [hx] at hy
        exact Option.some.inj hy
      · rw [hx] at hy
        exact Option.some.inj hy
    · rintro ⟨⟨e1, e2, e3, e4, e5, e6, e7⟩, h1, h2⟩
      refine Ms.ext' e1 e2 e3 e4 ?_ ?_ ((sameP_iff _ _).1 e7)
      · rw [ha.ei, hb.ei, list_at e5 h1]
      · rw [ha.ep, hb.ep, list_at e6 h2])
  obtain ⟨AB, hAB⟩ : ∃ x, x = (a = b) := ⟨_, rfl⟩
  rw [← hAB] at HAB ⊢
  clear hAB
  have CS : Hid (∀ wx, Below w.heap.size w wx → Calls Tryz.prog 29 #[pval a.pol v1 v2 v3 v4 v5, pval b.pol u1 u2 u3 u4 u5] wx fun e w' => e = .returned (.bool (sameP a.pol b.pol)) ∧ Below wx.heap.size wx w') := hide (fun wx hx => rsameP_any _ _ _ _ _ _ _ _ _ _ _ _ _ _ _ _ _ _ _ _ _ _ wx (ha.hv.below hx) (hb.hv.below hx) ha.hf hb.hf)
  have HI1 := hide ha.hi
  have HI2 := hide hb.hi
  have HP1 := hide ha.hp
  have HP2 := hide hb.hp
  have hl1 := ha.li
  have hl2 := hb.li
  have hp1 := ha.lp
  have hp2 := hb.lp
  obtain ⟨pi, ci, rfl⟩ : ∃ q c, vi = .slice q ids1.length c := by obtain ⟨q, c, e, -, -⟩ := ha.hi; exact ⟨_, _, e⟩
  obtain ⟨pp, cp, rfl⟩ : ∃ q c, vp = .slice q ts1.length c := by obtain ⟨q, c, e, -, -, -⟩ := ha.hp; exact ⟨_, _, e⟩
  obtain ⟨q1, n1, c1, rfl⟩ : ∃ q n c, v1 = .slice q n c := by obtain ⟨q, c, e, -, -⟩ := ha.hv.s1; exact ⟨_, _, _, e⟩
  obtain ⟨q2, n2, c2, rfl⟩ : ∃ q n c, v2 = .slice q n c := by obtain ⟨q, c, e, -, -⟩ := ha.hv.s2; exact ⟨_, _, _, e⟩
  obtain ⟨q3, n3, c3, rfl⟩ : ∃ q n c, v3 = .slice q n c := by obtain ⟨q, c, e, -, -⟩ := ha.hv.s3; exact ⟨_, _, _, e⟩
  obtain ⟨q4, n4, c4, rfl⟩ : ∃ q n c, v4 = .slice q n c := by obtain ⟨q, c, e, -, -⟩ := ha.hv.s4; exact ⟨_, _, _, e⟩
  obtain ⟨q5, n5, c5, rfl⟩ : ∃ q n c, v5 = .slice q n c := by obtain ⟨q, c, e, -, -⟩ := ha.hv.s5; exact ⟨_, _, _, e⟩
  obtain ⟨pix, cix, rfl⟩ : ∃ q c, ui = .slice q ids2.length c := by obtain ⟨q, c, e, -, -⟩ := hb.hi; exact ⟨_, _, e⟩
  obtain ⟨ppx, cpx, rfl⟩ : ∃ q c, up = .slice q ts2.length c := by obtain ⟨q, c, e, -, -, -⟩ := hb.hp; exact ⟨_, _, e⟩
  obtain ⟨q1x, n1x, c1x, rfl⟩ : ∃ q n c, u1 = .slice q n c := by obtain ⟨q, c, e, -, -⟩ := hb.hv.s1; exact ⟨_, _, _, e⟩
  obtain ⟨q2x, n2x, c2x, rfl⟩ : ∃ q n c, u2 = .slice q n c := by obtain ⟨q, c, e, -, -⟩ := hb.hv.s2; exact ⟨_, _, _, e⟩
  obtain ⟨q3x, n3x, c3x, rfl⟩ : ∃ q n c, u3 = .slice q n c := by obtain ⟨q, c, e, -, -⟩ := hb.hv.s3; exact ⟨_, _, _, e⟩
  obtain ⟨q4x, n4x, c4x, rfl⟩ : ∃ q n c, u4 = .slice q n c := by obtain ⟨q, c, e, -, -⟩ := hb.hv.s4; exact ⟨_, _, _, e⟩
  obtain ⟨q5x, n5x, c5x, rfl⟩ : ∃ q n c, u5 = .slice q n c := by obtain ⟨q, c, e, -, -⟩ := hb.hv.s5; exact ⟨_, _, _, e⟩
  clear ha hb
  obtain ⟨N, hN⟩ : ∃ N, N = ids1.length := ⟨_, rfl⟩
  obtain ⟨Nx, hNx⟩ : ∃ N, N = ids2.length := ⟨_, rfl⟩
  obtain ⟨M, hM⟩ : ∃ M, M = ts1.length := ⟨_, rfl⟩
  obtain ⟨Mx, hMx⟩ : ∃ M, M = ts2.length := ⟨_, rfl⟩
  rw [← hN, ← hNx, ← hM, ← hMx]
  rw [← hN] at HI1 hl1 HAB
  rw [← hNx] at HI2 hl2 HAB
  rw [← hM] at HP1 hp1 HAB
  rw [← hMx] at HP2 hp2 HAB
  have HNN := hide (And.intro hN (And.intro hNx (And.intro hM hMx)))
  clear hN hNx hM hMx
  obtain ⟨A, hA⟩ : ∃ A : Array Value, A = #[.int .i64 a.kind, .int .i64 a.fr, .int .i64 a.to, .int .i64 a.ep, .slice pi N ci, .slice pp M cp, .int .i64 a.pol.ep, .slice q1 n1 c1, .slice q2 n2 c2, .slice q3 n3 c3, .slice q4 n4 c4, .slice q5 n5 c5, .int .i64 a.pol.dp, .int .i64 a.pol.nd, .int .i64 a.pol.bt] := ⟨_, rfl⟩
  obtain ⟨B, hB⟩ : ∃ B : Array Value, B = #[.int .i64 b.kind, .int .i64 b.fr, .int .i64 b.to, .int .i64 b.ep, .slice pix Nx cix, .slice ppx Mx cpx, .int .i64 b.pol.ep, .slice q1x n1x c1x, .slice q2x n2x c2x, .slice q3x n3x c3x, .slice q4x n4x c4x, .slice q5x n5x c5x, .int .i64 b.pol.dp, .int .i64 b.pol.nd, .int .i64 b.pol.bt] := ⟨_, rfl⟩
  obtain ⟨w1, hw1⟩ : ∃ w1, w1 = (w.alloc (.cells A 35)).alloc (.cells B 35) := ⟨_, rfl⟩
  have HN1 : Hid (BoxM w A B w1) := hide (by rw [hw1]; exact BoxM.new w A B)
  have SA : Hid (∀ wx, BoxM w A B wx → wx.cell? ⟨w.heap.size, 0, none⟩ = some (.int .i64 a.kind) ∧ wx.cell? ⟨w.heap.size, 1, none⟩ = some (.int .i64 a.fr) ∧ wx.cell? ⟨w.heap.size, 2, none⟩ = some (.int .i64 a.to) ∧ wx.cell? ⟨w.heap.size, 3, none⟩ = some (.int .i64 a.ep) ∧ wx.cell? ⟨w.heap.size, 4, none⟩ = some (.slice pi N ci) ∧ wx.cell? ⟨w.heap.size, 5, none⟩ = some (.slice pp M cp) ∧ wx.cell? ⟨w.heap.size, 6, none⟩ = some (.int .i64 a.pol.ep) ∧ wx.cell? ⟨w.heap.size, 7, none⟩ = some (.slice q1 n1 c1) ∧ wx.cell? ⟨w.heap.size, 8, none⟩ = some (.slice q2 n2 c2) ∧ wx.cell? ⟨w.heap.size, 9, none⟩ = some (.slice q3 n3 c3) ∧ wx.cell? ⟨w.heap.size, 10, none⟩ = some (.slice q4 n4 c4) ∧ wx.cell? ⟨w.heap.size, 11, none⟩ = some (.slice q5 n5 c5) ∧ wx.cell? ⟨w.heap.size, 12, none⟩ = some (.int .i64 a.pol.dp) ∧ wx.cell? ⟨w.heap.size, 13, none⟩ = some (.int .i64 a.pol.nd) ∧ wx.cell? ⟨w.heap.size, 14, none⟩ = some (.int .i64 a.pol.bt)) := hide (fun wx h => by
    subst hA
    exact ⟨h.a 0 _ rfl, h.a 1 _ rfl, h.a 2 _ rfl, h.a 3 _ rfl, h.a 4 _ rfl, h.a 5 _ rfl, h.a 6 _ rfl, h.a 7 _ rfl, h.a 8 _ rfl, h.a 9 _ rfl, h.a 10 _ rfl, h.a 11 _ rfl, h.a 12 _ rfl, h.a 13 _ rfl, h.a 14 _ rfl⟩)
  have SB : Hid (∀ wx, BoxM w A B wx → wx.cell? ⟨w.heap.size + 1, 0, none⟩ = some (.int .i64 b.kind) ∧ wx.cell? ⟨w.heap.size + 1, 1, none⟩ = some (.int .i64 b.fr) ∧ wx.cell? ⟨w.heap.size + 1, 2, none⟩ = some (.int .i64 b.to) ∧ wx.cell? ⟨w.heap.size + 1, 3, none⟩ = some (.int .i64 b.ep) ∧ wx.cell? ⟨w.heap.size + 1, 4, none⟩ = some (.slice pix Nx cix) ∧ wx.cell? ⟨w.heap.size + 1, 5, none⟩ = some (.slice ppx Mx cpx) ∧ wx.cell? ⟨w.heap.size + 1, 6, none⟩ = some (.int .i64 b.pol.ep) ∧ wx.cell? ⟨w.heap.size + 1, 7, none⟩ = some (.slice q1x n1x c1x) ∧ wx.cell? ⟨w.heap.size + 1, 8, none⟩ = some (.slice q2x n2x c2x) ∧ wx.cell? ⟨w.heap.size + 1, 9, none⟩ = some (.slice q3x n3x c3x) ∧ wx.cell? ⟨w.heap.size + 1, 10, none⟩ = some (.slice q4x n4x c4x) ∧ wx.cell? ⟨w.heap.size + 1, 11, none⟩ = some (.slice q5x n5x c5x) ∧ wx.cell? ⟨w.heap.size + 1, 12, none⟩ = some (.int .i64 b.pol.dp) ∧ wx.cell? ⟨w.heap.size + 1, 13, none⟩ = some (.int .i64 b.pol.nd) ∧ wx.cell? ⟨w.heap.size + 1, 14, none⟩ = some (.int .i64 b.pol.bt)) := hide (fun wx h => by
    subst hB
    exact ⟨h.b 0 _ rfl, h.b 1 _ rfl, h.b 2 _ rfl, h.b 3 _ rfl, h.b 4 _ rfl, h.b 5 _ rfl, h.b 6 _ rfl, h.b 7 _ rfl, h.b 8 _ rfl, h.b 9 _ rfl, h.b 10 _ rfl, h.b 11 _ rfl, h.b 12 _ rfl, h.b 13 _ rfl, h.b 14 _ rfl⟩)
  rw [hA, hB] at hw1
  clear hA hB
  obtain ⟨HH, hHH⟩ : ∃ x, x = (a.kind = b.kind ∧ a.fr = b.fr ∧ a.to = b.to ∧ a.ep = b.ep ∧ N = Nx ∧ M = Mx ∧ sameP a.pol b.pol = true) := ⟨_, rfl⟩
  rw [← hHH] at HAB
  have HHH := hide hHH
  clear hHH
  obtain ⟨sp, hsp⟩ : ∃ x, x = sameP a.pol b.pol := ⟨_, rfl⟩
  rw [← hsp] at HHH CS
  clear hsp
  go_enter Tryz.func15, Tryz.ntmps15
  go_upto_region 1 with fail
  rw [← hw1]
  clear hw1
  go_cut [58] from 7 (fun v58 wx => (∃ t : Bool, v58 = .bool t ∧ (t = false ↔ HH)) ∧ BoxM w A B wx)
  case first =>
    obtain ⟨y0, y1, y2, y3, y4, y5, y6, y7, y8, y9, y10, y11, y12, y13, y14⟩ := SA.out w1 HN1.out
    obtain ⟨z0, z1, z2, z3, z4, z5, z6, z7, z8, z9, z10, z11, z12, z13, z14⟩ := SB.out w1 HN1.out
    by_cases g0 : a.kind = b.kind
    rotate_left
    · have d0 : (a.kind != b.kind) = true := by exact bne_iff_ne.2 g0
      have HF : Hid (¬ HH) := hide (fun h => g0 (by rw [HHH.out] at h; exact h.1))
      clear g0
      go_wp2_with fail
      go_meet
      exact ⟨⟨true, rfl, ⟨fun h => (by cases h), fun h => absurd h HF.out⟩⟩, HN1.out⟩
    have d0 : (a.kind != b.kind) = false := by rw [g0]; exact bne_self_eq_false _
    by_cases g1 : a.fr = b.fr
    rotate_left
    · have d1 : (a.fr != b.fr) = true := by exact bne_iff_ne.2 g1
      have HF : Hid (¬ HH) := hide (fun h => g1 (by rw [HHH.out] at h; exact h.2.1))
      clear g0 g1
      go_wp2_with fail
      go_meet
      exact ⟨⟨true, rfl, ⟨fun h => (by cases h), fun h => absurd h HF.out⟩⟩, HN1.out⟩
    have d1 : (a.fr != b.fr) = false := by rw [g1]; exact bne_self_eq_false _
    by_cases g2 : a.to = b.to
    rotate_left
    · have d2 : (a.to != b.to) = true := by exact bne_iff_ne.2 g2
      have HF : Hid (¬ HH) := hide (fun h => g2 (by rw [HHH.out] at h; exact h.2.2.1))
      clear g0 g1 g2
      go_wp2_with fail
      go_meet
      exact ⟨⟨true, rfl, ⟨fun h => (by cases h), fun h => absurd h HF.out⟩⟩, HN1.out⟩
    have d2 : (a.to != b.to) = false := by rw [g2]; exact bne_self_eq_false _
    by_cases g3 : a.ep = b.ep
    rotate_left
    · have d3 : (a.ep != b.ep) = true := by exact bne_iff_ne.2 g3
      have HF : Hid (¬ HH) := hide (fun h => g3 (by rw [HHH.out] at h; exact h.2.2.2.1))
      clear g0 g1 g2 g3
      go_wp2_with fail
      go_meet
      exact ⟨⟨true, rfl, ⟨fun h => (by cases h), fun h => absurd h HF.out⟩⟩, HN1.out⟩
    have d3 : (a.ep != b.ep) = false := by rw [g3]; exact bne_self_eq_false _
    by_cases g4 : N = Nx
    rotate_left
    · have d4 : ((N : Int) != (Nx : Int)) = true := by simp only [bne_iff_ne, ne_eq]; omega
      have HF : Hid (¬ HH) := hide (fun h => g4 (by rw [HHH.out] at h; exact h.2.2.2.2.1))
      clear g0 g1 g2 g3 g4
      go_wp2_with fail
      go_meet
      exact ⟨⟨true, rfl, ⟨fun h => (by cases h), fun h => absurd h HF.out⟩⟩, HN1.out⟩
    have d4 : ((N : Int) != (Nx : Int)) = false := by rw [g4]; exact bne_self_eq_false _
    by_cases g5 : M = Mx
    rotate_left
    · have d5 : ((M : Int) != (Mx : Int)) = true := by simp only [bne_iff_ne, ne_eq]; omega
      have HF : Hid (¬ HH) := hide (fun h => g5 (by rw [HHH.out] at h; exact h.2.2.2.2.2.1))
      clear g0 g1 g2 g3 g4 g5
      go_wp2_with fail
      go_meet
      exact ⟨⟨true, rfl, ⟨fun h => (by cases h), fun h => absurd h HF.out⟩⟩, HN1.out⟩
    have d5 : ((M : Int) != (Mx : Int)) = false := by rw [g5]; exact bne_self_eq_false _
    have HT : Hid ((!sp) = false ↔ HH) := hide (by
      rw [HHH.out]
      constructor
      · intro h
        exact ⟨g0, g1, g2, g3, g4, g5, by simpa using h⟩
      · intro h
        simpa using h.2.2.2.2.2.2)
    clear g0 g1 g2 g3 g4 g5
    go_wp2_with fail
    refine (CS.out w1 HN1.out.2.2).mono ?_
    rintro e w2 ⟨rfl, hb2⟩
    have HN2 := hide (HN1.out.keep hb2)
    clear hb2 CS HN1 y0 y1 y2 y3 y4 y5 y6 y7 y8 y9 y10 y11 y12 y13 y14 z0 z1 z2 z3 z4 z5 z6 z7 z8 z9 z10 z11 z12 z13 z14
    cases sp with
    | false =>
      go_wp2_with fail
      go_meet
      exact ⟨⟨true, rfl, HT.out⟩, HN2.out⟩
    | true =>
      go_wp2_with fail
      go_meet
      exact ⟨⟨false, rfl, HT.out⟩, HN2.out⟩
  case rest =>
  obtain ⟨⟨t, rfl, ht⟩, hbx⟩ := hcut
  have HN2 := hide hbx
  clear hbx HN1 CS
  cases htt : t with
  | true =>
    have HF : Hid (¬ AB) := hide (fun h => by
      have h1 := ht.2 (HAB.out.1 h).1
      rw [htt] at h1
      cases h1)
    subst htt
    clear ht
    go_wp2_with fail
    go_ret
    exact ⟨boolOf_false HF.out, HN2.out.2.2⟩
  | false =>
  have HHT := hide (ht.1 htt)
  subst htt
  clear ht
  have HNM : Hid (N = Nx ∧ M = Mx) := hide (by
    have h := HHT.out
    rw [HHH.out] at h
    exact ⟨h.2.2.2.2.1, h.2.2.2.2.2.1⟩)
  go_wp2_with fail
  go_loopg [5] N (fun g v wr => ∃ i : Nat, i + g = N ∧ v = .int .i64 (i : Int) ∧ Hid (BoxM w A B wr) ∧ Hid (∀ (j : Nat) (x y : ByteArray), j < i → ids1[j]? = some x → ids2[j]? = some y → x = y))
  case atStart => exact ⟨0, by omega, rfl, HN2, hide (fun j x y h => by omega)⟩
  case round =>
    obtain ⟨i, hig, rfl, HB, HK⟩ := hrel
    obtain ⟨-, -, -, -, y4, y5, -⟩ := SA.out wr HB.out
    obtain ⟨-, -, -, -, z4, z5, -⟩ := SB.out wr HB.out
    by_cases hlt : i < N
    · have dlt : decide ((i : Int) < (N : Int)) = true := decide_eq_true (by omega)
      have hltx : i < Nx := by have := HNM.out; omega
      have dlt2 : decide (i < N) = true := decide_eq_true hlt
      obtain ⟨x, hx⟩ : ∃ x, ids1[i]? = some x := ⟨_, List.getElem?_eq_getElem (by rw [← HNN.out.1]; exact hlt)⟩
      obtain ⟨y, hy⟩ : ∃ y, ids2[i]? = some y := ⟨_, List.getElem?_eq_getElem (by rw [← HNN.out.2.1]; exact hltx)⟩
      obtain ⟨b1, o1, rfl, x1⟩ : ∃ b off, pi = some ⟨b, off, none⟩ ∧ wr.cell? ⟨b, off + i, none⟩ = some (.string x) := by
        obtain ⟨p', cap', e, -, hc⟩ := HI1.out.below HB.out.2.2
        injection e with e1 e2 e3
        obtain ⟨b, off, e4, h⟩ := hc i x hx
        exact ⟨b, off, e1.trans e4, h⟩
      obtain ⟨b2, o2, rfl, x2⟩ : ∃ b off, pix = some ⟨b, off, none⟩ ∧ wr.cell? ⟨b, off + i, none⟩ = some (.string y) := by
        obtain ⟨p', cap', e, -, hc⟩ := HI2.out.below HB.out.2.2
        injection e with e1 e2 e3
        obtain ⟨b, off, e4, h⟩ := hc i y hy
        exact ⟨b, off, e1.trans e4, h⟩
      by_cases hxy : bl x = bl y
      · have exy := beq_same hxy
        have exy2 : (x.toList != y.toList) = false := by rw [bne, exy]; rfl
        have HK2 : Hid (∀ (j : Nat) (x y : ByteArray), j < i + 1 → ids1[j]? = some x → ids2[j]? = some y → x = y) := hide (fun j x' y' hj h1 h2 => by
          by_cases e : j = i
          · subst e
            rw [hx] at h1
            rw [hy] at h2
            rw [← Option.some.inj h1, ← Option.some.inj h2]
            exact ba_ext hxy
          · exact HK.out j x' y' (by omega) h1 h2)
        clear hx hy hxy HK
        go_wp2_with fail
        go_quiet (fail)
        go_wp2_with fail
        go_roundg (N - (i + 1))
        case measure => omega
        case rel => exact ⟨i + 1, by omega, by first | rfl | simp, hide (HB.out.keep (bel_drewN wr nq)), HK2⟩
      · have exy := beq_ne hxy
        have exy2 : (x.toList != y.toList) = true := by rw [bne, exy]; rfl
        have HF : Hid (¬ AB) := hide (fun h => hxy (by rw [(HAB.out.1 h).2.1 i x y hx hy]))
        clear hx hy hxy HK
        go_wp2_with fail
        go_quiet (fail)
        go_wp2_with fail
        go_ret
        exact ⟨boolOf_false HF.out, (HB.out.keep (bel_drewN wr nq)).2.2⟩
    · have dlt : decide ((i : Int) < (N : Int)) = false := decide_eq_false (by omega)
      have dlt2 : decide (i < N) = false := decide_eq_false hlt
      have HID : Hid (∀ (j : Nat) (x y : ByteArray), ids1[j]? = some x → ids2[j]? = some y → x = y) := hide (fun j x y h1 h2 => HK.out j x y (by have := (List.getElem?_eq_some_iff.1 h1).1; rw [← HNN.out.1] at this; omega) h1 h2)
      have HBX := hide HB.out
      obtain ⟨G0, hG0⟩ : ∃ G0, G0 = gk := ⟨_, rfl⟩
      clear hG0
      obtain ⟨wo, hwo⟩ : ∃ wo, wo = wr := ⟨_, rfl⟩
      subst hwo
      clear HK hlt hig
      go_wp2_with fail
      generalize decide (i < N) = bi at *
      generalize decide ((i : Int) < (N : Int)) = bi2 at *
      go_loopg [6] M (fun g v wr => ∃ i : Nat, i + g = M ∧ v = .int .i64 (i : Int) ∧ Hid (BoxM w A B wr) ∧ Hid (∀ (j : Nat) (x y : ByteArray × ByteArray), j < i → ts1[j]? = some x → ts2[j]? = some y → x = y))
      case atStart => exact ⟨0, by omega, rfl, HBX, hide (fun j x y h => by omega)⟩
      case round =>
        obtain ⟨i2, hig, rfl, HB2, HK⟩ := hrel
        obtain ⟨-, -, -, -, w4, w5, -⟩ := SA.out wr HB2.out
        obtain ⟨-, -, -, -, t4, t5, -⟩ := SB.out wr HB2.out
        by_cases hlt : i2 < M
        · have elt : decide ((i2 : Int) < (M : Int)) = true := decide_eq_true (by omega)
          have elt2 : decide (i2 < M) = true := decide_eq_true hlt
          have hltx : i2 < Mx := by have := HNM.out; omega
          obtain ⟨x, hx⟩ : ∃ x, ts1[i2]? = some x := ⟨_, List.getElem?_eq_getElem (by rw [← HNN.out.2.2.1]; exact hlt)⟩
          obtain ⟨y, hy⟩ : ∃ y, ts2[i2]? = some y := ⟨_, List.getElem?_eq_getElem (by rw [← HNN.out.2.2.2]; exact hltx)⟩
          obtain ⟨xa, xb⟩ := x
          obtain ⟨ya, yb⟩ := y
          obtain ⟨b1, o1, rfl, x1, x1'⟩ : ∃ b off, pp = some ⟨b, off, none⟩ ∧ wr.cell? ⟨b, off + i2 * 2, none⟩ = some (.string xa) ∧ wr.cell? ⟨b, off + i2 * 2 + 1, none⟩ = some (.string xb) := by
            obtain ⟨p', cap', e, -, -, hc⟩ := HP1.out.below HB2.out.2.2
            injection e with e1 e2 e3
            obtain ⟨b, off, e4, h, h'⟩ := hc i2 xa xb hx
            exact ⟨b, off, e1.trans e4, h, h'⟩
          obtain ⟨b2, o2, rfl, x2, x2'⟩ : ∃ b off, ppx = some ⟨b, off, none⟩ ∧ wr.cell? ⟨b, off + i2 * 2, none⟩ = some (.string ya) ∧ wr.cell? ⟨b, off + i2 * 2 + 1, none⟩ = some (.string yb) := by
            obtain ⟨p', cap', e, -, -, hc⟩ := HP2.out.below HB2.out.2.2
            injection e with e1 e2 e3
            obtain ⟨b, off, e4, h, h'⟩ := hc i2 ya yb hy
            exact ⟨b, off, e1.trans e4, h, h'⟩
          by_cases hxa : bl xa = bl ya
          · have exa := beq_same hxa
            by_cases hxb : bl xb = bl yb
            · have exb := beq_same hxb
              have HK2 : Hid (∀ (j : Nat) (x y : ByteArray × ByteArray), j < i2 + 1 → ts1[j]? = some x → ts2[j]? = some y → x = y) := hide (fun j x' y' hj h1 h2 => by
                by_cases e : j = i2
                · subst e
                  rw [hx] at h1
                  rw [hy] at h2
                  rw [← Option.some.inj h1, ← Option.some.inj h2, ba_ext hxa, ba_ext hxb]
                · exact HK.out j x' y' (by omega) h1 h2)
              clear hx hy hxa hxb HK
              go_wp2_with fail
              go_quiet (fail)
              go_wp2_with fail
              go_roundg (M - (i2 + 1))
              case measure => omega
              case rel => exact ⟨i2 + 1, by omega, by first | rfl | simp, hide (HB2.out.keep (bel_drewN wr nq)), HK2⟩
            · have exb := beq_ne hxb
              have HF : Hid (¬ AB) := hide (fun h => hxb (by have h3 := (HAB.out.1 h).2.2 i2 _ _ hx hy; injection h3 with _ h4; rw [h4]))
              clear hx hy hxa hxb HK
              go_wp2_with fail
              go_quiet (fail)
              go_wp2_with fail
              go_ret
              exact ⟨boolOf_false HF.out, (HB2.out.keep (bel_drewN wr nq)).2.2⟩
          · have exa := beq_ne hxa
            have HF : Hid (¬ AB) := hide (fun h => hxa (by have h3 := (HAB.out.1 h).2.2 i2 _ _ hx hy; injection h3 with h4 _; rw [h4]))
            clear hx hy hxa HK
            go_wp2_with fail
            go_quiet (fail)
            go_wp2_with fail
            go_ret
            exact ⟨boolOf_false HF.out, (HB2.out.keep (bel_drewN wr nq)).2.2⟩
        · have elt : decide ((i2 : Int) < (M : Int)) = false := decide_eq_false (by omega)
          have elt2 : decide (i2 < M) = false := decide_eq_false hlt
          have HT : Hid AB := hide (HAB.out.2 ⟨HHT.out, HID.out, fun j x y h1 h2 => HK.out j x y (by have := (List.getElem?_eq_some_iff.1 h1).1; rw [← HNN.out.2.2.1] at this; omega) h1 h2⟩)
          clear HK hlt hig
          go_wp2_with fail
          go_ret
          exact ⟨boolOf_true HT.out, HB2.out.2.2⟩
end Go.Proofs.YtmogplecohkjcaaGreatDoor
