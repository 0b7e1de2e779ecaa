/-
  The program's own Stricter.
-/
import Derived.Test.YtbcadeikdmlpoaaGreatDoorR7
import Derived.Laws.EntriesVeiled
import Derived.Test.YtbcadeikdmlpoaaGreatDoorQ10
import Derived.Test.YtbcadeikdmlpoaaGreatDoorPD
namespace Go.Proofs.YtbcadeikdmlpoaaGreatDoor
open Go.RowKit
open Utf1 Pol8

/-- Two policies' blocks, and the variable that holds the closure over the second one's attributes. -/
def BoxS (w : World) (A B : Array Value) (N B0 : Nat) (l : List L) (wx : World) : Prop := BoxQ w A B wx ∧ wx.heap[N]? = some (.cells #[inV B0] 48 (0, 0)) ∧ InQ B0 l wx
theorem BoxS.keep {w wx wy : World} {A B : Array Value} {N B0 : Nat} {l : List L} (h : BoxS w A B N B0 l wx) (hb : Below wx.heap.size wx wy) : BoxS w A B N B0 l wy :=
  ⟨h.1.keep hb, (hb.block _ (Array.getElem?_eq_some_iff.1 h.2.1).1).trans h.2.1, h.2.2.later hb⟩
def capLe (a6 a7 a8 b6 b7 b8 : Int) : Bool := decide (a6 ≤ b6 ∧ a7 ≤ b7 ∧ a8 ≤ b8)
theorem capLe_is (a6 a7 a8 b6 b7 b8 : Int) : capLe a6 a7 a8 b6 b7 b8 = ((a6 == min a6 b6) && ((a7 == min a7 b7) && (a8 == min a8 b8))) := by
  unfold capLe
  apply Bool.eq_iff_iff.2
  simp only [decide_eq_true_eq, Bool.and_eq_true, beq_iff_eq]
  omega
def allF (f : L → Bool) (l : List L) : Bool := l.all f
theorem strict_prog (p q : Pol) : stricter p q = (allF (inL q.el) p.el && (allF (stF q.at_) p.at_ && (allF (inL q.sc) p.sc && (allF (inL q.cl) p.cl && (allF (inL q.pr) p.pr && capLe p.dp p.nd p.bt q.dp q.nd q.bt))))) := by
  apply Bool.eq_iff_iff.2
  unfold stricter sub allF stF inL capLe
  simp only [Bool.and_eq_true, decide_eq_true_eq, List.all_eq_true, Bool.or_eq_true]
  constructor
  · rintro ⟨h1, h2, h3⟩
    exact ⟨h2, h1, h3⟩
  · rintro ⟨h2, h1, h3⟩
    exact ⟨h1, h2, h3⟩

set_option maxRecDepth 100000 in
set_option maxHeartbeats 64000000 in
theorem pstrict_any : StricterC := by
  intro v1 v2 v3 v4 v5 u1 u2 u3 u4 u5 p q l1 l2 l3 l4 l5 m1 m2 m3 m4 m5 w hv hu hf hg
  obtain ⟨f1, z1⟩ := fits_of hf (by simp) hv.e1
  obtain ⟨g1, -⟩ := fits_of hg (by simp) hu.e1
  obtain ⟨f2, z2⟩ := fits_of hf (by simp) hv.e2
  obtain ⟨g2, -⟩ := fits_of hg (by simp) hu.e2
  obtain ⟨f3, z3⟩ := fits_of hf (by simp) hv.e3
  obtain ⟨g3, -⟩ := fits_of hg (by simp) hu.e3
  obtain ⟨f4, z4⟩ := fits_of hf (by simp) hv.e4
  obtain ⟨g4, -⟩ := fits_of hg (by simp) hu.e4
  obtain ⟨f5, z5⟩ := fits_of hf (by simp) hv.e5
  obtain ⟨g5, -⟩ := fits_of hg (by simp) hu.e5
  obtain ⟨R, hR⟩ : ∃ R, R = stricter p q := ⟨_, rfl⟩
  rw [← hR]
  have HAL : Hid (R = (allF (inL (m1.map bl)) (l1.map bl) && (allF (stF (m2.map bl)) (l2.map bl) && (allF (inL (m3.map bl)) (l3.map bl) && (allF (inL (m4.map bl)) (l4.map bl) && (allF (inL (m5.map bl)) (l5.map bl) && ((p.dp == min p.dp q.dp) && ((p.nd == min p.nd q.nd) && (p.bt == min p.bt q.bt))))))))) := hide (by
    rw [← capLe_is, hv.e1, hv.e2, hv.e3, hv.e4, hv.e5, hu.e1, hu.e2, hu.e3, hu.e4, hu.e5, hR]
    exact strict_prog p q)
  show Calls Tryz.prog 11 #[pvalL p.ep v1 v2 v3 v4 v5 p.dp p.nd p.bt, pvalL q.ep u1 u2 u3 u4 u5 q.dp q.nd q.bt] w _
  generalize p.ep = a0
  generalize p.dp = a6 at HAL ⊢
  generalize p.nd = a7 at HAL ⊢
  generalize p.bt = a8 at HAL ⊢
  generalize q.ep = b0
  generalize q.dp = b6 at HAL ⊢
  generalize q.nd = b7 at HAL ⊢
  generalize q.bt = b8 at HAL ⊢
  obtain ⟨w1, hw1⟩ : ∃ w1, w1 = (w.alloc (.cells #[.int .i64 a0, v1, v2, v3, v4, v5, .int .i64 a6, .int .i64 a7, .int .i64 a8] 24)).alloc (.cells #[.int .i64 b0, u1, u2, u3, u4, u5, .int .i64 b6, .int .i64 b7, .int .i64 b8] 24) := ⟨_, rfl⟩
  have HN : Hid (BoxQ w #[.int .i64 a0, v1, v2, v3, v4, v5, .int .i64 a6, .int .i64 a7, .int .i64 a8] #[.int .i64 b0, u1, u2, u3, u4, u5, .int .i64 b6, .int .i64 b7, .int .i64 b8] w1) := hide (by rw [hw1]; exact BoxQ.new w _ _)
  have CO := hide (poneOf_any u2 m2 g2 w1 (hu.s2.below HN.out.2.2))
  have hmf : ∀ (fn : Fn) (first cap : Array Value) (w : World), (Instr.makeFunc fn first cap).run Tryz.prog w = .ok (.func fn first cap) w := fun _ _ _ _ => rfl
  have y2 : w1.cell? ⟨w.heap.size + 1, 2, none⟩ = some u2 := HN.out.b 2 _ rfl
  go_enter Tryz.func11, Tryz.ntmps11
  go_upto_region 1 with fail
  rw [← hw1]
  clear hw1
  go_wp2_with fail
  refine CO.out.mono ?_
  rintro e w2 ⟨⟨B0, rfl, hq⟩, hb2⟩
  obtain ⟨N, hN⟩ : ∃ N, N = w2.heap.size := ⟨_, rfl⟩
  obtain ⟨w3, hw3⟩ : ∃ w3, w3 = w2.alloc (.cells #[inV B0] 48) := ⟨_, rfl⟩
  have hb3 : Below w2.heap.size w2 w3 := by rw [hw3]; exact bel_alloc (Below.refl _ _) _
  have HS : Hid (BoxS w #[.int .i64 a0, v1, v2, v3, v4, v5, .int .i64 a6, .int .i64 a7, .int .i64 a8] #[.int .i64 b0, u1, u2, u3, u4, u5, .int .i64 b6, .int .i64 b7, .int .i64 b8] N B0 (m2.map bl) w3) := hide ⟨HN.out.keep (bel2 hb2 hb3), by rw [hw3, hN]; exact new_block _ _ _, hq.later hb3⟩
  have HW := hide hw3
  clear hq hb2 hb3 y2 CO HN
  go_upto_region 3 with fail
  rw [← hN, ← HW.out]
  clear HW hw3 hN hmf
  have SK : Hid (∀ wx, BoxS w #[.int .i64 a0, v1, v2, v3, v4, v5, .int .i64 a6, .int .i64 a7, .int .i64 a8] #[.int .i64 b0, u1, u2, u3, u4, u5, .int .i64 b6, .int .i64 b7, .int .i64 b8] N B0 (m2.map bl) wx → wx.cell? ⟨w.heap.size, 0, none⟩ = some (.int .i64 a0) ∧ wx.cell? ⟨w.heap.size, 1, none⟩ = some v1 ∧ wx.cell? ⟨w.heap.size, 2, none⟩ = some v2 ∧ wx.cell? ⟨w.heap.size, 3, none⟩ = some v3 ∧ wx.cell? ⟨w.heap.size, 4, none⟩ = some v4 ∧ wx.cell? ⟨w.heap.size, 5, none⟩ = some v5 ∧ wx.cell? ⟨w.heap.size, 6, none⟩ = some (.int .i64 a6) ∧ wx.cell? ⟨w.heap.size, 7, none⟩ = some (.int .i64 a7) ∧ wx.cell? ⟨w.heap.size, 8, none⟩ = some (.int .i64 a8) ∧ wx.cell? ⟨w.heap.size + 1, 0, none⟩ = some (.int .i64 b0) ∧ wx.cell? ⟨w.heap.size + 1, 1, none⟩ = some u1 ∧ wx.cell? ⟨w.heap.size + 1, 2, none⟩ = some u2 ∧ wx.cell? ⟨w.heap.size + 1, 3, none⟩ = some u3 ∧ wx.cell? ⟨w.heap.size + 1, 4, none⟩ = some u4 ∧ wx.cell? ⟨w.heap.size + 1, 5, none⟩ = some u5 ∧ wx.cell? ⟨w.heap.size + 1, 6, none⟩ = some (.int .i64 b6) ∧ wx.cell? ⟨w.heap.size + 1, 7, none⟩ = some (.int .i64 b7) ∧ wx.cell? ⟨w.heap.size + 1, 8, none⟩ = some (.int .i64 b8) ∧ Hid (BoxS w #[.int .i64 a0, v1, v2, v3, v4, v5, .int .i64 a6, .int .i64 a7, .int .i64 a8] #[.int .i64 b0, u1, u2, u3, u4, u5, .int .i64 b6, .int .i64 b7, .int .i64 b8] N B0 (m2.map bl) wx)) := hide (fun wx h => ⟨h.1.a 0 _ rfl, h.1.a 1 _ rfl, h.1.a 2 _ rfl, h.1.a 3 _ rfl, h.1.a 4 _ rfl, h.1.a 5 _ rfl, h.1.a 6 _ rfl, h.1.a 7 _ rfl, h.1.a 8 _ rfl, h.1.b 0 _ rfl, h.1.b 1 _ rfl, h.1.b 2 _ rfl, h.1.b 3 _ rfl, h.1.b 4 _ rfl, h.1.b 5 _ rfl, h.1.b 6 _ rfl, h.1.b 7 _ rfl, h.1.b 8 _ rfl, hide h⟩)
  have SB : Hid (∀ wx, (wx.cell? ⟨w.heap.size, 0, none⟩ = some (.int .i64 a0) ∧ wx.cell? ⟨w.heap.size, 1, none⟩ = some v1 ∧ wx.cell? ⟨w.heap.size, 2, none⟩ = some v2 ∧ wx.cell? ⟨w.heap.size, 3, none⟩ = some v3 ∧ wx.cell? ⟨w.heap.size, 4, none⟩ = some v4 ∧ wx.cell? ⟨w.heap.size, 5, none⟩ = some v5 ∧ wx.cell? ⟨w.heap.size, 6, none⟩ = some (.int .i64 a6) ∧ wx.cell? ⟨w.heap.size, 7, none⟩ = some (.int .i64 a7) ∧ wx.cell? ⟨w.heap.size, 8, none⟩ = some (.int .i64 a8) ∧ wx.cell? ⟨w.heap.size + 1, 0, none⟩ = some (.int .i64 b0) ∧ wx.cell? ⟨w.heap.size + 1, 1, none⟩ = some u1 ∧ wx.cell? ⟨w.heap.size + 1, 2, none⟩ = some u2 ∧ wx.cell? ⟨w.heap.size + 1, 3, none⟩ = some u3 ∧ wx.cell? ⟨w.heap.size + 1, 4, none⟩ = some u4 ∧ wx.cell? ⟨w.heap.size + 1, 5, none⟩ = some u5 ∧ wx.cell? ⟨w.heap.size + 1, 6, none⟩ = some (.int .i64 b6) ∧ wx.cell? ⟨w.heap.size + 1, 7, none⟩ = some (.int .i64 b7) ∧ wx.cell? ⟨w.heap.size + 1, 8, none⟩ = some (.int .i64 b8) ∧ Hid (BoxS w #[.int .i64 a0, v1, v2, v3, v4, v5, .int .i64 a6, .int .i64 a7, .int .i64 a8] #[.int .i64 b0, u1, u2, u3, u4, u5, .int .i64 b6, .int .i64 b7, .int .i64 b8] N B0 (m2.map bl) wx)) → BoxS w #[.int .i64 a0, v1, v2, v3, v4, v5, .int .i64 a6, .int .i64 a7, .int .i64 a8] #[.int .i64 b0, u1, u2, u3, u4, u5, .int .i64 b6, .int .i64 b7, .int .i64 b8] N B0 (m2.map bl) wx) := hide (fun wx h => h.2.2.2.2.2.2.2.2.2.2.2.2.2.2.2.2.2.2.out)
  have O1 : Hid (∀ wx, BoxS w #[.int .i64 a0, v1, v2, v3, v4, v5, .int .i64 a6, .int .i64 a7, .int .i64 a8] #[.int .i64 b0, u1, u2, u3, u4, u5, .int .i64 b6, .int .i64 b7, .int .i64 b8] N B0 (m2.map bl) wx → Calls Tryz.prog 33 #[u1] wx fun e w' => ∃ B, e = .returned (inV B) ∧ Hid (InQ B (m1.map bl) w') ∧ BoxS w #[.int .i64 a0, v1, v2, v3, v4, v5, .int .i64 a6, .int .i64 a7, .int .i64 a8] #[.int .i64 b0, u1, u2, u3, u4, u5, .int .i64 b6, .int .i64 b7, .int .i64 b8] N B0 (m2.map bl) w') := hide (fun wx h => (poneOf_any u1 m1 g1 wx (hu.s1.below h.1.2.2)).mono fun e w' ⟨⟨B, h1, h2⟩, h3⟩ => ⟨B, h1, hide h2, h.keep h3⟩)
  have E1 : Hid (∀ B wx, BoxS w #[.int .i64 a0, v1, v2, v3, v4, v5, .int .i64 a6, .int .i64 a7, .int .i64 a8] #[.int .i64 b0, u1, u2, u3, u4, u5, .int .i64 b6, .int .i64 b7, .int .i64 b8] N B0 (m2.map bl) wx → Hid (InQ B (m1.map bl) wx) → Calls Tryz.prog 36 #[v1, inV B] wx fun e w' => e = .returned (.bool (allF (inL (m1.map bl)) (l1.map bl))) ∧ BoxS w #[.int .i64 a0, v1, v2, v3, v4, v5, .int .i64 a6, .int .i64 a7, .int .i64 a8] #[.int .i64 b0, u1, u2, u3, u4, u5, .int .i64 b6, .int .i64 b7, .int .i64 b8] N B0 (m2.map bl) w') := hide (fun B wx h hq => (peach_any _ _ ent_in (inL (m1.map bl)) v1 l1 f1 z1 wx (hv.s1.below h.1.2.2) hq.out.tells).mono fun e w' ⟨h1, h2⟩ => ⟨h1, h.keep h2⟩)
  have O3 : Hid (∀ wx, BoxS w #[.int .i64 a0, v1, v2, v3, v4, v5, .int .i64 a6, .int .i64 a7, .int .i64 a8] #[.int .i64 b0, u1, u2, u3, u4, u5, .int .i64 b6, .int .i64 b7, .int .i64 b8] N B0 (m2.map bl) wx → Calls Tryz.prog 33 #[u3] wx fun e w' => ∃ B, e = .returned (inV B) ∧ Hid (InQ B (m3.map bl) w') ∧ BoxS w #[.int .i64 a0, v1, v2, v3, v4, v5, .int .i64 a6, .int .i64 a7, .int .i64 a8] #[.int .i64 b0, u1, u2, u3, u4, u5, .int .i64 b6, .int .i64 b7, .int .i64 b8] N B0 (m2.map bl) w') := hide (fun wx h => (poneOf_any u3 m3 g3 wx (hu.s3.below h.1.2.2)).mono fun e w' ⟨⟨B, h1, h2⟩, h3⟩ => ⟨B, h1, hide h2, h.keep h3⟩)
  have E3 : Hid (∀ B wx, BoxS w #[.int .i64 a0, v1, v2, v3, v4, v5, .int .i64 a6, .int .i64 a7, .int .i64 a8] #[.int .i64 b0, u1, u2, u3, u4, u5, .int .i64 b6, .int .i64 b7, .int .i64 b8] N B0 (m2.map bl) wx → Hid (InQ B (m3.map bl) wx) → Calls Tryz.prog 36 #[v3, inV B] wx fun e w' => e = .returned (.bool (allF (inL (m3.map bl)) (l3.map bl))) ∧ BoxS w #[.int .i64 a0, v1, v2, v3, v4, v5, .int .i64 a6, .int .i64 a7, .int .i64 a8] #[.int .i64 b0, u1, u2, u3, u4, u5, .int .i64 b6, .int .i64 b7, .int .i64 b8] N B0 (m2.map bl) w') := hide (fun B wx h hq => (peach_any _ _ ent_in (inL (m3.map bl)) v3 l3 f3 z3 wx (hv.s3.below h.1.2.2) hq.out.tells).mono fun e w' ⟨h1, h2⟩ => ⟨h1, h.keep h2⟩)
  have O4 : Hid (∀ wx, BoxS w #[.int .i64 a0, v1, v2, v3, v4, v5, .int .i64 a6, .int .i64 a7, .int .i64 a8] #[.int .i64 b0, u1, u2, u3, u4, u5, .int .i64 b6, .int .i64 b7, .int .i64 b8] N B0 (m2.map bl) wx → Calls Tryz.prog 33 #[u4] wx fun e w' => ∃ B, e = .returned (inV B) ∧ Hid (InQ B (m4.map bl) w') ∧ BoxS w #[.int .i64 a0, v1, v2, v3, v4, v5, .int .i64 a6, .int .i64 a7, .int .i64 a8] #[.int .i64 b0, u1, u2, u3, u4, u5, .int .i64 b6, .int .i64 b7, .int .i64 b8] N B0 (m2.map bl) w') := hide (fun wx h => (poneOf_any u4 m4 g4 wx (hu.s4.below h.1.2.2)).mono fun e w' ⟨⟨B, h1, h2⟩, h3⟩ => ⟨B, h1, hide h2, h.keep h3⟩)
  have E4 : Hid (∀ B wx, BoxS w #[.int .i64 a0, v1, v2, v3, v4, v5, .int .i64 a6, .int .i64 a7, .int .i64 a8] #[.int .i64 b0, u1, u2, u3, u4, u5, .int .i64 b6, .int .i64 b7, .int .i64 b8] N B0 (m2.map bl) wx → Hid (InQ B (m4.map bl) wx) → Calls Tryz.prog 36 #[v4, inV B] wx fun e w' => e = .returned (.bool (allF (inL (m4.map bl)) (l4.map bl))) ∧ BoxS w #[.int .i64 a0, v1, v2, v3, v4, v5, .int .i64 a6, .int .i64 a7, .int .i64 a8] #[.int .i64 b0, u1, u2, u3, u4, u5, .int .i64 b6, .int .i64 b7, .int .i64 b8] N B0 (m2.map bl) w') := hide (fun B wx h hq => (peach_any _ _ ent_in (inL (m4.map bl)) v4 l4 f4 z4 wx (hv.s4.below h.1.2.2) hq.out.tells).mono fun e w' ⟨h1, h2⟩ => ⟨h1, h.keep h2⟩)
  have O5 : Hid (∀ wx, BoxS w #[.int .i64 a0, v1, v2, v3, v4, v5, .int .i64 a6, .int .i64 a7, .int .i64 a8] #[.int .i64 b0, u1, u2, u3, u4, u5, .int .i64 b6, .int .i64 b7, .int .i64 b8] N B0 (m2.map bl) wx → Calls Tryz.prog 33 #[u5] wx fun e w' => ∃ B, e = .returned (inV B) ∧ Hid (InQ B (m5.map bl) w') ∧ BoxS w #[.int .i64 a0, v1, v2, v3, v4, v5, .int .i64 a6, .int .i64 a7, .int .i64 a8] #[.int .i64 b0, u1, u2, u3, u4, u5, .int .i64 b6, .int .i64 b7, .int .i64 b8] N B0 (m2.map bl) w') := hide (fun wx h => (poneOf_any u5 m5 g5 wx (hu.s5.below h.1.2.2)).mono fun e w' ⟨⟨B, h1, h2⟩, h3⟩ => ⟨B, h1, hide h2, h.keep h3⟩)
  have E5 : Hid (∀ B wx, BoxS w #[.int .i64 a0, v1, v2, v3, v4, v5, .int .i64 a6, .int .i64 a7, .int .i64 a8] #[.int .i64 b0, u1, u2, u3, u4, u5, .int .i64 b6, .int .i64 b7, .int .i64 b8] N B0 (m2.map bl) wx → Hid (InQ B (m5.map bl) wx) → Calls Tryz.prog 36 #[v5, inV B] wx fun e w' => e = .returned (.bool (allF (inL (m5.map bl)) (l5.map bl))) ∧ BoxS w #[.int .i64 a0, v1, v2, v3, v4, v5, .int .i64 a6, .int .i64 a7, .int .i64 a8] #[.int .i64 b0, u1, u2, u3, u4, u5, .int .i64 b6, .int .i64 b7, .int .i64 b8] N B0 (m2.map bl) w') := hide (fun B wx h hq => (peach_any _ _ ent_in (inL (m5.map bl)) v5 l5 f5 z5 wx (hv.s5.below h.1.2.2) hq.out.tells).mono fun e w' ⟨h1, h2⟩ => ⟨h1, h.keep h2⟩)
  have E2 : Hid (∀ wx, BoxS w #[.int .i64 a0, v1, v2, v3, v4, v5, .int .i64 a6, .int .i64 a7, .int .i64 a8] #[.int .i64 b0, u1, u2, u3, u4, u5, .int .i64 b6, .int .i64 b7, .int .i64 b8] N B0 (m2.map bl) wx → Calls Tryz.prog 36 #[v2, .func (.func 34) #[] #[.pointer (some ⟨N, 0, none⟩)]] wx fun e w' => e = .returned (.bool (allF (stF (m2.map bl)) (l2.map bl))) ∧ BoxS w #[.int .i64 a0, v1, v2, v3, v4, v5, .int .i64 a6, .int .i64 a7, .int .i64 a8] #[.int .i64 b0, u1, u2, u3, u4, u5, .int .i64 b6, .int .i64 b7, .int .i64 b8] N B0 (m2.map bl) w') := hide (fun wx h => (peach_any _ _ ent_st (stF (m2.map bl)) v2 l2 f2 z2 wx (hv.s2.below h.1.2.2) (tells_st N B0 _ wx h.2.1 h.2.2)).mono fun e w' ⟨h1, h2⟩ => ⟨h1, h.keep h2⟩)
  have K1 : Hid (∀ wx, BoxS w #[.int .i64 a0, v1, v2, v3, v4, v5, .int .i64 a6, .int .i64 a7, .int .i64 a8] #[.int .i64 b0, u1, u2, u3, u4, u5, .int .i64 b6, .int .i64 b7, .int .i64 b8] N B0 (m2.map bl) wx → Calls Tryz.prog 27 #[pvalL a0 v1 v2 v3 v4 v5 a6 a7 a8] wx fun e w' => e = .returned (capV a6 a7 a8) ∧ BoxS w #[.int .i64 a0, v1, v2, v3, v4, v5, .int .i64 a6, .int .i64 a7, .int .i64 a8] #[.int .i64 b0, u1, u2, u3, u4, u5, .int .i64 b6, .int .i64 b7, .int .i64 b8] N B0 (m2.map bl) w') := hide (fun wx h => (pcaps_any a0 v1 v2 v3 v4 v5 a6 a7 a8 wx).mono fun e w' ⟨h1, h2⟩ => ⟨h1, h.keep h2⟩)
  have K2 : Hid (∀ wx, BoxS w #[.int .i64 a0, v1, v2, v3, v4, v5, .int .i64 a6, .int .i64 a7, .int .i64 a8] #[.int .i64 b0, u1, u2, u3, u4, u5, .int .i64 b6, .int .i64 b7, .int .i64 b8] N B0 (m2.map bl) wx → Calls Tryz.prog 27 #[pvalL b0 u1 u2 u3 u4 u5 b6 b7 b8] wx fun e w' => e = .returned (capV b6 b7 b8) ∧ BoxS w #[.int .i64 a0, v1, v2, v3, v4, v5, .int .i64 a6, .int .i64 a7, .int .i64 a8] #[.int .i64 b0, u1, u2, u3, u4, u5, .int .i64 b6, .int .i64 b7, .int .i64 b8] N B0 (m2.map bl) w') := hide (fun wx h => (pcaps_any b0 u1 u2 u3 u4 u5 b6 b7 b8 wx).mono fun e w' ⟨h1, h2⟩ => ⟨h1, h.keep h2⟩)
  have K3 : Hid (∀ wx, BoxS w #[.int .i64 a0, v1, v2, v3, v4, v5, .int .i64 a6, .int .i64 a7, .int .i64 a8] #[.int .i64 b0, u1, u2, u3, u4, u5, .int .i64 b6, .int .i64 b7, .int .i64 b8] N B0 (m2.map bl) wx → Calls Tryz.prog 37 #[capV a6 a7 a8, capV b6 b7 b8] wx fun e w' => e = .returned (capV (min a6 b6) (min a7 b7) (min a8 b8)) ∧ BoxS w #[.int .i64 a0, v1, v2, v3, v4, v5, .int .i64 a6, .int .i64 a7, .int .i64 a8] #[.int .i64 b0, u1, u2, u3, u4, u5, .int .i64 b6, .int .i64 b7, .int .i64 b8] N B0 (m2.map bl) w') := hide (fun wx h => (pmost_any a6 a7 a8 b6 b7 b8 wx).mono fun e w' ⟨h1, h2⟩ => ⟨h1, h.keep h2⟩)
  clear hv hu hf hg hR f1 f2 f3 f4 f5 z1 z2 z3 z4 z5 g1 g2 g3 g4 g5
  generalize allF (inL (m1.map bl)) (l1.map bl) = t1 at E1 HAL
  generalize allF (stF (m2.map bl)) (l2.map bl) = t2 at E2 HAL
  generalize allF (inL (m3.map bl)) (l3.map bl) = t3 at E3 HAL
  generalize allF (inL (m4.map bl)) (l4.map bl) = t4 at E4 HAL
  generalize allF (inL (m5.map bl)) (l5.map bl) = t5 at E5 HAL
  generalize min a6 b6 = c6 at K3 HAL
  generalize min a7 b7 = c7 at K3 HAL
  generalize min a8 b8 = c8 at K3 HAL
  cases t1 with
  | false =>
    have HR : Hid (R = false) := hide (by rw [HAL.out]; simp)
    clear HAL
    refine wp_region_held_drew (S := (fun wx => wx.cell? ⟨w.heap.size, 0, none⟩ = some (.int .i64 a0) ∧ wx.cell? ⟨w.heap.size, 1, none⟩ = some v1 ∧ wx.cell? ⟨w.heap.size, 2, none⟩ = some v2 ∧ wx.cell? ⟨w.heap.size, 3, none⟩ = some v3 ∧ wx.cell? ⟨w.heap.size, 4, none⟩ = some v4 ∧ wx.cell? ⟨w.heap.size, 5, none⟩ = some v5 ∧ wx.cell? ⟨w.heap.size, 6, none⟩ = some (.int .i64 a6) ∧ wx.cell? ⟨w.heap.size, 7, none⟩ = some (.int .i64 a7) ∧ wx.cell? ⟨w.heap.size, 8, none⟩ = some (.int .i64 a8) ∧ wx.cell? ⟨w.heap.size + 1, 0, none⟩ = some (.int .i64 b0) ∧ wx.cell? ⟨w.heap.size + 1, 1, none⟩ = some u1 ∧ wx.cell? ⟨w.heap.size + 1, 2, none⟩ = some u2 ∧ wx.cell? ⟨w.heap.size + 1, 3, none⟩ = some u3 ∧ wx.cell? ⟨w.heap.size + 1, 4, none⟩ = some u4 ∧ wx.cell? ⟨w.heap.size + 1, 5, none⟩ = some u5 ∧ wx.cell? ⟨w.heap.size + 1, 6, none⟩ = some (.int .i64 b6) ∧ wx.cell? ⟨w.heap.size + 1, 7, none⟩ = some (.int .i64 b7) ∧ wx.cell? ⟨w.heap.size + 1, 8, none⟩ = some (.int .i64 b8) ∧ Hid (BoxS w #[.int .i64 a0, v1, v2, v3, v4, v5, .int .i64 a6, .int .i64 a7, .int .i64 a8] #[.int .i64 b0, u1, u2, u3, u4, u5, .int .i64 b6, .int .i64 b7, .int .i64 b8] N B0 (m2.map bl) wx))) (by kernel_rfl) (SK.out _ (HS.out.keep ((Below.refl _ _).drew))) (fun hHeld => ?_)
    refine wpAnyH_to (i := 0) (v := ?vb0) (a1 := ?xb0) rfl (by kernel_rfl) (by kernel_rfl) (by kernel_rfl) (fun _ _ _ h => h) (Or.inl ⟨by rfl, ?yb0⟩) (by assumption) ?hb0 ?zb0
    case yb0 => (intro w hSw; (try dsimp only at hSw); go_simp; try (with_reducible rfl))
    case hb0 => (go_simp; exact rfl)
    case zb0 =>
    refine wpAnyH_to (i := 1) (v := ?vb1) (a1 := ?xb1) rfl (by kernel_rfl) (by kernel_rfl) (by kernel_rfl) (fun _ _ _ h => h) (Or.inl ⟨by rfl, ?yb1⟩) (by assumption) ?hb1 ?zb1
    case yb1 => (intro w hSw; (try dsimp only at hSw); go_simp; try (with_reducible rfl))
    case hb1 => (go_simp; exact rfl)
    case zb1 =>
    refine wpAnyH_to (i := 2) (v := ?vb2) (a1 := ?xb2) rfl (by kernel_rfl) (by kernel_rfl) (by kernel_rfl) (fun _ _ _ h => h) (Or.inl ⟨by rfl, ?yb2⟩) (by assumption) ?hb2 ?zb2
    case yb2 => (intro w hSw; (try dsimp only at hSw); go_simp; try (with_reducible rfl))
    case hb2 => (go_simp; exact rfl)
    case zb2 =>
    refine wpAnyH_to (i := 3) (v := ?vb3) (a1 := ?xb3) rfl (by kernel_rfl) (by kernel_rfl) (by kernel_rfl) (fun _ _ _ h => h) (Or.inl ⟨by rfl, ?yb3⟩) (by assumption) ?hb3 ?zb3
    case yb3 => (intro w hSw; (try dsimp only at hSw); go_simp; try (with_reducible rfl))
    case hb3 => (go_simp; exact rfl)
    case zb3 =>
    refine wpAnyH_ready (rs := [4]) (by kernel_rfl) (by simp) ?_
    refine AllReadyH.cons rfl (fun K hK => ?_) AllReadyH.nil
    go_simp
    refine (O1.out _ (SB.out _ (by assumption))).mono ?_
    rintro e w6 ⟨Bq, rfl, HQ, h6⟩
    try go_wp2_with fail
    refine hK.out _ _ (SK.out _ (by assumption)) (fun hHeld2 => ?_)
    clear hK K hHeld
    have hHeld := hHeld2
    clear hHeld2
    refine wpAnyH_ready (rs := [5]) (by kernel_rfl) (by simp) ?_
    refine AllReadyH.cons rfl (fun K hK => ?_) AllReadyH.nil
    go_simp
    refine (E1.out _ _ (SB.out _ (by assumption)) (by assumption)).mono ?_
    rintro e w6 ⟨rfl, h6⟩
    try go_wp2_with fail
    refine hK.out _ _ (SK.out _ (by assumption)) (fun hHeld2 => ?_)
    clear hK K hHeld
    have hHeld := hHeld2
    clear hHeld2
    refine wpAnyH_to (i := 6) (v := ?vb6) (a1 := ?xb6) rfl (by kernel_rfl) (by kernel_rfl) (by kernel_rfl) (fun _ _ _ h => h) (Or.inl ⟨by rfl, ?yb6⟩) (by assumption) ?hb6 ?zb6
    case yb6 => (intro w hSw; (try dsimp only at hSw); go_simp; try (with_reducible rfl))
    case hb6 => (go_simp; exact rfl)
    case zb6 =>
    refine wpAnyH_to (i := 7) (v := undef) (a1 := ?xb7) rfl (by kernel_rfl) (by kernel_rfl) (by kernel_rfl) (fun _ _ _ h => h) (Or.inr ⟨by rfl, rfl⟩) (by assumption) ?hb7 ?zb7
    case hb7 => (go_simp; exact rfl)
    case zb7 =>
    refine wpAnyH_to (i := 8) (v := undef) (a1 := ?xb8) rfl (by kernel_rfl) (by kernel_rfl) (by kernel_rfl) (fun _ _ _ h => h) (Or.inr ⟨by rfl, rfl⟩) (by assumption) ?hb8 ?zb8
    case hb8 => (go_simp; exact rfl)
    case zb8 =>
    refine wpAnyH_to (i := 9) (v := undef) (a1 := ?xb9) rfl (by kernel_rfl) (by kernel_rfl) (by kernel_rfl) (fun _ _ _ h => h) (Or.inr ⟨by rfl, rfl⟩) (by assumption) ?hb9 ?zb9
    case hb9 => (go_simp; exact rfl)
    case zb9 =>
    refine wpAnyH_to (i := 10) (v := undef) (a1 := ?xb10) rfl (by kernel_rfl) (by kernel_rfl) (by kernel_rfl) (fun _ _ _ h => h) (Or.inr ⟨by rfl, rfl⟩) (by assumption) ?hb10 ?zb10
    case hb10 => (go_simp; exact rfl)
    case zb10 =>
    refine wpAnyH_to (i := 11) (v := ?vb11) (a1 := ?xb11) rfl (by kernel_rfl) (by kernel_rfl) (by kernel_rfl) (fun _ _ _ h => h) (Or.inl ⟨by rfl, ?yb11⟩) (by assumption) ?hb11 ?zb11
    case yb11 => (intro w hSw; (try dsimp only at hSw); go_simp; try (with_reducible rfl))
    case hb11 => (go_simp; exact rfl)
    case zb11 =>
    refine wpAnyH_to (i := 12) (v := ?vb12) (a1 := ?xb12) rfl (by kernel_rfl) (by kernel_rfl) (by kernel_rfl) (fun _ _ _ h => h) (Or.inl ⟨by rfl, ?yb12⟩) (by assumption) ?hb12 ?zb12
    case yb12 => (intro w hSw; (try dsimp only at hSw); go_simp; try (with_reducible rfl))
    case hb12 => (go_simp; exact rfl)
    case zb12 =>
    refine wpAnyH_to (i := 13) (v := undef) (a1 := ?xb13) rfl (by kernel_rfl) (by kernel_rfl) (by kernel_rfl) (fun _ _ _ h => h) (Or.inr ⟨by rfl, rfl⟩) (by assumption) ?hb13 ?zb13
    case hb13 => (go_simp; exact rfl)
    case zb13 =>
    refine wpAnyH_to (i := 14) (v := undef) (a1 := ?xb14) rfl (by kernel_rfl) (by kernel_rfl) (by kernel_rfl) (fun _ _ _ h => h) (Or.inr ⟨by rfl, rfl⟩) (by assumption) ?hb14 ?zb14
    case hb14 => (go_simp; exact rfl)
    case zb14 =>
    refine wpAnyH_to (i := 15) (v := undef) (a1 := ?xb15) rfl (by kernel_rfl) (by kernel_rfl) (by kernel_rfl) (fun _ _ _ h => h) (Or.inr ⟨by rfl, rfl⟩) (by assumption) ?hb15 ?zb15
    case hb15 => (go_simp; exact rfl)
    case zb15 =>
    refine wpAnyH_to (i := 16) (v := undef) (a1 := ?xb16) rfl (by kernel_rfl) (by kernel_rfl) (by kernel_rfl) (fun _ _ _ h => h) (Or.inr ⟨by rfl, rfl⟩) (by assumption) ?hb16 ?zb16
    case hb16 => (go_simp; exact rfl)
    case zb16 =>
    refine wpAnyH_to (i := 17) (v := undef) (a1 := ?xb17) rfl (by kernel_rfl) (by kernel_rfl) (by kernel_rfl) (fun _ _ _ h => h) (Or.inr ⟨by rfl, rfl⟩) (by assumption) ?hb17 ?zb17
    case hb17 => (go_simp; exact rfl)
    case zb17 =>
    refine wpAnyH_to (i := 18) (v := undef) (a1 := ?xb18) rfl (by kernel_rfl) (by kernel_rfl) (by kernel_rfl) (fun _ _ _ h => h) (Or.inr ⟨by rfl, rfl⟩) (by assumption) ?hb18 ?zb18
    case hb18 => (go_simp; exact rfl)
    case zb18 =>
    refine wpAnyH_to (i := 19) (v := ?vb19) (a1 := ?xb19) rfl (by kernel_rfl) (by kernel_rfl) (by kernel_rfl) (fun _ _ _ h => h) (Or.inl ⟨by rfl, ?yb19⟩) (by assumption) ?hb19 ?zb19
    case yb19 => (intro w hSw; (try dsimp only at hSw); go_simp; try (with_reducible rfl))
    case hb19 => (go_simp; exact rfl)
    case zb19 =>
    refine wpAnyH_to (i := 20) (v := ?vb20) (a1 := ?xb20) rfl (by kernel_rfl) (by kernel_rfl) (by kernel_rfl) (fun _ _ _ h => h) (Or.inl ⟨by rfl, ?yb20⟩) (by assumption) ?hb20 ?zb20
    case yb20 => (intro w hSw; (try dsimp only at hSw); go_simp; try (with_reducible rfl))
    case hb20 => (go_simp; exact rfl)
    case zb20 =>
    refine wpAnyH_to (i := 21) (v := undef) (a1 := ?xb21) rfl (by kernel_rfl) (by kernel_rfl) (by kernel_rfl) (fun _ _ _ h => h) (Or.inr ⟨by rfl, rfl⟩) (by assumption) ?hb21 ?zb21
    case hb21 => (go_simp; exact rfl)
    case zb21 =>
    refine wpAnyH_to (i := 22) (v := undef) (a1 := ?xb22) rfl (by kernel_rfl) (by kernel_rfl) (by kernel_rfl) (fun _ _ _ h => h) (Or.inr ⟨by rfl, rfl⟩) (by assumption) ?hb22 ?zb22
    case hb22 => (go_simp; exact rfl)
    case zb22 =>
    refine wpAnyH_to (i := 23) (v := undef) (a1 := ?xb23) rfl (by kernel_rfl) (by kernel_rfl) (by kernel_rfl) (fun _ _ _ h => h) (Or.inr ⟨by rfl, rfl⟩) (by assumption) ?hb23 ?zb23
    case hb23 => (go_simp; exact rfl)
    case zb23 =>
    refine wpAnyH_to (i := 24) (v := undef) (a1 := ?xb24) rfl (by kernel_rfl) (by kernel_rfl) (by kernel_rfl) (fun _ _ _ h => h) (Or.inr ⟨by rfl, rfl⟩) (by assumption) ?hb24 ?zb24
    case hb24 => (go_simp; exact rfl)
    case zb24 =>
    refine wpAnyH_to (i := 25) (v := undef) (a1 := ?xb25) rfl (by kernel_rfl) (by kernel_rfl) (by kernel_rfl) (fun _ _ _ h => h) (Or.inr ⟨by rfl, rfl⟩) (by assumption) ?hb25 ?zb25
    case hb25 => (go_simp; exact rfl)
    case zb25 =>
    refine wpAnyH_to (i := 26) (v := undef) (a1 := ?xb26) rfl (by kernel_rfl) (by kernel_rfl) (by kernel_rfl) (fun _ _ _ h => h) (Or.inr ⟨by rfl, rfl⟩) (by assumption) ?hb26 ?zb26
    case hb26 => (go_simp; exact rfl)
    case zb26 =>
    refine wpAnyH_to (i := 27) (v := ?vb27) (a1 := ?xb27) rfl (by kernel_rfl) (by kernel_rfl) (by kernel_rfl) (fun _ _ _ h => h) (Or.inl ⟨by rfl, ?yb27⟩) (by assumption) ?hb27 ?zb27
    case yb27 => (intro w hSw; (try dsimp only at hSw); go_simp; try (with_reducible rfl))
    case hb27 => (go_simp; exact rfl)
    case zb27 =>
    refine wpAnyH_to (i := 28) (v := ?vb28) (a1 := ?xb28) rfl (by kernel_rfl) (by kernel_rfl) (by kernel_rfl) (fun _ _ _ h => h) (Or.inl ⟨by rfl, ?yb28⟩) (by assumption) ?hb28 ?zb28
    case yb28 => (intro w hSw; (try dsimp only at hSw); go_simp; try (with_reducible rfl))
    case hb28 => (go_simp; exact rfl)
    case zb28 =>
    refine wpAnyH_to (i := 29) (v := undef) (a1 := ?xb29) rfl (by kernel_rfl) (by kernel_rfl) (by kernel_rfl) (fun _ _ _ h => h) (Or.inr ⟨by rfl, rfl⟩) (by assumption) ?hb29 ?zb29
    case hb29 => (go_simp; exact rfl)
    case zb29 =>
    refine wpAnyH_to (i := 30) (v := undef) (a1 := ?xb30) rfl (by kernel_rfl) (by kernel_rfl) (by kernel_rfl) (fun _ _ _ h => h) (Or.inr ⟨by rfl, rfl⟩) (by assumption) ?hb30 ?zb30
    case hb30 => (go_simp; exact rfl)
    case zb30 =>
    refine wpAnyH_to (i := 31) (v := undef) (a1 := ?xb31) rfl (by kernel_rfl) (by kernel_rfl) (by kernel_rfl) (fun _ _ _ h => h) (Or.inr ⟨by rfl, rfl⟩) (by assumption) ?hb31 ?zb31
    case hb31 => (go_simp; exact rfl)
    case zb31 =>
    refine wpAnyH_to (i := 32) (v := undef) (a1 := ?xb32) rfl (by kernel_rfl) (by kernel_rfl) (by kernel_rfl) (fun _ _ _ h => h) (Or.inr ⟨by rfl, rfl⟩) (by assumption) ?hb32 ?zb32
    case hb32 => (go_simp; exact rfl)
    case zb32 =>
    refine wpAnyH_to (i := 33) (v := undef) (a1 := ?xb33) rfl (by kernel_rfl) (by kernel_rfl) (by kernel_rfl) (fun _ _ _ h => h) (Or.inr ⟨by rfl, rfl⟩) (by assumption) ?hb33 ?zb33
    case hb33 => (go_simp; exact rfl)
    case zb33 =>
    refine wpAnyH_to (i := 34) (v := undef) (a1 := ?xb34) rfl (by kernel_rfl) (by kernel_rfl) (by kernel_rfl) (fun _ _ _ h => h) (Or.inr ⟨by rfl, rfl⟩) (by assumption) ?hb34 ?zb34
    case hb34 => (go_simp; exact rfl)
    case zb34 =>
    refine wpAnyH_to (i := 35) (v := ?vb35) (a1 := ?xb35) rfl (by kernel_rfl) (by kernel_rfl) (by kernel_rfl) (fun _ _ _ h => h) (Or.inl ⟨by rfl, ?yb35⟩) (by assumption) ?hb35 ?zb35
    case yb35 => (intro w hSw; (try dsimp only at hSw); go_simp; try (with_reducible rfl))
    case hb35 => (go_simp; exact rfl)
    case zb35 =>
    refine wpAnyH_to (i := 36) (v := ?vb36) (a1 := ?xb36) rfl (by kernel_rfl) (by kernel_rfl) (by kernel_rfl) (fun _ _ _ h => h) (Or.inl ⟨by rfl, ?yb36⟩) (by assumption) ?hb36 ?zb36
    case yb36 => (intro w hSw; (try dsimp only at hSw); go_simp; try (with_reducible rfl))
    case hb36 => (go_simp; exact rfl)
    case zb36 =>
    refine wpAnyH_to (i := 37) (v := undef) (a1 := ?xb37) rfl (by kernel_rfl) (by kernel_rfl) (by kernel_rfl) (fun _ _ _ h => h) (Or.inr ⟨by rfl, rfl⟩) (by assumption) ?hb37 ?zb37
    case hb37 => (go_simp; exact rfl)
    case zb37 =>
    refine wpAnyH_to (i := 38) (v := undef) (a1 := ?xb38) rfl (by kernel_rfl) (by kernel_rfl) (by kernel_rfl) (fun _ _ _ h => h) (Or.inr ⟨by rfl, rfl⟩) (by assumption) ?hb38 ?zb38
    case hb38 => (go_simp; exact rfl)
    case zb38 =>
    refine wpAnyH_to (i := 39) (v := undef) (a1 := ?xb39) rfl (by kernel_rfl) (by kernel_rfl) (by kernel_rfl) (fun _ _ _ h => h) (Or.inr ⟨by rfl, rfl⟩) (by assumption) ?hb39 ?zb39
    case hb39 => (go_simp; exact rfl)
    case zb39 =>
    refine wpAnyH_to (i := 40) (v := undef) (a1 := ?xb40) rfl (by kernel_rfl) (by kernel_rfl) (by kernel_rfl) (fun _ _ _ h => h) (Or.inr ⟨by rfl, rfl⟩) (by assumption) ?hb40 ?zb40
    case hb40 => (go_simp; exact rfl)
    case zb40 =>
    refine wpAnyH_to (i := 41) (v := undef) (a1 := ?xb41) rfl (by kernel_rfl) (by kernel_rfl) (by kernel_rfl) (fun _ _ _ h => h) (Or.inr ⟨by rfl, rfl⟩) (by assumption) ?hb41 ?zb41
    case hb41 => (go_simp; exact rfl)
    case zb41 =>
    refine wpAnyH_to (i := 42) (v := undef) (a1 := ?xb42) rfl (by kernel_rfl) (by kernel_rfl) (by kernel_rfl) (fun _ _ _ h => h) (Or.inr ⟨by rfl, rfl⟩) (by assumption) ?hb42 ?zb42
    case hb42 => (go_simp; exact rfl)
    case zb42 =>
    refine wpAnyH_to (i := 43) (v := undef) (a1 := ?xb43) rfl (by kernel_rfl) (by kernel_rfl) (by kernel_rfl) (fun _ _ _ h => h) (Or.inr ⟨by rfl, rfl⟩) (by assumption) ?hb43 ?zb43
    case hb43 => (go_simp; exact rfl)
    case zb43 =>
    refine wpAnyH_to (i := 44) (v := undef) (a1 := ?xb44) rfl (by kernel_rfl) (by kernel_rfl) (by kernel_rfl) (fun _ _ _ h => h) (Or.inr ⟨by rfl, rfl⟩) (by assumption) ?hb44 ?zb44
    case hb44 => (go_simp; exact rfl)
    case zb44 =>
    refine wpAnyH_to (i := 45) (v := ?vb45) (a1 := ?xb45) rfl (by kernel_rfl) (by kernel_rfl) (by kernel_rfl) (fun _ _ _ h => h) (Or.inl ⟨by rfl, ?yb45⟩) (by assumption) ?hb45 ?zb45
    case yb45 => (intro w hSw; (try dsimp only at hSw); go_simp; try (with_reducible rfl))
    case hb45 => (go_simp; exact rfl)
    case zb45 =>
    refine wpAnyH_to (i := 46) (v := ?vb46) (a1 := ?xb46) rfl (by kernel_rfl) (by kernel_rfl) (by kernel_rfl) (fun _ _ _ h => h) (Or.inl ⟨by rfl, ?yb46⟩) (by assumption) ?hb46 ?zb46
    case yb46 => (intro w hSw; (try dsimp only at hSw); go_simp; try (with_reducible rfl))
    case hb46 => (go_simp; exact rfl)
    case zb46 =>
    refine wpAnyH_done (by kernel_rfl) ?_ _
    have H7 := hide (SB.out _ (by assumption))
    clear O1 O3 O4 O5 E1 E2 E3 E4 E5 K1 K2 K3 SK SB
    go_wp2_with fail
    go_ret
    rw [HR.out]
    exact ⟨rfl, H7.out.1.2.2⟩
  | true =>
    cases t2 with
    | false =>
      have HR : Hid (R = false) := hide (by rw [HAL.out]; simp)
      clear HAL
      refine wp_region_held_drew (S := (fun wx => wx.cell? ⟨w.heap.size, 0, none⟩ = some (.int .i64 a0) ∧ wx.cell? ⟨w.heap.size, 1, none⟩ = some v1 ∧ wx.cell? ⟨w.heap.size, 2, none⟩ = some v2 ∧ wx.cell? ⟨w.heap.size, 3, none⟩ = some v3 ∧ wx.cell? ⟨w.heap.size, 4, none⟩ = some v4 ∧ wx.cell? ⟨w.heap.size, 5, none⟩ = some v5 ∧ wx.cell? ⟨w.heap.size, 6, none⟩ = some (.int .i64 a6) ∧ wx.cell? ⟨w.heap.size, 7, none⟩ = some (.int .i64 a7) ∧ wx.cell? ⟨w.heap.size, 8, none⟩ = some (.int .i64 a8) ∧ wx.cell? ⟨w.heap.size + 1, 0, none⟩ = some (.int .i64 b0) ∧ wx.cell? ⟨w.heap.size + 1, 1, none⟩ = some u1 ∧ wx.cell? ⟨w.heap.size + 1, 2, none⟩ = some u2 ∧ wx.cell? ⟨w.heap.size + 1, 3, none⟩ = some u3 ∧ wx.cell? ⟨w.heap.size + 1, 4, none⟩ = some u4 ∧ wx.cell? ⟨w.heap.size + 1, 5, none⟩ = some u5 ∧ wx.cell? ⟨w.heap.size + 1, 6, none⟩ = some (.int .i64 b6) ∧ wx.cell? ⟨w.heap.size + 1, 7, none⟩ = some (.int .i64 b7) ∧ wx.cell? ⟨w.heap.size + 1, 8, none⟩ = some (.int .i64 b8) ∧ Hid (BoxS w #[.int .i64 a0, v1, v2, v3, v4, v5, .int .i64 a6, .int .i64 a7, .int .i64 a8] #[.int .i64 b0, u1, u2, u3, u4, u5, .int .i64 b6, .int .i64 b7, .int .i64 b8] N B0 (m2.map bl) wx))) (by kernel_rfl) (SK.out _ (HS.out.keep ((Below.refl _ _).drew))) (fun hHeld => ?_)
      refine wpAnyH_to (i := 0) (v := ?vc0) (a1 := ?xc0) rfl (by kernel_rfl) (by kernel_rfl) (by kernel_rfl) (fun _ _ _ h => h) (Or.inl ⟨by rfl, ?yc0⟩) (by assumption) ?hc0 ?zc0
      case yc0 => (intro w hSw; (try dsimp only at hSw); go_simp; try (with_reducible rfl))
      case hc0 => (go_simp; exact rfl)
      case zc0 =>
      refine wpAnyH_to (i := 1) (v := ?vc1) (a1 := ?xc1) rfl (by kernel_rfl) (by kernel_rfl) (by kernel_rfl) (fun _ _ _ h => h) (Or.inl ⟨by rfl, ?yc1⟩) (by assumption) ?hc1 ?zc1
      case yc1 => (intro w hSw; (try dsimp only at hSw); go_simp; try (with_reducible rfl))
      case hc1 => (go_simp; exact rfl)
      case zc1 =>
      refine wpAnyH_to (i := 2) (v := ?vc2) (a1 := ?xc2) rfl (by kernel_rfl) (by kernel_rfl) (by kernel_rfl) (fun _ _ _ h => h) (Or.inl ⟨by rfl, ?yc2⟩) (by assumption) ?hc2 ?zc2
      case yc2 => (intro w hSw; (try dsimp only at hSw); go_simp; try (with_reducible rfl))
      case hc2 => (go_simp; exact rfl)
      case zc2 =>
      refine wpAnyH_to (i := 3) (v := ?vc3) (a1 := ?xc3) rfl (by kernel_rfl) (by kernel_rfl) (by kernel_rfl) (fun _ _ _ h => h) (Or.inl ⟨by rfl, ?yc3⟩) (by assumption) ?hc3 ?zc3
      case yc3 => (intro w hSw; (try dsimp only at hSw); go_simp; try (with_reducible rfl))
      case hc3 => (go_simp; exact rfl)
      case zc3 =>
      refine wpAnyH_ready (rs := [4]) (by kernel_rfl) (by simp) ?_
      refine AllReadyH.cons rfl (fun K hK => ?_) AllReadyH.nil
      go_simp
      refine (O1.out _ (SB.out _ (by assumption))).mono ?_
      rintro e w6 ⟨Bq, rfl, HQ, h6⟩
      try go_wp2_with fail
      refine hK.out _ _ (SK.out _ (by assumption)) (fun hHeld2 => ?_)
      clear hK K hHeld
      have hHeld := hHeld2
      clear hHeld2
      refine wpAnyH_ready (rs := [5]) (by kernel_rfl) (by simp) ?_
      refine AllReadyH.cons rfl (fun K hK => ?_) AllReadyH.nil
      go_simp
      refine (E1.out _ _ (SB.out _ (by assumption)) (by assumption)).mono ?_
      rintro e w6 ⟨rfl, h6⟩
      try go_wp2_with fail
      refine hK.out _ _ (SK.out _ (by assumption)) (fun hHeld2 => ?_)
      clear hK K hHeld
      have hHeld := hHeld2
      clear hHeld2
      refine wpAnyH_to (i := 6) (v := ?vc6) (a1 := ?xc6) rfl (by kernel_rfl) (by kernel_rfl) (by kernel_rfl) (fun _ _ _ h => h) (Or.inl ⟨by rfl, ?yc6⟩) (by assumption) ?hc6 ?zc6
      case yc6 => (intro w hSw; (try dsimp only at hSw); go_simp; try (with_reducible rfl))
      case hc6 => (go_simp; exact rfl)
      case zc6 =>
      refine wpAnyH_to (i := 7) (v := ?vc7) (a1 := ?xc7) rfl (by kernel_rfl) (by kernel_rfl) (by kernel_rfl) (fun _ _ _ h => h) (Or.inl ⟨by rfl, ?yc7⟩) (by assumption) ?hc7 ?zc7
      case yc7 => (intro w hSw; (try dsimp only at hSw); go_simp; try (with_reducible rfl))
      case hc7 => (go_simp; exact rfl)
      case zc7 =>
      refine wpAnyH_to (i := 8) (v := ?vc8) (a1 := ?xc8) rfl (by kernel_rfl) (by kernel_rfl) (by kernel_rfl) (fun _ _ _ h => h) (Or.inl ⟨by rfl, ?yc8⟩) (by assumption) ?hc8 ?zc8
      case yc8 => (intro w hSw; (try dsimp only at hSw); go_simp; try (with_reducible rfl))
      case hc8 => (go_simp; exact rfl)
      case zc8 =>
      refine wpAnyH_to (i := 9) (v := ?vc9) (a1 := ?xc9) rfl (by kernel_rfl) (by kernel_rfl) (by kernel_rfl) (fun _ _ _ h => h) (Or.inl ⟨by rfl, ?yc9⟩) (by assumption) ?hc9 ?zc9
      case yc9 => (intro w hSw; (try dsimp only at hSw); go_simp; try (with_reducible rfl))
      case hc9 => (go_simp; exact rfl)
      case zc9 =>
      refine wpAnyH_ready (rs := [10]) (by kernel_rfl) (by simp) ?_
      refine AllReadyH.cons rfl (fun K hK => ?_) AllReadyH.nil
      go_simp
      refine (E2.out _ (SB.out _ (by assumption))).mono ?_
      rintro e w6 ⟨rfl, h6⟩
      try go_wp2_with fail
      refine hK.out _ _ (SK.out _ (by assumption)) (fun hHeld2 => ?_)
      clear hK K hHeld
      have hHeld := hHeld2
      clear hHeld2
      refine wpAnyH_to (i := 11) (v := ?vc11) (a1 := ?xc11) rfl (by kernel_rfl) (by kernel_rfl) (by kernel_rfl) (fun _ _ _ h => h) (Or.inl ⟨by rfl, ?yc11⟩) (by assumption) ?hc11 ?zc11
      case yc11 => (intro w hSw; (try dsimp only at hSw); go_simp; try (with_reducible rfl))
      case hc11 => (go_simp; exact rfl)
      case zc11 =>
      refine wpAnyH_to (i := 12) (v := ?vc12) (a1 := ?xc12) rfl (by kernel_rfl) (by kernel_rfl) (by kernel_rfl) (fun _ _ _ h => h) (Or.inl ⟨by rfl, ?yc12⟩) (by assumption) ?hc12 ?zc12
      case yc12 => (intro w hSw; (try dsimp only at hSw); go_simp; try (with_reducible rfl))
      case hc12 => (go_simp; exact rfl)
      case zc12 =>
      refine wpAnyH_to (i := 13) (v := undef) (a1 := ?xc13) rfl (by kernel_rfl) (by kernel_rfl) (by kernel_rfl) (fun _ _ _ h => h) (Or.inr ⟨by rfl, rfl⟩) (by assumption) ?hc13 ?zc13
      case hc13 => (go_simp; exact rfl)
      case zc13 =>
      refine wpAnyH_to (i := 14) (v := undef) (a1 := ?xc14) rfl (by kernel_rfl) (by kernel_rfl) (by kernel_rfl) (fun _ _ _ h => h) (Or.inr ⟨by rfl, rfl⟩) (by assumption) ?hc14 ?zc14
      case hc14 => (go_simp; exact rfl)
      case zc14 =>
      refine wpAnyH_to (i := 15) (v := undef) (a1 := ?xc15) rfl (by kernel_rfl) (by kernel_rfl) (by kernel_rfl) (fun _ _ _ h => h) (Or.inr ⟨by rfl, rfl⟩) (by assumption) ?hc15 ?zc15
      case hc15 => (go_simp; exact rfl)
      case zc15 =>
      refine wpAnyH_to (i := 16) (v := undef) (a1 := ?xc16) rfl (by kernel_rfl) (by kernel_rfl) (by kernel_rfl) (fun _ _ _ h => h) (Or.inr ⟨by rfl, rfl⟩) (by assumption) ?hc16 ?zc16
      case hc16 => (go_simp; exact rfl)
      case zc16 =>
      refine wpAnyH_to (i := 17) (v := undef) (a1 := ?xc17) rfl (by kernel_rfl) (by kernel_rfl) (by kernel_rfl) (fun _ _ _ h => h) (Or.inr ⟨by rfl, rfl⟩) (by assumption) ?hc17 ?zc17
      case hc17 => (go_simp; exact rfl)
      case zc17 =>
      refine wpAnyH_to (i := 18) (v := undef) (a1 := ?xc18) rfl (by kernel_rfl) (by kernel_rfl) (by kernel_rfl) (fun _ _ _ h => h) (Or.inr ⟨by rfl, rfl⟩) (by assumption) ?hc18 ?zc18
      case hc18 => (go_simp; exact rfl)
      case zc18 =>
      refine wpAnyH_to (i := 19) (v := ?vc19) (a1 := ?xc19) rfl (by kernel_rfl) (by kernel_rfl) (by kernel_rfl) (fun _ _ _ h => h) (Or.inl ⟨by rfl, ?yc19⟩) (by assumption) ?hc19 ?zc19
      case yc19 => (intro w hSw; (try dsimp only at hSw); go_simp; try (with_reducible rfl))
      case hc19 => (go_simp; exact rfl)
      case zc19 =>
      refine wpAnyH_to (i := 20) (v := ?vc20) (a1 := ?xc20) rfl (by kernel_rfl) (by kernel_rfl) (by kernel_rfl) (fun _ _ _ h => h) (Or.inl ⟨by rfl, ?yc20⟩) (by assumption) ?hc20 ?zc20
      case yc20 => (intro w hSw; (try dsimp only at hSw); go_simp; try (with_reducible rfl))
      case hc20 => (go_simp; exact rfl)
      case zc20 =>
      refine wpAnyH_to (i := 21) (v := undef) (a1 := ?xc21) rfl (by kernel_rfl) (by kernel_rfl) (by kernel_rfl) (fun _ _ _ h => h) (Or.inr ⟨by rfl, rfl⟩) (by assumption) ?hc21 ?zc21
      case hc21 => (go_simp; exact rfl)
      case zc21 =>
      refine wpAnyH_to (i := 22) (v := undef) (a1 := ?xc22) rfl (by kernel_rfl) (by kernel_rfl) (by kernel_rfl) (fun _ _ _ h => h) (Or.inr ⟨by rfl, rfl⟩) (by assumption) ?hc22 ?zc22
      case hc22 => (go_simp; exact rfl)
      case zc22 =>
      refine wpAnyH_to (i := 23) (v := undef) (a1 := ?xc23) rfl (by kernel_rfl) (by kernel_rfl) (by kernel_rfl) (fun _ _ _ h => h) (Or.inr ⟨by rfl, rfl⟩) (by assumption) ?hc23 ?zc23
      case hc23 => (go_simp; exact rfl)
      case zc23 =>
      refine wpAnyH_to (i := 24) (v := undef) (a1 := ?xc24) rfl (by kernel_rfl) (by kernel_rfl) (by kernel_rfl) (fun _ _ _ h => h) (Or.inr ⟨by rfl, rfl⟩) (by assumption) ?hc24 ?zc24
      case hc24 => (go_simp; exact rfl)
      case zc24 =>
      refine wpAnyH_to (i := 25) (v := undef) (a1 := ?xc25) rfl (by kernel_rfl) (by kernel_rfl) (by kernel_rfl) (fun _ _ _ h => h) (Or.inr ⟨by rfl, rfl⟩) (by assumption) ?hc25 ?zc25
      case hc25 => (go_simp; exact rfl)
      case zc25 =>
      refine wpAnyH_to (i := 26) (v := undef) (a1 := ?xc26) rfl (by kernel_rfl) (by kernel_rfl) (by kernel_rfl) (fun _ _ _ h => h) (Or.inr ⟨by rfl, rfl⟩) (by assumption) ?hc26 ?zc26
      case hc26 => (go_simp; exact rfl)
      case zc26 =>
      refine wpAnyH_to (i := 27) (v := ?vc27) (a1 := ?xc27) rfl (by kernel_rfl) (by kernel_rfl) (by kernel_rfl) (fun _ _ _ h => h) (Or.inl ⟨by rfl, ?yc27⟩) (by assumption) ?hc27 ?zc27
      case yc27 => (intro w hSw; (try dsimp only at hSw); go_simp; try (with_reducible rfl))
      case hc27 => (go_simp; exact rfl)
      case zc27 =>
      refine wpAnyH_to (i := 28) (v := ?vc28) (a1 := ?xc28) rfl (by kernel_rfl) (by kernel_rfl) (by kernel_rfl) (fun _ _ _ h => h) (Or.inl ⟨by rfl, ?yc28⟩) (by assumption) ?hc28 ?zc28
      case yc28 => (intro w hSw; (try dsimp only at hSw); go_simp; try (with_reducible rfl))
      case hc28 => (go_simp; exact rfl)
      case zc28 =>
      refine wpAnyH_to (i := 29) (v := undef) (a1 := ?xc29) rfl (by kernel_rfl) (by kernel_rfl) (by kernel_rfl) (fun _ _ _ h => h) (Or.inr ⟨by rfl, rfl⟩) (by assumption) ?hc29 ?zc29
      case hc29 => (go_simp; exact rfl)
      case zc29 =>
      refine wpAnyH_to (i := 30) (v := undef) (a1 := ?xc30) rfl (by kernel_rfl) (by kernel_rfl) (by kernel_rfl) (fun _ _ _ h => h) (Or.inr ⟨by rfl, rfl⟩) (by assumption) ?hc30 ?zc30
      case hc30 => (go_simp; exact rfl)
      case zc30 =>
      refine wpAnyH_to (i := 31) (v := undef) (a1 := ?xc31) rfl (by kernel_rfl) (by kernel_rfl) (by kernel_rfl) (fun _ _ _ h => h) (Or.inr ⟨by rfl, rfl⟩) (by assumption) ?hc31 ?zc31
      case hc31 => (go_simp; exact rfl)
      case zc31 =>
      refine wpAnyH_to (i := 32) (v := undef) (a1 := ?xc32) rfl (by kernel_rfl) (by kernel_rfl) (by kernel_rfl) (fun _ _ _ h => h) (Or.inr ⟨by rfl, rfl⟩) (by assumption) ?hc32 ?zc32
      case hc32 => (go_simp; exact rfl)
      case zc32 =>
      refine wpAnyH_to (i := 33) (v := undef) (a1 := ?xc33) rfl (by kernel_rfl) (by kernel_rfl) (by kernel_rfl) (fun _ _ _ h => h) (Or.inr ⟨by rfl, rfl⟩) (by assumption) ?hc33 ?zc33
      case hc33 => (go_simp; exact rfl)
      case zc33 =>
      refine wpAnyH_to (i := 34) (v := undef) (a1 := ?xc34) rfl (by kernel_rfl) (by kernel_rfl) (by kernel_rfl) (fun _ _ _ h => h) (Or.inr ⟨by rfl, rfl⟩) (by assumption) ?hc34 ?zc34
      case hc34 => (go_simp; exact rfl)
      case zc34 =>
      refine wpAnyH_to (i := 35) (v := ?vc35) (a1 := ?xc35) rfl (by kernel_rfl) (by kernel_rfl) (by kernel_rfl) (fun _ _ _ h => h) (Or.inl ⟨by rfl, ?yc35⟩) (by assumption) ?hc35 ?zc35
      case yc35 => (intro w hSw; (try dsimp only at hSw); go_simp; try (with_reducible rfl))
      case hc35 => (go_simp; exact rfl)
      case zc35 =>
      refine wpAnyH_to (i := 36) (v := ?vc36) (a1 := ?xc36) rfl (by kernel_rfl) (by kernel_rfl) (by kernel_rfl) (fun _ _ _ h => h) (Or.inl ⟨by rfl, ?yc36⟩) (by assumption) ?hc36 ?zc36
      case yc36 => (intro w hSw; (try dsimp only at hSw); go_simp; try (with_reducible rfl))
      case hc36 => (go_simp; exact rfl)
      case zc36 =>
      refine wpAnyH_to (i := 37) (v := undef) (a1 := ?xc37) rfl (by kernel_rfl) (by kernel_rfl) (by kernel_rfl) (fun _ _ _ h => h) (Or.inr ⟨by rfl, rfl⟩) (by assumption) ?hc37 ?zc37
      case hc37 => (go_simp; exact rfl)
      case zc37 =>
      refine wpAnyH_to (i := 38) (v := undef) (a1 := ?xc38) rfl (by kernel_rfl) (by kernel_rfl) (by kernel_rfl) (fun _ _ _ h => h) (Or.inr ⟨by rfl, rfl⟩) (by assumption) ?hc38 ?zc38
      case hc38 => (go_simp; exact rfl)
      case zc38 =>
      refine wpAnyH_to (i := 39) (v := undef) (a1 := ?xc39) rfl (by kernel_rfl) (by kernel_rfl) (by kernel_rfl) (fun _ _ _ h => h) (Or.inr ⟨by rfl, rfl⟩) (by assumption) ?hc39 ?zc39
      case hc39 => (go_simp; exact rfl)
      case zc39 =>
      refine wpAnyH_to (i := 40) (v := undef) (a1 := ?xc40) rfl (by kernel_rfl) (by kernel_rfl) (by kernel_rfl) (fun _ _ _ h => h) (Or.inr ⟨by rfl, rfl⟩) (by assumption) ?hc40 ?zc40
      case hc40 => (go_simp; exact rfl)
      case zc40 =>
      refine wpAnyH_to (i := 41) (v := undef) (a1 := ?xc41) rfl (by kernel_rfl) (by kernel_rfl) (by kernel_rfl) (fun _ _ _ h => h) (Or.inr ⟨by rfl, rfl⟩) (by assumption) ?hc41 ?zc41
      case hc41 => (go_simp; exact rfl)
      case zc41 =>
      refine wpAnyH_to (i := 42) (v := undef) (a1 := ?xc42) rfl (by kernel_rfl) (by kernel_rfl) (by kernel_rfl) (fun _ _ _ h => h) (Or.inr ⟨by rfl, rfl⟩) (by assumption) ?hc42 ?zc42
      case hc42 => (go_simp; exact rfl)
      case zc42 =>
      refine wpAnyH_to (i := 43) (v := undef) (a1 := ?xc43) rfl (by kernel_rfl) (by kernel_rfl) (by kernel_rfl) (fun _ _ _ h => h) (Or.inr ⟨by rfl, rfl⟩) (by assumption) ?hc43 ?zc43
      case hc43 => (go_simp; exact rfl)
      case zc43 =>
      refine wpAnyH_to (i := 44) (v := undef) (a1 := ?xc44) rfl (by kernel_rfl) (by kernel_rfl) (by kernel_rfl) (fun _ _ _ h => h) (Or.inr ⟨by rfl, rfl⟩) (by assumption) ?hc44 ?zc44
      case hc44 => (go_simp; exact rfl)
      case zc44 =>
      refine wpAnyH_to (i := 45) (v := ?vc45) (a1 := ?xc45) rfl (by kernel_rfl) (by kernel_rfl) (by kernel_rfl) (fun _ _ _ h => h) (Or.inl ⟨by rfl, ?yc45⟩) (by assumption) ?hc45 ?zc45
      case yc45 => (intro w hSw; (try dsimp only at hSw); go_simp; try (with_reducible rfl))
      case hc45 => (go_simp; exact rfl)
      case zc45 =>
      refine wpAnyH_to (i := 46) (v := ?vc46) (a1 := ?xc46) rfl (by kernel_rfl) (by kernel_rfl) (by kernel_rfl) (fun _ _ _ h => h) (Or.inl ⟨by rfl, ?yc46⟩) (by assumption) ?hc46 ?zc46
      case yc46 => (intro w hSw; (try dsimp only at hSw); go_simp; try (with_reducible rfl))
      case hc46 => (go_simp; exact rfl)
      case zc46 =>
      refine wpAnyH_done (by kernel_rfl) ?_ _
      have H7 := hide (SB.out _ (by assumption))
      clear O1 O3 O4 O5 E1 E2 E3 E4 E5 K1 K2 K3 SK SB
      go_wp2_with fail
      go_ret
      rw [HR.out]
      exact ⟨rfl, H7.out.1.2.2⟩
    | true =>
      cases t3 with
      | false =>
        have HR : Hid (R = false) := hide (by rw [HAL.out]; simp)
        clear HAL
        refine wp_region_held_drew (S := (fun wx => wx.cell? ⟨w.heap.size, 0, none⟩ = some (.int .i64 a0) ∧ wx.cell? ⟨w.heap.size, 1, none⟩ = some v1 ∧ wx.cell? ⟨w.heap.size, 2, none⟩ = some v2 ∧ wx.cell? ⟨w.heap.size, 3, none⟩ = some v3 ∧ wx.cell? ⟨w.heap.size, 4, none⟩ = some v4 ∧ wx.cell? ⟨w.heap.size, 5, none⟩ = some v5 ∧ wx.cell? ⟨w.heap.size, 6, none⟩ = some (.int .i64 a6) ∧ wx.cell? ⟨w.heap.size, 7, none⟩ = some (.int .i64 a7) ∧ wx.cell? ⟨w.heap.size, 8, none⟩ = some (.int .i64 a8) ∧ wx.cell? ⟨w.heap.size + 1, 0, none⟩ = some (.int .i64 b0) ∧ wx.cell? ⟨w.heap.size + 1, 1, none⟩ = some u1 ∧ wx.cell? ⟨w.heap.size + 1, 2, none⟩ = some u2 ∧ wx.cell? ⟨w.heap.size + 1, 3, none⟩ = some u3 ∧ wx.cell? ⟨w.heap.size + 1, 4, none⟩ = some u4 ∧ wx.cell? ⟨w.heap.size + 1, 5, none⟩ = some u5 ∧ wx.cell? ⟨w.heap.size + 1, 6, none⟩ = some (.int .i64 b6) ∧ wx.cell? ⟨w.heap.size + 1, 7, none⟩ = some (.int .i64 b7) ∧ wx.cell? ⟨w.heap.size + 1, 8, none⟩ = some (.int .i64 b8) ∧ Hid (BoxS w #[.int .i64 a0, v1, v2, v3, v4, v5, .int .i64 a6, .int .i64 a7, .int .i64 a8] #[.int .i64 b0, u1, u2, u3, u4, u5, .int .i64 b6, .int .i64 b7, .int .i64 b8] N B0 (m2.map bl) wx))) (by kernel_rfl) (SK.out _ (HS.out.keep ((Below.refl _ _).drew))) (fun hHeld => ?_)
        refine wpAnyH_to (i := 0) (v := ?vd0) (a1 := ?xd0) rfl (by kernel_rfl) (by kernel_rfl) (by kernel_rfl) (fun _ _ _ h => h) (Or.inl ⟨by rfl, ?yd0⟩) (by assumption) ?hd0 ?zd0
        case yd0 => (intro w hSw; (try dsimp only at hSw); go_simp; try (with_reducible rfl))
        case hd0 => (go_simp; exact rfl)
        case zd0 =>
        refine wpAnyH_to (i := 1) (v := ?vd1) (a1 := ?xd1) rfl (by kernel_rfl) (by kernel_rfl) (by kernel_rfl) (fun _ _ _ h => h) (Or.inl ⟨by rfl, ?yd1⟩) (by assumption) ?hd1 ?zd1
        case yd1 => (intro w hSw; (try dsimp only at hSw); go_simp; try (with_reducible rfl))
        case hd1 => (go_simp; exact rfl)
        case zd1 =>
        refine wpAnyH_to (i := 2) (v := ?vd2) (a1 := ?xd2) rfl (by kernel_rfl) (by kernel_rfl) (by kernel_rfl) (fun _ _ _ h => h) (Or.inl ⟨by rfl, ?yd2⟩) (by assumption) ?hd2 ?zd2
        case yd2 => (intro w hSw; (try dsimp only at hSw); go_simp; try (with_reducible rfl))
        case hd2 => (go_simp; exact rfl)
        case zd2 =>
        refine wpAnyH_to (i := 3) (v := ?vd3) (a1 := ?xd3) rfl (by kernel_rfl) (by kernel_rfl) (by kernel_rfl) (fun _ _ _ h => h) (Or.inl ⟨by rfl, ?yd3⟩) (by assumption) ?hd3 ?zd3
        case yd3 => (intro w hSw; (try dsimp only at hSw); go_simp; try (with_reducible rfl))
        case hd3 => (go_simp; exact rfl)
        case zd3 =>
        refine wpAnyH_ready (rs := [4]) (by kernel_rfl) (by simp) ?_
        refine AllReadyH.cons rfl (fun K hK => ?_) AllReadyH.nil
        go_simp
        refine (O1.out _ (SB.out _ (by assumption))).mono ?_
        rintro e w6 ⟨Bq, rfl, HQ, h6⟩
        try go_wp2_with fail
        refine hK.out _ _ (SK.out _ (by assumption)) (fun hHeld2 => ?_)
        clear hK K hHeld
        have hHeld := hHeld2
        clear hHeld2
        refine wpAnyH_ready (rs := [5]) (by kernel_rfl) (by simp) ?_
        refine AllReadyH.cons rfl (fun K hK => ?_) AllReadyH.nil
        go_simp
        refine (E1.out _ _ (SB.out _ (by assumption)) (by assumption)).mono ?_
        rintro e w6 ⟨rfl, h6⟩
        try go_wp2_with fail
        refine hK.out _ _ (SK.out _ (by assumption)) (fun hHeld2 => ?_)
        clear hK K hHeld
        have hHeld := hHeld2
        clear hHeld2
        refine wpAnyH_to (i := 6) (v := ?vd6) (a1 := ?xd6) rfl (by kernel_rfl) (by kernel_rfl) (by kernel_rfl) (fun _ _ _ h => h) (Or.inl ⟨by rfl, ?yd6⟩) (by assumption) ?hd6 ?zd6
        case yd6 => (intro w hSw; (try dsimp only at hSw); go_simp; try (with_reducible rfl))
        case hd6 => (go_simp; exact rfl)
        case zd6 =>
        refine wpAnyH_to (i := 7) (v := ?vd7) (a1 := ?xd7) rfl (by kernel_rfl) (by kernel_rfl) (by kernel_rfl) (fun _ _ _ h => h) (Or.inl ⟨by rfl, ?yd7⟩) (by assumption) ?hd7 ?zd7
        case yd7 => (intro w hSw; (try dsimp only at hSw); go_simp; try (with_reducible rfl))
        case hd7 => (go_simp; exact rfl)
        case zd7 =>
        refine wpAnyH_to (i := 8) (v := ?vd8) (a1 := ?xd8) rfl (by kernel_rfl) (by kernel_rfl) (by kernel_rfl) (fun _ _ _ h => h) (Or.inl ⟨by rfl, ?yd8⟩) (by assumption) ?hd8 ?zd8
        case yd8 => (intro w hSw; (try dsimp only at hSw); go_simp; try (with_reducible rfl))
        case hd8 => (go_simp; exact rfl)
        case zd8 =>
        refine wpAnyH_to (i := 9) (v := ?vd9) (a1 := ?xd9) rfl (by kernel_rfl) (by kernel_rfl) (by kernel_rfl) (fun _ _ _ h => h) (Or.inl ⟨by rfl, ?yd9⟩) (by assumption) ?hd9 ?zd9
        case yd9 => (intro w hSw; (try dsimp only at hSw); go_simp; try (with_reducible rfl))
        case hd9 => (go_simp; exact rfl)
        case zd9 =>
        refine wpAnyH_ready (rs := [10]) (by kernel_rfl) (by simp) ?_
        refine AllReadyH.cons rfl (fun K hK => ?_) AllReadyH.nil
        go_simp
        refine (E2.out _ (SB.out _ (by assumption))).mono ?_
        rintro e w6 ⟨rfl, h6⟩
        try go_wp2_with fail
        refine hK.out _ _ (SK.out _ (by assumption)) (fun hHeld2 => ?_)
        clear hK K hHeld
        have hHeld := hHeld2
        clear hHeld2
        refine wpAnyH_to (i := 11) (v := ?vd11) (a1 := ?xd11) rfl (by kernel_rfl) (by kernel_rfl) (by kernel_rfl) (fun _ _ _ h => h) (Or.inl ⟨by rfl, ?yd11⟩) (by assumption) ?hd11 ?zd11
        case yd11 => (intro w hSw; (try dsimp only at hSw); go_simp; try (with_reducible rfl))
        case hd11 => (go_simp; exact rfl)
        case zd11 =>
        refine wpAnyH_to (i := 12) (v := ?vd12) (a1 := ?xd12) rfl (by kernel_rfl) (by kernel_rfl) (by kernel_rfl) (fun _ _ _ h => h) (Or.inl ⟨by rfl, ?yd12⟩) (by assumption) ?hd12 ?zd12
        case yd12 => (intro w hSw; (try dsimp only at hSw); go_simp; try (with_reducible rfl))
        case hd12 => (go_simp; exact rfl)
        case zd12 =>
        refine wpAnyH_to (i := 13) (v := ?vd13) (a1 := ?xd13) rfl (by kernel_rfl) (by kernel_rfl) (by kernel_rfl) (fun _ _ _ h => h) (Or.inl ⟨by rfl, ?yd13⟩) (by assumption) ?hd13 ?zd13
        case yd13 => (intro w hSw; (try dsimp only at hSw); go_simp; try (with_reducible rfl))
        case hd13 => (go_simp; exact rfl)
        case zd13 =>
        refine wpAnyH_to (i := 14) (v := ?vd14) (a1 := ?xd14) rfl (by kernel_rfl) (by kernel_rfl) (by kernel_rfl) (fun _ _ _ h => h) (Or.inl ⟨by rfl, ?yd14⟩) (by assumption) ?hd14 ?zd14
        case yd14 => (intro w hSw; (try dsimp only at hSw); go_simp; try (with_reducible rfl))
        case hd14 => (go_simp; exact rfl)
        case zd14 =>
        refine wpAnyH_to (i := 15) (v := ?vd15) (a1 := ?xd15) rfl (by kernel_rfl) (by kernel_rfl) (by kernel_rfl) (fun _ _ _ h => h) (Or.inl ⟨by rfl, ?yd15⟩) (by assumption) ?hd15 ?zd15
        case yd15 => (intro w hSw; (try dsimp only at hSw); go_simp; try (with_reducible rfl))
        case hd15 => (go_simp; exact rfl)
        case zd15 =>
        refine wpAnyH_to (i := 16) (v := ?vd16) (a1 := ?xd16) rfl (by kernel_rfl) (by kernel_rfl) (by kernel_rfl) (fun _ _ _ h => h) (Or.inl ⟨by rfl, ?yd16⟩) (by assumption) ?hd16 ?zd16
        case yd16 => (intro w hSw; (try dsimp only at hSw); go_simp; try (with_reducible rfl))
        case hd16 => (go_simp; exact rfl)
        case zd16 =>
        refine wpAnyH_ready (rs := [17]) (by kernel_rfl) (by simp) ?_
        refine AllReadyH.cons rfl (fun K hK => ?_) AllReadyH.nil
        go_simp
        refine (O3.out _ (SB.out _ (by assumption))).mono ?_
        rintro e w6 ⟨Bq, rfl, HQ, h6⟩
        try go_wp2_with fail
        refine hK.out _ _ (SK.out _ (by assumption)) (fun hHeld2 => ?_)
        clear hK K hHeld
        have hHeld := hHeld2
        clear hHeld2
        refine wpAnyH_ready (rs := [18]) (by kernel_rfl) (by simp) ?_
        refine AllReadyH.cons rfl (fun K hK => ?_) AllReadyH.nil
        go_simp
        refine (E3.out _ _ (SB.out _ (by assumption)) (by assumption)).mono ?_
        rintro e w6 ⟨rfl, h6⟩
        try go_wp2_with fail
        refine hK.out _ _ (SK.out _ (by assumption)) (fun hHeld2 => ?_)
        clear hK K hHeld
        have hHeld := hHeld2
        clear hHeld2
        refine wpAnyH_to (i := 19) (v := ?vd19) (a1 := ?xd19) rfl (by kernel_rfl) (by kernel_rfl) (by kernel_rfl) (fun _ _ _ h => h) (Or.inl ⟨by rfl, ?yd19⟩) (by assumption) ?hd19 ?zd19
        case yd19 => (intro w hSw; (try dsimp only at hSw); go_simp; try (with_reducible rfl))
        case hd19 => (go_simp; exact rfl)
        case zd19 =>
        refine wpAnyH_to (i := 20) (v := ?vd20) (a1 := ?xd20) rfl (by kernel_rfl) (by kernel_rfl) (by kernel_rfl) (fun _ _ _ h => h) (Or.inl ⟨by rfl, ?yd20⟩) (by assumption) ?hd20 ?zd20
        case yd20 => (intro w hSw; (try dsimp only at hSw); go_simp; try (with_reducible rfl))
        case hd20 => (go_simp; exact rfl)
        case zd20 =>
        refine wpAnyH_to (i := 21) (v := undef) (a1 := ?xd21) rfl (by kernel_rfl) (by kernel_rfl) (by kernel_rfl) (fun _ _ _ h => h) (Or.inr ⟨by rfl, rfl⟩) (by assumption) ?hd21 ?zd21
        case hd21 => (go_simp; exact rfl)
        case zd21 =>
        refine wpAnyH_to (i := 22) (v := undef) (a1 := ?xd22) rfl (by kernel_rfl) (by kernel_rfl) (by kernel_rfl) (fun _ _ _ h => h) (Or.inr ⟨by rfl, rfl⟩) (by assumption) ?hd22 ?zd22
        case hd22 => (go_simp; exact rfl)
        case zd22 =>
        refine wpAnyH_to (i := 23) (v := undef) (a1 := ?xd23) rfl (by kernel_rfl) (by kernel_rfl) (by kernel_rfl) (fun _ _ _ h => h) (Or.inr ⟨by rfl, rfl⟩) (by assumption) ?hd23 ?zd23
        case hd23 => (go_simp; exact rfl)
        case zd23 =>
        refine wpAnyH_to (i := 24) (v := undef) (a1 := ?xd24) rfl (by kernel_rfl) (by kernel_rfl) (by kernel_rfl) (fun _ _ _ h => h) (Or.inr ⟨by rfl, rfl⟩) (by assumption) ?hd24 ?zd24
        case hd24 => (go_simp; exact rfl)
        case zd24 =>
        refine wpAnyH_to (i := 25) (v := undef) (a1 := ?xd25) rfl (by kernel_rfl) (by kernel_rfl) (by kernel_rfl) (fun _ _ _ h => h) (Or.inr ⟨by rfl, rfl⟩) (by assumption) ?hd25 ?zd25
        case hd25 => (go_simp; exact rfl)
        case zd25 =>
        refine wpAnyH_to (i := 26) (v := undef) (a1 := ?xd26) rfl (by kernel_rfl) (by kernel_rfl) (by kernel_rfl) (fun _ _ _ h => h) (Or.inr ⟨by rfl, rfl⟩) (by assumption) ?hd26 ?zd26
        case hd26 => (go_simp; exact rfl)
        case zd26 =>
        refine wpAnyH_to (i := 27) (v := ?vd27) (a1 := ?xd27) rfl (by kernel_rfl) (by kernel_rfl) (by kernel_rfl) (fun _ _ _ h => h) (Or.inl ⟨by rfl, ?yd27⟩) (by assumption) ?hd27 ?zd27
        case yd27 => (intro w hSw; (try dsimp only at hSw); go_simp; try (with_reducible rfl))
        case hd27 => (go_simp; exact rfl)
        case zd27 =>
        refine wpAnyH_to (i := 28) (v := ?vd28) (a1 := ?xd28) rfl (by kernel_rfl) (by kernel_rfl) (by kernel_rfl) (fun _ _ _ h => h) (Or.inl ⟨by rfl, ?yd28⟩) (by assumption) ?hd28 ?zd28
        case yd28 => (intro w hSw; (try dsimp only at hSw); go_simp; try (with_reducible rfl))
        case hd28 => (go_simp; exact rfl)
        case zd28 =>
        refine wpAnyH_to (i := 29) (v := undef) (a1 := ?xd29) rfl (by kernel_rfl) (by kernel_rfl) (by kernel_rfl) (fun _ _ _ h => h) (Or.inr ⟨by rfl, rfl⟩) (by assumption) ?hd29 ?zd29
        case hd29 => (go_simp; exact rfl)
        case zd29 =>
        refine wpAnyH_to (i := 30) (v := undef) (a1 := ?xd30) rfl (by kernel_rfl) (by kernel_rfl) (by kernel_rfl) (fun _ _ _ h => h) (Or.inr ⟨by rfl, rfl⟩) (by assumption) ?hd30 ?zd30
        case hd30 => (go_simp; exact rfl)
        case zd30 =>
        refine wpAnyH_to (i := 31) (v := undef) (a1 := ?xd31) rfl (by kernel_rfl) (by kernel_rfl) (by kernel_rfl) (fun _ _ _ h => h) (Or.inr ⟨by rfl, rfl⟩) (by assumption) ?hd31 ?zd31
        case hd31 => (go_simp; exact rfl)
        case zd31 =>
        refine wpAnyH_to (i := 32) (v := undef) (a1 := ?xd32) rfl (by kernel_rfl) (by kernel_rfl) (by kernel_rfl) (fun _ _ _ h => h) (Or.inr ⟨by rfl, rfl⟩) (by assumption) ?hd32 ?zd32
        case hd32 => (go_simp; exact rfl)
        case zd32 =>
        refine wpAnyH_to (i := 33) (v := undef) (a1 := ?xd33) rfl (by kernel_rfl) (by kernel_rfl) (by kernel_rfl) (fun _ _ _ h => h) (Or.inr ⟨by rfl, rfl⟩) (by assumption) ?hd33 ?zd33
        case hd33 => (go_simp; exact rfl)
        case zd33 =>
        refine wpAnyH_to (i := 34) (v := undef) (a1 := ?xd34) rfl (by kernel_rfl) (by kernel_rfl) (by kernel_rfl) (fun _ _ _ h => h) (Or.inr ⟨by rfl, rfl⟩) (by assumption) ?hd34 ?zd34
        case hd34 => (go_simp; exact rfl)
        case zd34 =>
        refine wpAnyH_to (i := 35) (v := ?vd35) (a1 := ?xd35) rfl (by kernel_rfl) (by kernel_rfl) (by kernel_rfl) (fun _ _ _ h => h) (Or.inl ⟨by rfl, ?yd35⟩) (by assumption) ?hd35 ?zd35
        case yd35 => (intro w hSw; (try dsimp only at hSw); go_simp; try (with_reducible rfl))
        case hd35 => (go_simp; exact rfl)
        case zd35 =>
        refine wpAnyH_to (i := 36) (v := ?vd36) (a1 := ?xd36) rfl (by kernel_rfl) (by kernel_rfl) (by kernel_rfl) (fun _ _ _ h => h) (Or.inl ⟨by rfl, ?yd36⟩) (by assumption) ?hd36 ?zd36
        case yd36 => (intro w hSw; (try dsimp only at hSw); go_simp; try (with_reducible rfl))
        case hd36 => (go_simp; exact rfl)
        case zd36 =>
        refine wpAnyH_to (i := 37) (v := undef) (a1 := ?xd37) rfl (by kernel_rfl) (by kernel_rfl) (by kernel_rfl) (fun _ _ _ h => h) (Or.inr ⟨by rfl, rfl⟩) (by assumption) ?hd37 ?zd37
        case hd37 => (go_simp; exact rfl)
        case zd37 =>
        refine wpAnyH_to (i := 38) (v := undef) (a1 := ?xd38) rfl (by kernel_rfl) (by kernel_rfl) (by kernel_rfl) (fun _ _ _ h => h) (Or.inr ⟨by rfl, rfl⟩) (by assumption) ?hd38 ?zd38
        case hd38 => (go_simp; exact rfl)
        case zd38 =>
        refine wpAnyH_to (i := 39) (v := undef) (a1 := ?xd39) rfl (by kernel_rfl) (by kernel_rfl) (by kernel_rfl) (fun _ _ _ h => h) (Or.inr ⟨by rfl, rfl⟩) (by assumption) ?hd39 ?zd39
        case hd39 => (go_simp; exact rfl)
        case zd39 =>
        refine wpAnyH_to (i := 40) (v := undef) (a1 := ?xd40) rfl (by kernel_rfl) (by kernel_rfl) (by kernel_rfl) (fun _ _ _ h => h) (Or.inr ⟨by rfl, rfl⟩) (by assumption) ?hd40 ?zd40
        case hd40 => (go_simp; exact rfl)
        case zd40 =>
        refine wpAnyH_to (i := 41) (v := undef) (a1 := ?xd41) rfl (by kernel_rfl) (by kernel_rfl) (by kernel_rfl) (fun _ _ _ h => h) (Or.inr ⟨by rfl, rfl⟩) (by assumption) ?hd41 ?zd41
        case hd41 => (go_simp; exact rfl)
        case zd41 =>
        refine wpAnyH_to (i := 42) (v := undef) (a1 := ?xd42) rfl (by kernel_rfl) (by kernel_rfl) (by kernel_rfl) (fun _ _ _ h => h) (Or.inr ⟨by rfl, rfl⟩) (by assumption) ?hd42 ?zd42
        case hd42 => (go_simp; exact rfl)
        case zd42 =>
        refine wpAnyH_to (i := 43) (v := undef) (a1 := ?xd43) rfl (by kernel_rfl) (by kernel_rfl) (by kernel_rfl) (fun _ _ _ h => h) (Or.inr ⟨by rfl, rfl⟩) (by assumption) ?hd43 ?zd43
        case hd43 => (go_simp; exact rfl)
        case zd43 =>
        refine wpAnyH_to (i := 44) (v := undef) (a1 := ?xd44) rfl (by kernel_rfl) (by kernel_rfl) (by kernel_rfl) (fun _ _ _ h => h) (Or.inr ⟨by rfl, rfl⟩) (by assumption) ?hd44 ?zd44
        case hd44 => (go_simp; exact rfl)
        case zd44 =>
        refine wpAnyH_to (i := 45) (v := ?vd45) (a1 := ?xd45) rfl (by kernel_rfl) (by kernel_rfl) (by kernel_rfl) (fun _ _ _ h => h) (Or.inl ⟨by rfl, ?yd45⟩) (by assumption) ?hd45 ?zd45
        case yd45 => (intro w hSw; (try dsimp only at hSw); go_simp; try (with_reducible rfl))
        case hd45 => (go_simp; exact rfl)
        case zd45 =>
        refine wpAnyH_to (i := 46) (v := ?vd46) (a1 := ?xd46) rfl (by kernel_rfl) (by kernel_rfl) (by kernel_rfl) (fun _ _ _ h => h) (Or.inl ⟨by rfl, ?yd46⟩) (by assumption) ?hd46 ?zd46
        case yd46 => (intro w hSw; (try dsimp only at hSw); go_simp; try (with_reducible rfl))
        case hd46 => (go_simp; exact rfl)
        case zd46 =>
        refine wpAnyH_done (by kernel_rfl) ?_ _
        have H7 := hide (SB.out _ (by assumption))
        clear O1 O3 O4 O5 E1 E2 E3 E4 E5 K1 K2 K3 SK SB
        go_wp2_with fail
        go_ret
        rw [HR.out]
        exact ⟨rfl, H7.out.1.2.2⟩
      | true =>
        cases t4 with
        | false =>
          have HR : Hid (R = false) := hide (by rw [HAL.out]; simp)
          clear HAL
          refine wp_region_held_drew (S := (fun wx => wx.cell? ⟨w.heap.size, 0, none⟩ = some (.int .i64 a0) ∧ wx.cell? ⟨w.heap.size, 1, none⟩ = some v1 ∧ wx.cell? ⟨w.heap.size, 2, none⟩ = some v2 ∧ wx.cell? ⟨w.heap.size, 3, none⟩ = some v3 ∧ wx.cell? ⟨w.heap.size, 4, none⟩ = some v4 ∧ wx.cell? ⟨w.heap.size, 5, none⟩ = some v5 ∧ wx.cell? ⟨w.heap.size, 6, none⟩ = some (.int .i64 a6) ∧ wx.cell? ⟨w.heap.size, 7, none⟩ = some (.int .i64 a7) ∧ wx.cell? ⟨w.heap.size, 8, none⟩ = some (.int .i64 a8) ∧ wx.cell? ⟨w.heap.size + 1, 0, none⟩ = some (.int .i64 b0) ∧ wx.cell? ⟨w.heap.size + 1, 1, none⟩ = some u1 ∧ wx.cell? ⟨w.heap.size + 1, 2, none⟩ = some u2 ∧ wx.cell? ⟨w.heap.size + 1, 3, none⟩ = some u3 ∧ wx.cell? ⟨w.heap.size + 1, 4, none⟩ = some u4 ∧ wx.cell? ⟨w.heap.size + 1, 5, none⟩ = some u5 ∧ wx.cell? ⟨w.heap.size + 1, 6, none⟩ = some (.int .i64 b6) ∧ wx.cell? ⟨w.heap.size + 1, 7, none⟩ = some (.int .i64 b7) ∧ wx.cell? ⟨w.heap.size + 1, 8, none⟩ = some (.int .i64 b8) ∧ Hid (BoxS w #[.int .i64 a0, v1, v2, v3, v4, v5, .int .i64 a6, .int .i64 a7, .int .i64 a8] #[.int .i64 b0, u1, u2, u3, u4, u5, .int .i64 b6, .int .i64 b7, .int .i64 b8] N B0 (m2.map bl) wx))) (by kernel_rfl) (SK.out _ (HS.out.keep ((Below.refl _ _).drew))) (fun hHeld => ?_)
          refine wpAnyH_to (i := 0) (v := ?ve0) (a1 := ?xe0) rfl (by kernel_rfl) (by kernel_rfl) (by kernel_rfl) (fun _ _ _ h => h) (Or.inl ⟨by rfl, ?ye0⟩) (by assumption) ?he0 ?ze0
          case ye0 => (intro w hSw; (try dsimp only at hSw); go_simp; try (with_reducible rfl))
          case he0 => (go_simp; exact rfl)
          case ze0 =>
          refine wpAnyH_to (i := 1) (v := ?ve1) (a1 := ?xe1) rfl (by kernel_rfl) (by kernel_rfl) (by kernel_rfl) (fun _ _ _ h => h) (Or.inl ⟨by rfl, ?ye1⟩) (by assumption) ?he1 ?ze1
          case ye1 => (intro w hSw; (try dsimp only at hSw); go_simp; try (with_reducible rfl))
          case he1 => (go_simp; exact rfl)
          case ze1 =>
          refine wpAnyH_to (i := 2) (v := ?ve2) (a1 := ?xe2) rfl (by kernel_rfl) (by kernel_rfl) (by kernel_rfl) (fun _ _ _ h => h) (Or.inl ⟨by rfl, ?ye2⟩) (by assumption) ?he2 ?ze2
          case ye2 => (intro w hSw; (try dsimp only at hSw); go_simp; try (with_reducible rfl))
          case he2 => (go_simp; exact rfl)
          case ze2 =>
          refine wpAnyH_to (i := 3) (v := ?ve3) (a1 := ?xe3) rfl (by kernel_rfl) (by kernel_rfl) (by kernel_rfl) (fun _ _ _ h => h) (Or.inl ⟨by rfl, ?ye3⟩) (by assumption) ?he3 ?ze3
          case ye3 => (intro w hSw; (try dsimp only at hSw); go_simp; try (with_reducible rfl))
          case he3 => (go_simp; exact rfl)
          case ze3 =>
          refine wpAnyH_ready (rs := [4]) (by kernel_rfl) (by simp) ?_
          refine AllReadyH.cons rfl (fun K hK => ?_) AllReadyH.nil
          go_simp
          refine (O1.out _ (SB.out _ (by assumption))).mono ?_
          rintro e w6 ⟨Bq, rfl, HQ, h6⟩
          try go_wp2_with fail
          refine hK.out _ _ (SK.out _ (by assumption)) (fun hHeld2 => ?_)
          clear hK K hHeld
          have hHeld := hHeld2
          clear hHeld2
          refine wpAnyH_ready (rs := [5]) (by kernel_rfl) (by simp) ?_
          refine AllReadyH.cons rfl (fun K hK => ?_) AllReadyH.nil
          go_simp
          refine (E1.out _ _ (SB.out _ (by assumption)) (by assumption)).mono ?_
          rintro e w6 ⟨rfl, h6⟩
          try go_wp2_with fail
          refine hK.out _ _ (SK.out _ (by assumption)) (fun hHeld2 => ?_)
          clear hK K hHeld
          have hHeld := hHeld2
          clear hHeld2
          refine wpAnyH_to (i := 6) (v := ?ve6) (a1 := ?xe6) rfl (by kernel_rfl) (by kernel_rfl) (by kernel_rfl) (fun _ _ _ h => h) (Or.inl ⟨by rfl, ?ye6⟩) (by assumption) ?he6 ?ze6
          case ye6 => (intro w hSw; (try dsimp only at hSw); go_simp; try (with_reducible rfl))
          case he6 => (go_simp; exact rfl)
          case ze6 =>
          refine wpAnyH_to (i := 7) (v := ?ve7) (a1 := ?xe7) rfl (by kernel_rfl) (by kernel_rfl) (by kernel_rfl) (fun _ _ _ h => h) (Or.inl ⟨by rfl, ?ye7⟩) (by assumption) ?he7 ?ze7
          case ye7 => (intro w hSw; (try dsimp only at hSw); go_simp; try (with_reducible rfl))
          case he7 => (go_simp; exact rfl)
          case ze7 =>
          refine wpAnyH_to (i := 8) (v := ?ve8) (a1 := ?xe8) rfl (by kernel_rfl) (by kernel_rfl) (by kernel_rfl) (fun _ _ _ h => h) (Or.inl ⟨by rfl, ?ye8⟩) (by assumption) ?he8 ?ze8
          case ye8 => (intro w hSw; (try dsimp only at hSw); go_simp; try (with_reducible rfl))
          case he8 => (go_simp; exact rfl)
          case ze8 =>
          refine wpAnyH_to (i := 9) (v := ?ve9) (a1 := ?xe9) rfl (by kernel_rfl) (by kernel_rfl) (by kernel_rfl) (fun _ _ _ h => h) (Or.inl ⟨by rfl, ?ye9⟩) (by assumption) ?he9 ?ze9
          case ye9 => (intro w hSw; (try dsimp only at hSw); go_simp; try (with_reducible rfl))
          case he9 => (go_simp; exact rfl)
          case ze9 =>
          refine wpAnyH_ready (rs := [10]) (by kernel_rfl) (by simp) ?_
          refine AllReadyH.cons rfl (fun K hK => ?_) AllReadyH.nil
          go_simp
          refine (E2.out _ (SB.out _ (by assumption))).mono ?_
          rintro e w6 ⟨rfl, h6⟩
          try go_wp2_with fail
          refine hK.out _ _ (SK.out _ (by assumption)) (fun hHeld2 => ?_)
          clear hK K hHeld
          have hHeld := hHeld2
          clear hHeld2
          refine wpAnyH_to (i := 11) (v := ?ve11) (a1 := ?xe11) rfl (by kernel_rfl) (by kernel_rfl) (by kernel_rfl) (fun _ _ _ h => h) (Or.inl ⟨by rfl, ?ye11⟩) (by assumption) ?he11 ?ze11
          case ye11 => (intro w hSw; (try dsimp only at hSw); go_simp; try (with_reducible rfl))
          case he11 => (go_simp; exact rfl)
          case ze11 =>
          refine wpAnyH_to (i := 12) (v := ?ve12) (a1 := ?xe12) rfl (by kernel_rfl) (by kernel_rfl) (by kernel_rfl) (fun _ _ _ h => h) (Or.inl ⟨by rfl, ?ye12⟩) (by assumption) ?he12 ?ze12
          case ye12 => (intro w hSw; (try dsimp only at hSw); go_simp; try (with_reducible rfl))
          case he12 => (go_simp; exact rfl)
          case ze12 =>
          refine wpAnyH_to (i := 13) (v := ?ve13) (a1 := ?xe13) rfl (by kernel_rfl) (by kernel_rfl) (by kernel_rfl) (fun _ _ _ h => h) (Or.inl ⟨by rfl, ?ye13⟩) (by assumption) ?he13 ?ze13
          case ye13 => (intro w hSw; (try dsimp only at hSw); go_simp; try (with_reducible rfl))
          case he13 => (go_simp; exact rfl)
          case ze13 =>
          refine wpAnyH_to (i := 14) (v := ?ve14) (a1 := ?xe14) rfl (by kernel_rfl) (by kernel_rfl) (by kernel_rfl) (fun _ _ _ h => h) (Or.inl ⟨by rfl, ?ye14⟩) (by assumption) ?he14 ?ze14
          case ye14 => (intro w hSw; (try dsimp only at hSw); go_simp; try (with_reducible rfl))
          case he14 => (go_simp; exact rfl)
          case ze14 =>
          refine wpAnyH_to (i := 15) (v := ?ve15) (a1 := ?xe15) rfl (by kernel_rfl) (by kernel_rfl) (by kernel_rfl) (fun _ _ _ h => h) (Or.inl ⟨by rfl, ?ye15⟩) (by assumption) ?he15 ?ze15
          case ye15 => (intro w hSw; (try dsimp only at hSw); go_simp; try (with_reducible rfl))
          case he15 => (go_simp; exact rfl)
          case ze15 =>
          refine wpAnyH_to (i := 16) (v := ?ve16) (a1 := ?xe16) rfl (by kernel_rfl) (by kernel_rfl) (by kernel_rfl) (fun _ _ _ h => h) (Or.inl ⟨by rfl, ?ye16⟩) (by assumption) ?he16 ?ze16
          case ye16 => (intro w hSw; (try dsimp only at hSw); go_simp; try (with_reducible rfl))
          case he16 => (go_simp; exact rfl)
          case ze16 =>
          refine wpAnyH_ready (rs := [17]) (by kernel_rfl) (by simp) ?_
          refine AllReadyH.cons rfl (fun K hK => ?_) AllReadyH.nil
          go_simp
          refine (O3.out _ (SB.out _ (by assumption))).mono ?_
          rintro e w6 ⟨Bq, rfl, HQ, h6⟩
          try go_wp2_with fail
          refine hK.out _ _ (SK.out _ (by assumption)) (fun hHeld2 => ?_)
          clear hK K hHeld
          have hHeld := hHeld2
          clear hHeld2
          refine wpAnyH_ready (rs := [18]) (by kernel_rfl) (by simp) ?_
          refine AllReadyH.cons rfl (fun K hK => ?_) AllReadyH.nil
          go_simp
          refine (E3.out _ _ (SB.out _ (by assumption)) (by assumption)).mono ?_
          rintro e w6 ⟨rfl, h6⟩
          try go_wp2_with fail
          refine hK.out _ _ (SK.out _ (by assumption)) (fun hHeld2 => ?_)
          clear hK K hHeld
          have hHeld := hHeld2
          clear hHeld2
          refine wpAnyH_to (i := 19) (v := ?ve19) (a1 := ?xe19) rfl (by kernel_rfl) (by kernel_rfl) (by kernel_rfl) (fun _ _ _ h => h) (Or.inl ⟨by rfl, ?ye19⟩) (by assumption) ?he19 ?ze19
          case ye19 => (intro w hSw; (try dsimp only at hSw); go_simp; try (with_reducible rfl))
          case he19 => (go_simp; exact rfl)
          case ze19 =>
          refine wpAnyH_to (i := 20) (v := ?ve20) (a1 := ?xe20) rfl (by kernel_rfl) (by kernel_rfl) (by kernel_rfl) (fun _ _ _ h => h) (Or.inl ⟨by rfl, ?ye20⟩) (by assumption) ?he20 ?ze20
          case ye20 => (intro w hSw; (try dsimp only at hSw); go_simp; try (with_reducible rfl))
          case he20 => (go_simp; exact rfl)
          case ze20 =>
          refine wpAnyH_to (i := 21) (v := ?ve21) (a1 := ?xe21) rfl (by kernel_rfl) (by kernel_rfl) (by kernel_rfl) (fun _ _ _ h => h) (Or.inl ⟨by rfl, ?ye21⟩) (by assumption) ?he21 ?ze21
          case ye21 => (intro w hSw; (try dsimp only at hSw); go_simp; try (with_reducible rfl))
          case he21 => (go_simp; exact rfl)
          case ze21 =>
          refine wpAnyH_to (i := 22) (v := ?ve22) (a1 := ?xe22) rfl (by kernel_rfl) (by kernel_rfl) (by kernel_rfl) (fun _ _ _ h => h) (Or.inl ⟨by rfl, ?ye22⟩) (by assumption) ?he22 ?ze22
          case ye22 => (intro w hSw; (try dsimp only at hSw); go_simp; try (with_reducible rfl))
          case he22 => (go_simp; exact rfl)
          case ze22 =>
          refine wpAnyH_to (i := 23) (v := ?ve23) (a1 := ?xe23) rfl (by kernel_rfl) (by kernel_rfl) (by kernel_rfl) (fun _ _ _ h => h) (Or.inl ⟨by rfl, ?ye23⟩) (by assumption) ?he23 ?ze23
          case ye23 => (intro w hSw; (try dsimp only at hSw); go_simp; try (with_reducible rfl))
          case he23 => (go_simp; exact rfl)
          case ze23 =>
          refine wpAnyH_to (i := 24) (v := ?ve24) (a1 := ?xe24) rfl (by kernel_rfl) (by kernel_rfl) (by kernel_rfl) (fun _ _ _ h => h) (Or.inl ⟨by rfl, ?ye24⟩) (by assumption) ?he24 ?ze24
          case ye24 => (intro w hSw; (try dsimp only at hSw); go_simp; try (with_reducible rfl))
          case he24 => (go_simp; exact rfl)
          case ze24 =>
          refine wpAnyH_ready (rs := [25]) (by kernel_rfl) (by simp) ?_
          refine AllReadyH.cons rfl (fun K hK => ?_) AllReadyH.nil
          go_simp
          refine (O4.out _ (SB.out _ (by assumption))).mono ?_
          rintro e w6 ⟨Bq, rfl, HQ, h6⟩
          try go_wp2_with fail
          refine hK.out _ _ (SK.out _ (by assumption)) (fun hHeld2 => ?_)
          clear hK K hHeld
          have hHeld := hHeld2
          clear hHeld2
          refine wpAnyH_ready (rs := [26]) (by kernel_rfl) (by simp) ?_
          refine AllReadyH.cons rfl (fun K hK => ?_) AllReadyH.nil
          go_simp
          refine (E4.out _ _ (SB.out _ (by assumption)) (by assumption)).mono ?_
          rintro e w6 ⟨rfl, h6⟩
          try go_wp2_with fail
          refine hK.out _ _ (SK.out _ (by assumption)) (fun hHeld2 => ?_)
          clear hK K hHeld
          have hHeld := hHeld2
          clear hHeld2
          refine wpAnyH_to (i := 27) (v := ?ve27) (a1 := ?xe27) rfl (by kernel_rfl) (by kernel_rfl) (by kernel_rfl) (fun _ _ _ h => h) (Or.inl ⟨by rfl, ?ye27⟩) (by assumption) ?he27 ?ze27
          case ye27 => (intro w hSw; (try dsimp only at hSw); go_simp; try (with_reducible rfl))
          case he27 => (go_simp; exact rfl)
          case ze27 =>
          refine wpAnyH_to (i := 28) (v := ?ve28) (a1 := ?xe28) rfl (by kernel_rfl) (by kernel_rfl) (by kernel_rfl) (fun _ _ _ h => h) (Or.inl ⟨by rfl, ?ye28⟩) (by assumption) ?he28 ?ze28
          case ye28 => (intro w hSw; (try dsimp only at hSw); go_simp; try (with_reducible rfl))
          case he28 => (go_simp; exact rfl)
          case ze28 =>
          refine wpAnyH_to (i := 29) (v := undef) (a1 := ?xe29) rfl (by kernel_rfl) (by kernel_rfl) (by kernel_rfl) (fun _ _ _ h => h) (Or.inr ⟨by rfl, rfl⟩) (by assumption) ?he29 ?ze29
          case he29 => (go_simp; exact rfl)
          case ze29 =>
          refine wpAnyH_to (i := 30) (v := undef) (a1 := ?xe30) rfl (by kernel_rfl) (by kernel_rfl) (by kernel_rfl) (fun _ _ _ h => h) (Or.inr ⟨by rfl, rfl⟩) (by assumption) ?he30 ?ze30
          case he30 => (go_simp; exact rfl)
          case ze30 =>
          refine wpAnyH_to (i := 31) (v := undef) (a1 := ?xe31) rfl (by kernel_rfl) (by kernel_rfl) (by kernel_rfl) (fun _ _ _ h => h) (Or.inr ⟨by rfl, rfl⟩) (by assumption) ?he31 ?ze31
          case he31 => (go_simp; exact rfl)
          case ze31 =>
          refine wpAnyH_to (i := 32) (v := undef) (a1 := ?xe32) rfl (by kernel_rfl) (by kernel_rfl) (by kernel_rfl) (fun _ _ _ h => h) (Or.inr ⟨by rfl, rfl⟩) (by assumption) ?he32 ?ze32
          case he32 => (go_simp; exact rfl)
          case ze32 =>
          refine wpAnyH_to (i := 33) (v := undef) (a1 := ?xe33) rfl (by kernel_rfl) (by kernel_rfl) (by kernel_rfl) (fun _ _ _ h => h) (Or.inr ⟨by rfl, rfl⟩) (by assumption) ?he33 ?ze33
          case he33 => (go_simp; exact rfl)
          case ze33 =>
          refine wpAnyH_to (i := 34) (v := undef) (a1 := ?xe34) rfl (by kernel_rfl) (by kernel_rfl) (by kernel_rfl) (fun _ _ _ h => h) (Or.inr ⟨by rfl, rfl⟩) (by assumption) ?he34 ?ze34
          case he34 => (go_simp; exact rfl)
          case ze34 =>
          refine wpAnyH_to (i := 35) (v := ?ve35) (a1 := ?xe35) rfl (by kernel_rfl) (by kernel_rfl) (by kernel_rfl) (fun _ _ _ h => h) (Or.inl ⟨by rfl, ?ye35⟩) (by assumption) ?he35 ?ze35
          case ye35 => (intro w hSw; (try dsimp only at hSw); go_simp; try (with_reducible rfl))
          case he35 => (go_simp; exact rfl)
          case ze35 =>
          refine wpAnyH_to (i := 36) (v := ?ve36) (a1 := ?xe36) rfl (by kernel_rfl) (by kernel_rfl) (by kernel_rfl) (fun _ _ _ h => h) (Or.inl ⟨by rfl, ?ye36⟩) (by assumption) ?he36 ?ze36
          case ye36 => (intro w hSw; (try dsimp only at hSw); go_simp; try (with_reducible rfl))
          case he36 => (go_simp; exact rfl)
          case ze36 =>
          refine wpAnyH_to (i := 37) (v := undef) (a1 := ?xe37) rfl (by kernel_rfl) (by kernel_rfl) (by kernel_rfl) (fun _ _ _ h => h) (Or.inr ⟨by rfl, rfl⟩) (by assumption) ?he37 ?ze37
          case he37 => (go_simp; exact rfl)
          case ze37 =>
          refine wpAnyH_to (i := 38) (v := undef) (a1 := ?xe38) rfl (by kernel_rfl) (by kernel_rfl) (by kernel_rfl) (fun _ _ _ h => h) (Or.inr ⟨by rfl, rfl⟩) (by assumption) ?he38 ?ze38
          case he38 => (go_simp; exact rfl)
          case ze38 =>
          refine wpAnyH_to (i := 39) (v := undef) (a1 := ?xe39) rfl (by kernel_rfl) (by kernel_rfl) (by kernel_rfl) (fun _ _ _ h => h) (Or.inr ⟨by rfl, rfl⟩) (by assumption) ?he39 ?ze39
          case he39 => (go_simp; exact rfl)
          case ze39 =>
          refine wpAnyH_to (i := 40) (v := undef) (a1 := ?xe40) rfl (by kernel_rfl) (by kernel_rfl) (by kernel_rfl) (fun _ _ _ h => h) (Or.inr ⟨by rfl, rfl⟩) (by assumption) ?he40 ?ze40
          case he40 => (go_simp; exact rfl)
          case ze40 =>
          refine wpAnyH_to (i := 41) (v := undef) (a1 := ?xe41) rfl (by kernel_rfl) (by kernel_rfl) (by kernel_rfl) (fun _ _ _ h => h) (Or.inr ⟨by rfl, rfl⟩) (by assumption) ?he41 ?ze41
          case he41 => (go_simp; exact rfl)
          case ze41 =>
          refine wpAnyH_to (i := 42) (v := undef) (a1 := ?xe42) rfl (by kernel_rfl) (by kernel_rfl) (by kernel_rfl) (fun _ _ _ h => h) (Or.inr ⟨by rfl, rfl⟩) (by assumption) ?he42 ?ze42
          case he42 => (go_simp; exact rfl)
          case ze42 =>
          refine wpAnyH_to (i := 43) (v := undef) (a1 := ?xe43) rfl (by kernel_rfl) (by kernel_rfl) (by kernel_rfl) (fun _ _ _ h => h) (Or.inr ⟨by rfl, rfl⟩) (by assumption) ?he43 ?ze43
          case he43 => (go_simp; exact rfl)
          case ze43 =>
          refine wpAnyH_to (i := 44) (v := undef) (a1 := ?xe44) rfl (by kernel_rfl) (by kernel_rfl) (by kernel_rfl) (fun _ _ _ h => h) (Or.inr ⟨by rfl, rfl⟩) (by assumption) ?he44 ?ze44
          case he44 => (go_simp; exact rfl)
          case ze44 =>
          refine wpAnyH_to (i := 45) (v := ?ve45) (a1 := ?xe45) rfl (by kernel_rfl) (by kernel_rfl) (by kernel_rfl) (fun _ _ _ h => h) (Or.inl ⟨by rfl, ?ye45⟩) (by assumption) ?he45 ?ze45
          case ye45 => (intro w hSw; (try dsimp only at hSw); go_simp; try (with_reducible rfl))
          case he45 => (go_simp; exact rfl)
          case ze45 =>
          refine wpAnyH_to (i := 46) (v := ?ve46) (a1 := ?xe46) rfl (by kernel_rfl) (by kernel_rfl) (by kernel_rfl) (fun _ _ _ h => h) (Or.inl ⟨by rfl, ?ye46⟩) (by assumption) ?he46 ?ze46
          case ye46 => (intro w hSw; (try dsimp only at hSw); go_simp; try (with_reducible rfl))
          case he46 => (go_simp; exact rfl)
          case ze46 =>
          refine wpAnyH_done (by kernel_rfl) ?_ _
          have H7 := hide (SB.out _ (by assumption))
          clear O1 O3 O4 O5 E1 E2 E3 E4 E5 K1 K2 K3 SK SB
          go_wp2_with fail
          go_ret
          rw [HR.out]
          exact ⟨rfl, H7.out.1.2.2⟩
        | true =>
          cases t5 with
          | false =>
            have HR : Hid (R = false) := hide (by rw [HAL.out]; simp)
            clear HAL
            refine wp_region_held_drew (S := (fun wx => wx.cell? ⟨w.heap.size, 0, none⟩ = some (.int .i64 a0) ∧ wx.cell? ⟨w.heap.size, 1, none⟩ = some v1 ∧ wx.cell? ⟨w.heap.size, 2, none⟩ = some v2 ∧ wx.cell? ⟨w.heap.size, 3, none⟩ = some v3 ∧ wx.cell? ⟨w.heap.size, 4, none⟩ = some v4 ∧ wx.cell? ⟨w.heap.size, 5, none⟩ = some v5 ∧ wx.cell? ⟨w.heap.size, 6, none⟩ = some (.int .i64 a6) ∧ wx.cell? ⟨w.heap.size, 7, none⟩ = some (.int .i64 a7) ∧ wx.cell? ⟨w.heap.size, 8, none⟩ = some (.int .i64 a8) ∧ wx.cell? ⟨w.heap.size + 1, 0, none⟩ = some (.int .i64 b0) ∧ wx.cell? ⟨w.heap.size + 1, 1, none⟩ = some u1 ∧ wx.cell? ⟨w.heap.size + 1, 2, none⟩ = some u2 ∧ wx.cell? ⟨w.heap.size + 1, 3, none⟩ = some u3 ∧ wx.cell? ⟨w.heap.size + 1, 4, none⟩ = some u4 ∧ wx.cell? ⟨w.heap.size + 1, 5, none⟩ = some u5 ∧ wx.cell? ⟨w.heap.size + 1, 6, none⟩ = some (.int .i64 b6) ∧ wx.cell? ⟨w.heap.size + 1, 7, none⟩ = some (.int .i64 b7) ∧ wx.cell? ⟨w.heap.size + 1, 8, none⟩ = some (.int .i64 b8) ∧ Hid (BoxS w #[.int .i64 a0, v1, v2, v3, v4, v5, .int .i64 a6, .int .i64 a7, .int .i64 a8] #[.int .i64 b0, u1, u2, u3, u4, u5, .int .i64 b6, .int .i64 b7, .int .i64 b8] N B0 (m2.map bl) wx))) (by kernel_rfl) (SK.out _ (HS.out.keep ((Below.refl _ _).drew))) (fun hHeld => ?_)
            refine wpAnyH_to (i := 0) (v := ?vf0) (a1 := ?xf0) rfl (by kernel_rfl) (by kernel_rfl) (by kernel_rfl) (fun _ _ _ h => h) (Or.inl ⟨by rfl, ?yf0⟩) (by assumption) ?hf0 ?zf0
            case yf0 => (intro w hSw; (try dsimp only at hSw); go_simp; try (with_reducible rfl))
            case hf0 => (go_simp; exact rfl)
            case zf0 =>
            refine wpAnyH_to (i := 1) (v := ?vf1) (a1 := ?xf1) rfl (by kernel_rfl) (by kernel_rfl) (by kernel_rfl) (fun _ _ _ h => h) (Or.inl ⟨by rfl, ?yf1⟩) (by assumption) ?hf1 ?zf1
            case yf1 => (intro w hSw; (try dsimp only at hSw); go_simp; try (with_reducible rfl))
            case hf1 => (go_simp; exact rfl)
            case zf1 =>
            refine wpAnyH_to (i := 2) (v := ?vf2) (a1 := ?xf2) rfl (by kernel_rfl) (by kernel_rfl) (by kernel_rfl) (fun _ _ _ h => h) (Or.inl ⟨by rfl, ?yf2⟩) (by assumption) ?hf2 ?zf2
            case yf2 => (intro w hSw; (try dsimp only at hSw); go_simp; try (with_reducible rfl))
            case hf2 => (go_simp; exact rfl)
            case zf2 =>
            refine wpAnyH_to (i := 3) (v := ?vf3) (a1 := ?xf3) rfl (by kernel_rfl) (by kernel_rfl) (by kernel_rfl) (fun _ _ _ h => h) (Or.inl ⟨by rfl, ?yf3⟩) (by assumption) ?hf3 ?zf3
            case yf3 => (intro w hSw; (try dsimp only at hSw); go_simp; try (with_reducible rfl))
            case hf3 => (go_simp; exact rfl)
            case zf3 =>
            refine wpAnyH_ready (rs := [4]) (by kernel_rfl) (by simp) ?_
            refine AllReadyH.cons rfl (fun K hK => ?_) AllReadyH.nil
            go_simp
            refine (O1.out _ (SB.out _ (by assumption))).mono ?_
            rintro e w6 ⟨Bq, rfl, HQ, h6⟩
            try go_wp2_with fail
            refine hK.out _ _ (SK.out _ (by assumption)) (fun hHeld2 => ?_)
            clear hK K hHeld
            have hHeld := hHeld2
            clear hHeld2
            refine wpAnyH_ready (rs := [5]) (by kernel_rfl) (by simp) ?_
            refine AllReadyH.cons rfl (fun K hK => ?_) AllReadyH.nil
            go_simp
            refine (E1.out _ _ (SB.out _ (by assumption)) (by assumption)).mono ?_
            rintro e w6 ⟨rfl, h6⟩
            try go_wp2_with fail
            refine hK.out _ _ (SK.out _ (by assumption)) (fun hHeld2 => ?_)
            clear hK K hHeld
            have hHeld := hHeld2
            clear hHeld2
            refine wpAnyH_to (i := 6) (v := ?vf6) (a1 := ?xf6) rfl (by kernel_rfl) (by kernel_rfl) (by kernel_rfl) (fun _ _ _ h => h) (Or.inl ⟨by rfl, ?yf6⟩) (by assumption) ?hf6 ?zf6
            case yf6 => (intro w hSw; (try dsimp only at hSw); go_simp; try (with_reducible rfl))
            case hf6 => (go_simp; exact rfl)
            case zf6 =>
            refine wpAnyH_to (i := 7) (v := ?vf7) (a1 := ?xf7) rfl (by kernel_rfl) (by kernel_rfl) (by kernel_rfl) (fun _ _ _ h => h) (Or.inl ⟨by rfl, ?yf7⟩) (by assumption) ?hf7 ?zf7
            case yf7 => (intro w hSw; (try dsimp only at hSw); go_simp; try (with_reducible rfl))
            case hf7 => (go_simp; exact rfl)
            case zf7 =>
            refine wpAnyH_to (i := 8) (v := ?vf8) (a1 := ?xf8) rfl (by kernel_rfl) (by kernel_rfl) (by kernel_rfl) (fun _ _ _ h => h) (Or.inl ⟨by rfl, ?yf8⟩) (by assumption) ?hf8 ?zf8
            case yf8 => (intro w hSw; (try dsimp only at hSw); go_simp; try (with_reducible rfl))
            case hf8 => (go_simp; exact rfl)
            case zf8 =>
            refine wpAnyH_to (i := 9) (v := ?vf9) (a1 := ?xf9) rfl (by kernel_rfl) (by kernel_rfl) (by kernel_rfl) (fun _ _ _ h => h) (Or.inl ⟨by rfl, ?yf9⟩) (by assumption) ?hf9 ?zf9
            case yf9 => (intro w hSw; (try dsimp only at hSw); go_simp; try (with_reducible rfl))
            case hf9 => (go_simp; exact rfl)
            case zf9 =>
            refine wpAnyH_ready (rs := [10]) (by kernel_rfl) (by simp) ?_
            refine AllReadyH.cons rfl (fun K hK => ?_) AllReadyH.nil
            go_simp
            refine (E2.out _ (SB.out _ (by assumption))).mono ?_
            rintro e w6 ⟨rfl, h6⟩
            try go_wp2_with fail
            refine hK.out _ _ (SK.out _ (by assumption)) (fun hHeld2 => ?_)
            clear hK K hHeld
            have hHeld := hHeld2
            clear hHeld2
            refine wpAnyH_to (i := 11) (v := ?vf11) (a1 := ?xf11) rfl (by kernel_rfl) (by kernel_rfl) (by kernel_rfl) (fun _ _ _ h => h) (Or.inl ⟨by rfl, ?yf11⟩) (by assumption) ?hf11 ?zf11
            case yf11 => (intro w hSw; (try dsimp only at hSw); go_simp; try (with_reducible rfl))
            case hf11 => (go_simp; exact rfl)
            case zf11 =>
            refine wpAnyH_to (i := 12) (v := ?vf12) (a1 := ?xf12) rfl (by kernel_rfl) (by kernel_rfl) (by kernel_rfl) (fun _ _ _ h => h) (Or.inl ⟨by rfl, ?yf12⟩) (by assumption) ?hf12 ?zf12
            case yf12 => (intro w hSw; (try dsimp only at hSw); go_simp; try (with_reducible rfl))
            case hf12 => (go_simp; exact rfl)
            case zf12 =>
            refine wpAnyH_to (i := 13) (v := ?vf13) (a1 := ?xf13) rfl (by kernel_rfl) (by kernel_rfl) (by kernel_rfl) (fun _ _ _ h => h) (Or.inl ⟨by rfl, ?yf13⟩) (by assumption) ?hf13 ?zf13
            case yf13 => (intro w hSw; (try dsimp only at hSw); go_simp; try (with_reducible rfl))
            case hf13 => (go_simp; exact rfl)
            case zf13 =>
            refine wpAnyH_to (i := 14) (v := ?vf14) (a1 := ?xf14) rfl (by kernel_rfl) (by kernel_rfl) (by kernel_rfl) (fun _ _ _ h => h) (Or.inl ⟨by rfl, ?yf14⟩) (by assumption) ?hf14 ?zf14
            case yf14 => (intro w hSw; (try dsimp only at hSw); go_simp; try (with_reducible rfl))
            case hf14 => (go_simp; exact rfl)
            case zf14 =>
            refine wpAnyH_to (i := 15) (v := ?vf15) (a1 := ?xf15) rfl (by kernel_rfl) (by kernel_rfl) (by kernel_rfl) (fun _ _ _ h => h) (Or.inl ⟨by rfl, ?yf15⟩) (by assumption) ?hf15 ?zf15
            case yf15 => (intro w hSw; (try dsimp only at hSw); go_simp; try (with_reducible rfl))
            case hf15 => (go_simp; exact rfl)
            case zf15 =>
            refine wpAnyH_to (i := 16) (v := ?vf16) (a1 := ?xf16) rfl (by kernel_rfl) (by kernel_rfl) (by kernel_rfl) (fun _ _ _ h => h) (Or.inl ⟨by rfl, ?yf16⟩) (by assumption) ?hf16 ?zf16
            case yf16 => (intro w hSw; (try dsimp only at hSw); go_simp; try (with_reducible rfl))
            case hf16 => (go_simp; exact rfl)
            case zf16 =>
            refine wpAnyH_ready (rs := [17]) (by kernel_rfl) (by simp) ?_
            refine AllReadyH.cons rfl (fun K hK => ?_) AllReadyH.nil
            go_simp
            refine (O3.out _ (SB.out _ (by assumption))).mono ?_
            rintro e w6 ⟨Bq, rfl, HQ, h6⟩
            try go_wp2_with fail
            refine hK.out _ _ (SK.out _ (by assumption)) (fun hHeld2 => ?_)
            clear hK K hHeld
            have hHeld := hHeld2
            clear hHeld2
            refine wpAnyH_ready (rs := [18]) (by kernel_rfl) (by simp) ?_
            refine AllReadyH.cons rfl (fun K hK => ?_) AllReadyH.nil
            go_simp
            refine (E3.out _ _ (SB.out _ (by assumption)) (by assumption)).mono ?_
            rintro e w6 ⟨rfl, h6⟩
            try go_wp2_with fail
            refine hK.out _ _ (SK.out _ (by assumption)) (fun hHeld2 => ?_)
            clear hK K hHeld
            have hHeld := hHeld2
            clear hHeld2
            refine wpAnyH_to (i := 19) (v := ?vf19) (a1 := ?xf19) rfl (by kernel_rfl) (by kernel_rfl) (by kernel_rfl) (fun _ _ _ h => h) (Or.inl ⟨by rfl, ?yf19⟩) (by assumption) ?hf19 ?zf19
            case yf19 => (intro w hSw; (try dsimp only at hSw); go_simp; try (with_reducible rfl))
            case hf19 => (go_simp; exact rfl)
            case zf19 =>
            refine wpAnyH_to (i := 20) (v := ?vf20) (a1 := ?xf20) rfl (by kernel_rfl) (by kernel_rfl) (by kernel_rfl) (fun _ _ _ h => h) (Or.inl ⟨by rfl, ?yf20⟩) (by assumption) ?hf20 ?zf20
            case yf20 => (intro w hSw; (try dsimp only at hSw); go_simp; try (with_reducible rfl))
            case hf20 => (go_simp; exact rfl)
            case zf20 =>
            refine wpAnyH_to (i := 21) (v := ?vf21) (a1 := ?xf21) rfl (by kernel_rfl) (by kernel_rfl) (by kernel_rfl) (fun _ _ _ h => h) (Or.inl ⟨by rfl, ?yf21⟩) (by assumption) ?hf21 ?zf21
            case yf21 => (intro w hSw; (try dsimp only at hSw); go_simp; try (with_reducible rfl))
            case hf21 => (go_simp; exact rfl)
            case zf21 =>
            refine wpAnyH_to (i := 22) (v := ?vf22) (a1 := ?xf22) rfl (by kernel_rfl) (by kernel_rfl) (by kernel_rfl) (fun _ _ _ h => h) (Or.inl ⟨by rfl, ?yf22⟩) (by assumption) ?hf22 ?zf22
            case yf22 => (intro w hSw; (try dsimp only at hSw); go_simp; try (with_reducible rfl))
            case hf22 => (go_simp; exact rfl)
            case zf22 =>
            refine wpAnyH_to (i := 23) (v := ?vf23) (a1 := ?xf23) rfl (by kernel_rfl) (by kernel_rfl) (by kernel_rfl) (fun _ _ _ h => h) (Or.inl ⟨by rfl, ?yf23⟩) (by assumption) ?hf23 ?zf23
            case yf23 => (intro w hSw; (try dsimp only at hSw); go_simp; try (with_reducible rfl))
            case hf23 => (go_simp; exact rfl)
            case zf23 =>
            refine wpAnyH_to (i := 24) (v := ?vf24) (a1 := ?xf24) rfl (by kernel_rfl) (by kernel_rfl) (by kernel_rfl) (fun _ _ _ h => h) (Or.inl ⟨by rfl, ?yf24⟩) (by assumption) ?hf24 ?zf24
            case yf24 => (intro w hSw; (try dsimp only at hSw); go_simp; try (with_reducible rfl))
            case hf24 => (go_simp; exact rfl)
            case zf24 =>
            refine wpAnyH_ready (rs := [25]) (by kernel_rfl) (by simp) ?_
            refine AllReadyH.cons rfl (fun K hK => ?_) AllReadyH.nil
            go_simp
            refine (O4.out _ (SB.out _ (by assumption))).mono ?_
            rintro e w6 ⟨Bq, rfl, HQ, h6⟩
            try go_wp2_with fail
            refine hK.out _ _ (SK.out _ (by assumption)) (fun hHeld2 => ?_)
            clear hK K hHeld
            have hHeld := hHeld2
            clear hHeld2
            refine wpAnyH_ready (rs := [26]) (by kernel_rfl) (by simp) ?_
            refine AllReadyH.cons rfl (fun K hK => ?_) AllReadyH.nil
            go_simp
            refine (E4.out _ _ (SB.out _ (by assumption)) (by assumption)).mono ?_
            rintro e w6 ⟨rfl, h6⟩
            try go_wp2_with fail
            refine hK.out _ _ (SK.out _ (by assumption)) (fun hHeld2 => ?_)
            clear hK K hHeld
            have hHeld := hHeld2
            clear hHeld2
            refine wpAnyH_to (i := 27) (v := ?vf27) (a1 := ?xf27) rfl (by kernel_rfl) (by kernel_rfl) (by kernel_rfl) (fun _ _ _ h => h) (Or.inl ⟨by rfl, ?yf27⟩) (by assumption) ?hf27 ?zf27
            case yf27 => (intro w hSw; (try dsimp only at hSw); go_simp; try (with_reducible rfl))
            case hf27 => (go_simp; exact rfl)
            case zf27 =>
            refine wpAnyH_to (i := 28) (v := ?vf28) (a1 := ?xf28) rfl (by kernel_rfl) (by kernel_rfl) (by kernel_rfl) (fun _ _ _ h => h) (Or.inl ⟨by rfl, ?yf28⟩) (by assumption) ?hf28 ?zf28
            case yf28 => (intro w hSw; (try dsimp only at hSw); go_simp; try (with_reducible rfl))
            case hf28 => (go_simp; exact rfl)
            case zf28 =>
            refine wpAnyH_to (i := 29) (v := ?vf29) (a1 := ?xf29) rfl (by kernel_rfl) (by kernel_rfl) (by kernel_rfl) (fun _ _ _ h => h) (Or.inl ⟨by rfl, ?yf29⟩) (by assumption) ?hf29 ?zf29
            case yf29 => (intro w hSw; (try dsimp only at hSw); go_simp; try (with_reducible rfl))
            case hf29 => (go_simp; exact rfl)
            case zf29 =>
            refine wpAnyH_to (i := 30) (v := ?vf30) (a1 := ?xf30) rfl (by kernel_rfl) (by kernel_rfl) (by kernel_rfl) (fun _ _ _ h => h) (Or.inl ⟨by rfl, ?yf30⟩) (by assumption) ?hf30 ?zf30
            case yf30 => (intro w hSw; (try dsimp only at hSw); go_simp; try (with_reducible rfl))
            case hf30 => (go_simp; exact rfl)
            case zf30 =>
            refine wpAnyH_to (i := 31) (v := ?vf31) (a1 := ?xf31) rfl (by kernel_rfl) (by kernel_rfl) (by kernel_rfl) (fun _ _ _ h => h) (Or.inl ⟨by rfl, ?yf31⟩) (by assumption) ?hf31 ?zf31
            case yf31 => (intro w hSw; (try dsimp only at hSw); go_simp; try (with_reducible rfl))
            case hf31 => (go_simp; exact rfl)
            case zf31 =>
            refine wpAnyH_to (i := 32) (v := ?vf32) (a1 := ?xf32) rfl (by kernel_rfl) (by kernel_rfl) (by kernel_rfl) (fun _ _ _ h => h) (Or.inl ⟨by rfl, ?yf32⟩) (by assumption) ?hf32 ?zf32
            case yf32 => (intro w hSw; (try dsimp only at hSw); go_simp; try (with_reducible rfl))
            case hf32 => (go_simp; exact rfl)
            case zf32 =>
            refine wpAnyH_ready (rs := [33]) (by kernel_rfl) (by simp) ?_
            refine AllReadyH.cons rfl (fun K hK => ?_) AllReadyH.nil
            go_simp
            refine (O5.out _ (SB.out _ (by assumption))).mono ?_
            rintro e w6 ⟨Bq, rfl, HQ, h6⟩
            try go_wp2_with fail
            refine hK.out _ _ (SK.out _ (by assumption)) (fun hHeld2 => ?_)
            clear hK K hHeld
            have hHeld := hHeld2
            clear hHeld2
            refine wpAnyH_ready (rs := [34]) (by kernel_rfl) (by simp) ?_
            refine AllReadyH.cons rfl (fun K hK => ?_) AllReadyH.nil
            go_simp
            refine (E5.out _ _ (SB.out _ (by assumption)) (by assumption)).mono ?_
            rintro e w6 ⟨rfl, h6⟩
            try go_wp2_with fail
            refine hK.out _ _ (SK.out _ (by assumption)) (fun hHeld2 => ?_)
            clear hK K hHeld
            have hHeld := hHeld2
            clear hHeld2
            refine wpAnyH_to (i := 35) (v := ?vf35) (a1 := ?xf35) rfl (by kernel_rfl) (by kernel_rfl) (by kernel_rfl) (fun _ _ _ h => h) (Or.inl ⟨by rfl, ?yf35⟩) (by assumption) ?hf35 ?zf35
            case yf35 => (intro w hSw; (try dsimp only at hSw); go_simp; try (with_reducible rfl))
            case hf35 => (go_simp; exact rfl)
            case zf35 =>
            refine wpAnyH_to (i := 36) (v := ?vf36) (a1 := ?xf36) rfl (by kernel_rfl) (by kernel_rfl) (by kernel_rfl) (fun _ _ _ h => h) (Or.inl ⟨by rfl, ?yf36⟩) (by assumption) ?hf36 ?zf36
            case yf36 => (intro w hSw; (try dsimp only at hSw); go_simp; try (with_reducible rfl))
            case hf36 => (go_simp; exact rfl)
            case zf36 =>
            refine wpAnyH_to (i := 37) (v := undef) (a1 := ?xf37) rfl (by kernel_rfl) (by kernel_rfl) (by kernel_rfl) (fun _ _ _ h => h) (Or.inr ⟨by rfl, rfl⟩) (by assumption) ?hf37 ?zf37
            case hf37 => (go_simp; exact rfl)
            case zf37 =>
            refine wpAnyH_to (i := 38) (v := undef) (a1 := ?xf38) rfl (by kernel_rfl) (by kernel_rfl) (by kernel_rfl) (fun _ _ _ h => h) (Or.inr ⟨by rfl, rfl⟩) (by assumption) ?hf38 ?zf38
            case hf38 => (go_simp; exact rfl)
            case zf38 =>
            refine wpAnyH_to (i := 39) (v := undef) (a1 := ?xf39) rfl (by kernel_rfl) (by kernel_rfl) (by kernel_rfl) (fun _ _ _ h => h) (Or.inr ⟨by rfl, rfl⟩) (by assumption) ?hf39 ?zf39
            case hf39 => (go_simp; exact rfl)
            case zf39 =>
            refine wpAnyH_to (i := 40) (v := undef) (a1 := ?xf40) rfl (by kernel_rfl) (by kernel_rfl) (by kernel_rfl) (fun _ _ _ h => h) (Or.inr ⟨by rfl, rfl⟩) (by assumption) ?hf40 ?zf40
            case hf40 => (go_simp; exact rfl)
            case zf40 =>
            refine wpAnyH_to (i := 41) (v := undef) (a1 := ?xf41) rfl (by kernel_rfl) (by kernel_rfl) (by kernel_rfl) (fun _ _ _ h => h) (Or.inr ⟨by rfl, rfl⟩) (by assumption) ?hf41 ?zf41
            case hf41 => (go_simp; exact rfl)
            case zf41 =>
            refine wpAnyH_to (i := 42) (v := undef) (a1 := ?xf42) rfl (by kernel_rfl) (by kernel_rfl) (by kernel_rfl) (fun _ _ _ h => h) (Or.inr ⟨by rfl, rfl⟩) (by assumption) ?hf42 ?zf42
            case hf42 => (go_simp; exact rfl)
            case zf42 =>
            refine wpAnyH_to (i := 43) (v := undef) (a1 := ?xf43) rfl (by kernel_rfl) (by kernel_rfl) (by kernel_rfl) (fun _ _ _ h => h) (Or.inr ⟨by rfl, rfl⟩) (by assumption) ?hf43 ?zf43
            case hf43 => (go_simp; exact rfl)
            case zf43 =>
            refine wpAnyH_to (i := 44) (v := undef) (a1 := ?xf44) rfl (by kernel_rfl) (by kernel_rfl) (by kernel_rfl) (fun _ _ _ h => h) (Or.inr ⟨by rfl, rfl⟩) (by assumption) ?hf44 ?zf44
            case hf44 => (go_simp; exact rfl)
            case zf44 =>
            refine wpAnyH_to (i := 45) (v := ?vf45) (a1 := ?xf45) rfl (by kernel_rfl) (by kernel_rfl) (by kernel_rfl) (fun _ _ _ h => h) (Or.inl ⟨by rfl, ?yf45⟩) (by assumption) ?hf45 ?zf45
            case yf45 => (intro w hSw; (try dsimp only at hSw); go_simp; try (with_reducible rfl))
            case hf45 => (go_simp; exact rfl)
            case zf45 =>
            refine wpAnyH_to (i := 46) (v := ?vf46) (a1 := ?xf46) rfl (by kernel_rfl) (by kernel_rfl) (by kernel_rfl) (fun _ _ _ h => h) (Or.inl ⟨by rfl, ?yf46⟩) (by assumption) ?hf46 ?zf46
            case yf46 => (intro w hSw; (try dsimp only at hSw); go_simp; try (with_reducible rfl))
            case hf46 => (go_simp; exact rfl)
            case zf46 =>
            refine wpAnyH_done (by kernel_rfl) ?_ _
            have H7 := hide (SB.out _ (by assumption))
            clear O1 O3 O4 O5 E1 E2 E3 E4 E5 K1 K2 K3 SK SB
            go_wp2_with fail
            go_ret
            rw [HR.out]
            exact ⟨rfl, H7.out.1.2.2⟩
          | true =>
            cases h1 : (a6 == c6) with
            | false =>
              rw [h1] at HAL
              have HR : Hid (R = false) := hide (by rw [HAL.out]; simp)
              clear HAL
              refine wp_region_held_drew (S := (fun wx => wx.cell? ⟨w.heap.size, 0, none⟩ = some (.int .i64 a0) ∧ wx.cell? ⟨w.heap.size, 1, none⟩ = some v1 ∧ wx.cell? ⟨w.heap.size, 2, none⟩ = some v2 ∧ wx.cell? ⟨w.heap.size, 3, none⟩ = some v3 ∧ wx.cell? ⟨w.heap.size, 4, none⟩ = some v4 ∧ wx.cell? ⟨w.heap.size, 5, none⟩ = some v5 ∧ wx.cell? ⟨w.heap.size, 6, none⟩ = some (.int .i64 a6) ∧ wx.cell? ⟨w.heap.size, 7, none⟩ = some (.int .i64 a7) ∧ wx.cell? ⟨w.heap.size, 8, none⟩ = some (.int .i64 a8) ∧ wx.cell? ⟨w.heap.size + 1, 0, none⟩ = some (.int .i64 b0) ∧ wx.cell? ⟨w.heap.size + 1, 1, none⟩ = some u1 ∧ wx.cell? ⟨w.heap.size + 1, 2, none⟩ = some u2 ∧ wx.cell? ⟨w.heap.size + 1, 3, none⟩ = some u3 ∧ wx.cell? ⟨w.heap.size + 1, 4, none⟩ = some u4 ∧ wx.cell? ⟨w.heap.size + 1, 5, none⟩ = some u5 ∧ wx.cell? ⟨w.heap.size + 1, 6, none⟩ = some (.int .i64 b6) ∧ wx.cell? ⟨w.heap.size + 1, 7, none⟩ = some (.int .i64 b7) ∧ wx.cell? ⟨w.heap.size + 1, 8, none⟩ = some (.int .i64 b8) ∧ Hid (BoxS w #[.int .i64 a0, v1, v2, v3, v4, v5, .int .i64 a6, .int .i64 a7, .int .i64 a8] #[.int .i64 b0, u1, u2, u3, u4, u5, .int .i64 b6, .int .i64 b7, .int .i64 b8] N B0 (m2.map bl) wx))) (by kernel_rfl) (SK.out _ (HS.out.keep ((Below.refl _ _).drew))) (fun hHeld => ?_)
              refine wpAnyH_to (i := 0) (v := ?vg0) (a1 := ?xg0) rfl (by kernel_rfl) (by kernel_rfl) (by kernel_rfl) (fun _ _ _ h => h) (Or.inl ⟨by rfl, ?yg0⟩) (by assumption) ?hg0 ?zg0
              case yg0 => (intro w hSw; (try dsimp only at hSw); go_simp; try (with_reducible rfl))
              case hg0 => (go_simp; exact rfl)
              case zg0 =>
              refine wpAnyH_to (i := 1) (v := ?vg1) (a1 := ?xg1) rfl (by kernel_rfl) (by kernel_rfl) (by kernel_rfl) (fun _ _ _ h => h) (Or.inl ⟨by rfl, ?yg1⟩) (by assumption) ?hg1 ?zg1
              case yg1 => (intro w hSw; (try dsimp only at hSw); go_simp; try (with_reducible rfl))
              case hg1 => (go_simp; exact rfl)
              case zg1 =>
              refine wpAnyH_to (i := 2) (v := ?vg2) (a1 := ?xg2) rfl (by kernel_rfl) (by kernel_rfl) (by kernel_rfl) (fun _ _ _ h => h) (Or.inl ⟨by rfl, ?yg2⟩) (by assumption) ?hg2 ?zg2
              case yg2 => (intro w hSw; (try dsimp only at hSw); go_simp; try (with_reducible rfl))
              case hg2 => (go_simp; exact rfl)
              case zg2 =>
              refine wpAnyH_to (i := 3) (v := ?vg3) (a1 := ?xg3) rfl (by kernel_rfl) (by kernel_rfl) (by kernel_rfl) (fun _ _ _ h => h) (Or.inl ⟨by rfl, ?yg3⟩) (by assumption) ?hg3 ?zg3
              case yg3 => (intro w hSw; (try dsimp only at hSw); go_simp; try (with_reducible rfl))
              case hg3 => (go_simp; exact rfl)
              case zg3 =>
              refine wpAnyH_ready (rs := [4]) (by kernel_rfl) (by simp) ?_
              refine AllReadyH.cons rfl (fun K hK => ?_) AllReadyH.nil
              go_simp
              refine (O1.out _ (SB.out _ (by assumption))).mono ?_
              rintro e w6 ⟨Bq, rfl, HQ, h6⟩
              try go_wp2_with fail
              refine hK.out _ _ (SK.out _ (by assumption)) (fun hHeld2 => ?_)
              clear hK K hHeld
              have hHeld := hHeld2
              clear hHeld2
              refine wpAnyH_ready (rs := [5]) (by kernel_rfl) (by simp) ?_
              refine AllReadyH.cons rfl (fun K hK => ?_) AllReadyH.nil
              go_simp
              refine (E1.out _ _ (SB.out _ (by assumption)) (by assumption)).mono ?_
              rintro e w6 ⟨rfl, h6⟩
              try go_wp2_with fail
              refine hK.out _ _ (SK.out _ (by assumption)) (fun hHeld2 => ?_)
              clear hK K hHeld
              have hHeld := hHeld2
              clear hHeld2
              refine wpAnyH_to (i := 6) (v := ?vg6) (a1 := ?xg6) rfl (by kernel_rfl) (by kernel_rfl) (by kernel_rfl) (fun _ _ _ h => h) (Or.inl ⟨by rfl, ?yg6⟩) (by assumption) ?hg6 ?zg6
              case yg6 => (intro w hSw; (try dsimp only at hSw); go_simp; try (with_reducible rfl))
              case hg6 => (go_simp; exact rfl)
              case zg6 =>
              refine wpAnyH_to (i := 7) (v := ?vg7) (a1 := ?xg7) rfl (by kernel_rfl) (by kernel_rfl) (by kernel_rfl) (fun _ _ _ h => h) (Or.inl ⟨by rfl, ?yg7⟩) (by assumption) ?hg7 ?zg7
              case yg7 => (intro w hSw; (try dsimp only at hSw); go_simp; try (with_reducible rfl))
              case hg7 => (go_simp; exact rfl)
              case zg7 =>
              refine wpAnyH_to (i := 8) (v := ?vg8) (a1 := ?xg8) rfl (by kernel_rfl) (by kernel_rfl) (by kernel_rfl) (fun _ _ _ h => h) (Or.inl ⟨by rfl, ?yg8⟩) (by assumption) ?hg8 ?zg8
              case yg8 => (intro w hSw; (try dsimp only at hSw); go_simp; try (with_reducible rfl))
              case hg8 => (go_simp; exact rfl)
              case zg8 =>
              refine wpAnyH_to (i := 9) (v := ?vg9) (a1 := ?xg9) rfl (by kernel_rfl) (by kernel_rfl) (by kernel_rfl) (fun _ _ _ h => h) (Or.inl ⟨by rfl, ?yg9⟩) (by assumption) ?hg9 ?zg9
              case yg9 => (intro w hSw; (try dsimp only at hSw); go_simp; try (with_reducible rfl))
              case hg9 => (go_simp; exact rfl)
              case zg9 =>
              refine wpAnyH_ready (rs := [10]) (by kernel_rfl) (by simp) ?_
              refine AllReadyH.cons rfl (fun K hK => ?_) AllReadyH.nil
              go_simp
              refine (E2.out _ (SB.out _ (by assumption))).mono ?_
              rintro e w6 ⟨rfl, h6⟩
              try go_wp2_with fail
              refine hK.out _ _ (SK.out _ (by assumption)) (fun hHeld2 => ?_)
              clear hK K hHeld
              have hHeld := hHeld2
              clear hHeld2
              refine wpAnyH_to (i := 11) (v := ?vg11) (a1 := ?xg11) rfl (by kernel_rfl) (by kernel_rfl) (by kernel_rfl) (fun _ _ _ h => h) (Or.inl ⟨by rfl, ?yg11⟩) (by assumption) ?hg11 ?zg11
              case yg11 => (intro w hSw; (try dsimp only at hSw); go_simp; try (with_reducible rfl))
              case hg11 => (go_simp; exact rfl)
              case zg11 =>
              refine wpAnyH_to (i := 12) (v := ?vg12) (a1 := ?xg12) rfl (by kernel_rfl) (by kernel_rfl) (by kernel_rfl) (fun _ _ _ h => h) (Or.inl ⟨by rfl, ?yg12⟩) (by assumption) ?hg12 ?zg12
              case yg12 => (intro w hSw; (try dsimp only at hSw); go_simp; try (with_reducible rfl))
              case hg12 => (go_simp; exact rfl)
              case zg12 =>
              refine wpAnyH_to (i := 13) (v := ?vg13) (a1 := ?xg13) rfl (by kernel_rfl) (by kernel_rfl) (by kernel_rfl) (fun _ _ _ h => h) (Or.inl ⟨by rfl, ?yg13⟩) (by assumption) ?hg13 ?zg13
              case yg13 => (intro w hSw; (try dsimp only at hSw); go_simp; try (with_reducible rfl))
              case hg13 => (go_simp; exact rfl)
              case zg13 =>
              refine wpAnyH_to (i := 14) (v := ?vg14) (a1 := ?xg14) rfl (by kernel_rfl) (by kernel_rfl) (by kernel_rfl) (fun _ _ _ h => h) (Or.inl ⟨by rfl, ?yg14⟩) (by assumption) ?hg14 ?zg14
              case yg14 => (intro w hSw; (try dsimp only at hSw); go_simp; try (with_reducible rfl))
              case hg14 => (go_simp; exact rfl)
              case zg14 =>
              refine wpAnyH_to (i := 15) (v := ?vg15) (a1 := ?xg15) rfl (by kernel_rfl) (by kernel_rfl) (by kernel_rfl) (fun _ _ _ h => h) (Or.inl ⟨by rfl, ?yg15⟩) (by assumption) ?hg15 ?zg15
              case yg15 => (intro w hSw; (try dsimp only at hSw); go_simp; try (with_reducible rfl))
              case hg15 => (go_simp; exact rfl)
              case zg15 =>
              refine wpAnyH_to (i := 16) (v := ?vg16) (a1 := ?xg16) rfl (by kernel_rfl) (by kernel_rfl) (by kernel_rfl) (fun _ _ _ h => h) (Or.inl ⟨by rfl, ?yg16⟩) (by assumption) ?hg16 ?zg16
              case yg16 => (intro w hSw; (try dsimp only at hSw); go_simp; try (with_reducible rfl))
              case hg16 => (go_simp; exact rfl)
              case zg16 =>
              refine wpAnyH_ready (rs := [17]) (by kernel_rfl) (by simp) ?_
              refine AllReadyH.cons rfl (fun K hK => ?_) AllReadyH.nil
              go_simp
              refine (O3.out _ (SB.out _ (by assumption))).mono ?_
              rintro e w6 ⟨Bq, rfl, HQ, h6⟩
              try go_wp2_with fail
              refine hK.out _ _ (SK.out _ (by assumption)) (fun hHeld2 => ?_)
              clear hK K hHeld
              have hHeld := hHeld2
              clear hHeld2
              refine wpAnyH_ready (rs := [18]) (by kernel_rfl) (by simp) ?_
              refine AllReadyH.cons rfl (fun K hK => ?_) AllReadyH.nil
              go_simp
              refine (E3.out _ _ (SB.out _ (by assumption)) (by assumption)).mono ?_
              rintro e w6 ⟨rfl, h6⟩
              try go_wp2_with fail
              refine hK.out _ _ (SK.out _ (by assumption)) (fun hHeld2 => ?_)
              clear hK K hHeld
              have hHeld := hHeld2
              clear hHeld2
              refine wpAnyH_to (i := 19) (v := ?vg19) (a1 := ?xg19) rfl (by kernel_rfl) (by kernel_rfl) (by kernel_rfl) (fun _ _ _ h => h) (Or.inl ⟨by rfl, ?yg19⟩) (by assumption) ?hg19 ?zg19
              case yg19 => (intro w hSw; (try dsimp only at hSw); go_simp; try (with_reducible rfl))
              case hg19 => (go_simp; exact rfl)
              case zg19 =>
              refine wpAnyH_to (i := 20) (v := ?vg20) (a1 := ?xg20) rfl (by kernel_rfl) (by kernel_rfl) (by kernel_rfl) (fun _ _ _ h => h) (Or.inl ⟨by rfl, ?yg20⟩) (by assumption) ?hg20 ?zg20
              case yg20 => (intro w hSw; (try dsimp only at hSw); go_simp; try (with_reducible rfl))
              case hg20 => (go_simp; exact rfl)
              case zg20 =>
              refine wpAnyH_to (i := 21) (v := ?vg21) (a1 := ?xg21) rfl (by kernel_rfl) (by kernel_rfl) (by kernel_rfl) (fun _ _ _ h => h) (Or.inl ⟨by rfl, ?yg21⟩) (by assumption) ?hg21 ?zg21
              case yg21 => (intro w hSw; (try dsimp only at hSw); go_simp; try (with_reducible rfl))
              case hg21 => (go_simp; exact rfl)
              case zg21 =>
              refine wpAnyH_to (i := 22) (v := ?vg22) (a1 := ?xg22) rfl (by kernel_rfl) (by kernel_rfl) (by kernel_rfl) (fun _ _ _ h => h) (Or.inl ⟨by rfl, ?yg22⟩) (by assumption) ?hg22 ?zg22
              case yg22 => (intro w hSw; (try dsimp only at hSw); go_simp; try (with_reducible rfl))
              case hg22 => (go_simp; exact rfl)
              case zg22 =>
              refine wpAnyH_to (i := 23) (v := ?vg23) (a1 := ?xg23) rfl (by kernel_rfl) (by kernel_rfl) (by kernel_rfl) (fun _ _ _ h => h) (Or.inl ⟨by rfl, ?yg23⟩) (by assumption) ?hg23 ?zg23
              case yg23 => (intro w hSw; (try dsimp only at hSw); go_simp; try (with_reducible rfl))
              case hg23 => (go_simp; exact rfl)
              case zg23 =>
              refine wpAnyH_to (i := 24) (v := ?vg24) (a1 := ?xg24) rfl (by kernel_rfl) (by kernel_rfl) (by kernel_rfl) (fun _ _ _ h => h) (Or.inl ⟨by rfl, ?yg24⟩) (by assumption) ?hg24 ?zg24
              case yg24 => (intro w hSw; (try dsimp only at hSw); go_simp; try (with_reducible rfl))
              case hg24 => (go_simp; exact rfl)
              case zg24 =>
              refine wpAnyH_ready (rs := [25]) (by kernel_rfl) (by simp) ?_
              refine AllReadyH.cons rfl (fun K hK => ?_) AllReadyH.nil
              go_simp
              refine (O4.out _ (SB.out _ (by assumption))).mono ?_
              rintro e w6 ⟨Bq, rfl, HQ, h6⟩
              try go_wp2_with fail
              refine hK.out _ _ (SK.out _ (by assumption)) (fun hHeld2 => ?_)
              clear hK K hHeld
              have hHeld := hHeld2
              clear hHeld2
              refine wpAnyH_ready (rs := [26]) (by kernel_rfl) (by simp) ?_
              refine AllReadyH.cons rfl (fun K hK => ?_) AllReadyH.nil
              go_simp
              refine (E4.out _ _ (SB.out _ (by assumption)) (by assumption)).mono ?_
              rintro e w6 ⟨rfl, h6⟩
              try go_wp2_with fail
              refine hK.out _ _ (SK.out _ (by assumption)) (fun hHeld2 => ?_)
              clear hK K hHeld
              have hHeld := hHeld2
              clear hHeld2
              refine wpAnyH_to (i := 27) (v := ?vg27) (a1 := ?xg27) rfl (by kernel_rfl) (by kernel_rfl) (by kernel_rfl) (fun _ _ _ h => h) (Or.inl ⟨by rfl, ?yg27⟩) (by assumption) ?hg27 ?zg27
              case yg27 => (intro w hSw; (try dsimp only at hSw); go_simp; try (with_reducible rfl))
              case hg27 => (go_simp; exact rfl)
              case zg27 =>
              refine wpAnyH_to (i := 28) (v := ?vg28) (a1 := ?xg28) rfl (by kernel_rfl) (by kernel_rfl) (by kernel_rfl) (fun _ _ _ h => h) (Or.inl ⟨by rfl, ?yg28⟩) (by assumption) ?hg28 ?zg28
              case yg28 => (intro w hSw; (try dsimp only at hSw); go_simp; try (with_reducible rfl))
              case hg28 => (go_simp; exact rfl)
              case zg28 =>
              refine wpAnyH_to (i := 29) (v := ?vg29) (a1 := ?xg29) rfl (by kernel_rfl) (by kernel_rfl) (by kernel_rfl) (fun _ _ _ h => h) (Or.inl ⟨by rfl, ?yg29⟩) (by assumption) ?hg29 ?zg29
              case yg29 => (intro w hSw; (try dsimp only at hSw); go_simp; try (with_reducible rfl))
              case hg29 => (go_simp; exact rfl)
              case zg29 =>
              refine wpAnyH_to (i := 30) (v := ?vg30) (a1 := ?xg30) rfl (by kernel_rfl) (by kernel_rfl) (by kernel_rfl) (fun _ _ _ h => h) (Or.inl ⟨by rfl, ?yg30⟩) (by assumption) ?hg30 ?zg30
              case yg30 => (intro w hSw; (try dsimp only at hSw); go_simp; try (with_reducible rfl))
              case hg30 => (go_simp; exact rfl)
              case zg30 =>
              refine wpAnyH_to (i := 31) (v := ?vg31) (a1 := ?xg31) rfl (by kernel_rfl) (by kernel_rfl) (by kernel_rfl) (fun _ _ _ h => h) (Or.inl ⟨by rfl, ?yg31⟩) (by assumption) ?hg31 ?zg31
              case yg31 => (intro w hSw; (try dsimp only at hSw); go_simp; try (with_reducible rfl))
              case hg31 => (go_simp; exact rfl)
              case zg31 =>
              refine wpAnyH_to (i := 32) (v := ?vg32) (a1 := ?xg32) rfl (by kernel_rfl) (by kernel_rfl) (by kernel_rfl) (fun _ _ _ h => h) (Or.inl ⟨by rfl, ?yg32⟩) (by assumption) ?hg32 ?zg32
              case yg32 => (intro w hSw; (try dsimp only at hSw); go_simp; try (with_reducible rfl))
              case hg32 => (go_simp; exact rfl)
              case zg32 =>
              refine wpAnyH_ready (rs := [33]) (by kernel_rfl) (by simp) ?_
              refine AllReadyH.cons rfl (fun K hK => ?_) AllReadyH.nil
              go_simp
              refine (O5.out _ (SB.out _ (by assumption))).mono ?_
              rintro e w6 ⟨Bq, rfl, HQ, h6⟩
              try go_wp2_with fail
              refine hK.out _ _ (SK.out _ (by assumption)) (fun hHeld2 => ?_)
              clear hK K hHeld
              have hHeld := hHeld2
              clear hHeld2
              refine wpAnyH_ready (rs := [34]) (by kernel_rfl) (by simp) ?_
              refine AllReadyH.cons rfl (fun K hK => ?_) AllReadyH.nil
              go_simp
              refine (E5.out _ _ (SB.out _ (by assumption)) (by assumption)).mono ?_
              rintro e w6 ⟨rfl, h6⟩
              try go_wp2_with fail
              refine hK.out _ _ (SK.out _ (by assumption)) (fun hHeld2 => ?_)
              clear hK K hHeld
              have hHeld := hHeld2
              clear hHeld2
              refine wpAnyH_to (i := 35) (v := ?vg35) (a1 := ?xg35) rfl (by kernel_rfl) (by kernel_rfl) (by kernel_rfl) (fun _ _ _ h => h) (Or.inl ⟨by rfl, ?yg35⟩) (by assumption) ?hg35 ?zg35
              case yg35 => (intro w hSw; (try dsimp only at hSw); go_simp; try (with_reducible rfl))
              case hg35 => (go_simp; exact rfl)
              case zg35 =>
              refine wpAnyH_to (i := 36) (v := ?vg36) (a1 := ?xg36) rfl (by kernel_rfl) (by kernel_rfl) (by kernel_rfl) (fun _ _ _ h => h) (Or.inl ⟨by rfl, ?yg36⟩) (by assumption) ?hg36 ?zg36
              case yg36 => (intro w hSw; (try dsimp only at hSw); go_simp; try (with_reducible rfl))
              case hg36 => (go_simp; exact rfl)
              case zg36 =>
              refine wpAnyH_to (i := 37) (v := ?vg37) (a1 := ?xg37) rfl (by kernel_rfl) (by kernel_rfl) (by kernel_rfl) (fun _ _ _ h => h) (Or.inl ⟨by rfl, ?yg37⟩) (by assumption) ?hg37 ?zg37
              case yg37 => (intro w hSw; (try dsimp only at hSw); go_simp; try (with_reducible rfl))
              case hg37 => (go_simp; exact rfl)
              case zg37 =>
              refine wpAnyH_to (i := 39) (v := ?vg39) (a1 := ?xg39) rfl (by kernel_rfl) (by kernel_rfl) (by kernel_rfl) (fun _ _ _ h => h) (Or.inl ⟨by rfl, ?yg39⟩) (by assumption) ?hg39 ?zg39
              case yg39 => (intro w hSw; (try dsimp only at hSw); go_simp; try (with_reducible rfl))
              case hg39 => (go_simp; exact rfl)
              case zg39 =>
              refine wpAnyH_to (i := 41) (v := ?vg41) (a1 := ?xg41) rfl (by kernel_rfl) (by kernel_rfl) (by kernel_rfl) (fun _ _ _ h => h) (Or.inl ⟨by rfl, ?yg41⟩) (by assumption) ?hg41 ?zg41
              case yg41 => (intro w hSw; (try dsimp only at hSw); go_simp; try (with_reducible rfl))
              case hg41 => (go_simp; exact rfl)
              case zg41 =>
              refine wpAnyH_ready (rs := [38]) (by kernel_rfl) (by simp) ?_
              refine AllReadyH.cons rfl (fun K hK => ?_) AllReadyH.nil
              go_simp
              refine (K1.out _ (SB.out _ (by assumption))).mono ?_
              rintro e w6 ⟨rfl, h6⟩
              try go_wp2_with fail
              refine hK.out _ _ (SK.out _ (by assumption)) (fun hHeld2 => ?_)
              clear hK K hHeld
              have hHeld := hHeld2
              clear hHeld2
              refine wpAnyH_ready (rs := [40]) (by kernel_rfl) (by simp) ?_
              refine AllReadyH.cons rfl (fun K hK => ?_) AllReadyH.nil
              go_simp
              refine (K1.out _ (SB.out _ (by assumption))).mono ?_
              rintro e w6 ⟨rfl, h6⟩
              try go_wp2_with fail
              refine hK.out _ _ (SK.out _ (by assumption)) (fun hHeld2 => ?_)
              clear hK K hHeld
              have hHeld := hHeld2
              clear hHeld2
              refine wpAnyH_ready (rs := [42]) (by kernel_rfl) (by simp) ?_
              refine AllReadyH.cons rfl (fun K hK => ?_) AllReadyH.nil
              go_simp
              refine (K2.out _ (SB.out _ (by assumption))).mono ?_
              rintro e w6 ⟨rfl, h6⟩
              try go_wp2_with fail
              refine hK.out _ _ (SK.out _ (by assumption)) (fun hHeld2 => ?_)
              clear hK K hHeld
              have hHeld := hHeld2
              clear hHeld2
              refine wpAnyH_ready (rs := [43]) (by kernel_rfl) (by simp) ?_
              refine AllReadyH.cons rfl (fun K hK => ?_) AllReadyH.nil
              go_simp
              refine (K3.out _ (SB.out _ (by assumption))).mono ?_
              rintro e w6 ⟨rfl, h6⟩
              try go_wp2_with fail
              refine hK.out _ _ (SK.out _ (by assumption)) (fun hHeld2 => ?_)
              clear hK K hHeld
              have hHeld := hHeld2
              clear hHeld2
              refine wpAnyH_to (i := 44) (v := ?vg44) (a1 := ?xg44) rfl (by kernel_rfl) (by kernel_rfl) (by kernel_rfl) (fun _ _ _ h => h) (Or.inl ⟨by rfl, ?yg44⟩) (by assumption) ?hg44 ?zg44
              case yg44 => (intro w hSw; (try dsimp only at hSw); go_simp; try (with_reducible rfl))
              case hg44 => (go_simp; exact rfl)
              case zg44 =>
              refine wpAnyH_to (i := 45) (v := ?vg45) (a1 := ?xg45) rfl (by kernel_rfl) (by kernel_rfl) (by kernel_rfl) (fun _ _ _ h => h) (Or.inl ⟨by rfl, ?yg45⟩) (by assumption) ?hg45 ?zg45
              case yg45 => (intro w hSw; (try dsimp only at hSw); go_simp; try (with_reducible rfl))
              case hg45 => (go_simp; exact rfl)
              case zg45 =>
              refine wpAnyH_to (i := 46) (v := ?vg46) (a1 := ?xg46) rfl (by kernel_rfl) (by kernel_rfl) (by kernel_rfl) (fun _ _ _ h => h) (Or.inl ⟨by rfl, ?yg46⟩) (by assumption) ?hg46 ?zg46
              case yg46 => (intro w hSw; (try dsimp only at hSw); go_simp; try (with_reducible rfl))
              case hg46 => (go_simp; exact rfl)
              case zg46 =>
              refine wpAnyH_done (by kernel_rfl) ?_ _
              have H7 := hide (SB.out _ (by assumption))
              clear O1 O3 O4 O5 E1 E2 E3 E4 E5 K1 K2 K3 SK SB
              go_wp2_with fail
              go_ret
              rw [HR.out]
              exact ⟨rfl, H7.out.1.2.2⟩
            | true =>
              cases h2 : (a7 == c7) with
              | false =>
                rw [h1] at HAL
                rw [h2] at HAL
                have HR : Hid (R = false) := hide (by rw [HAL.out]; simp)
                clear HAL
                refine wp_region_held_drew (S := (fun wx => wx.cell? ⟨w.heap.size, 0, none⟩ = some (.int .i64 a0) ∧ wx.cell? ⟨w.heap.size, 1, none⟩ = some v1 ∧ wx.cell? ⟨w.heap.size, 2, none⟩ = some v2 ∧ wx.cell? ⟨w.heap.size, 3, none⟩ = some v3 ∧ wx.cell? ⟨w.heap.size, 4, none⟩ = some v4 ∧ wx.cell? ⟨w.heap.size, 5, none⟩ = some v5 ∧ wx.cell? ⟨w.heap.size, 6, none⟩ = some (.int .i64 a6) ∧ wx.cell? ⟨w.heap.size, 7, none⟩ = some (.int .i64 a7) ∧ wx.cell? ⟨w.heap.size, 8, none⟩ = some (.int .i64 a8) ∧ wx.cell? ⟨w.heap.size + 1, 0, none⟩ = some (.int .i64 b0) ∧ wx.cell? ⟨w.heap.size + 1, 1, none⟩ = some u1 ∧ wx.cell? ⟨w.heap.size + 1, 2, none⟩ = some u2 ∧ wx.cell? ⟨w.heap.size + 1, 3, none⟩ = some u3 ∧ wx.cell? ⟨w.heap.size + 1, 4, none⟩ = some u4 ∧ wx.cell? ⟨w.heap.size + 1, 5, none⟩ = some u5 ∧ wx.cell? ⟨w.heap.size + 1, 6, none⟩ = some (.int .i64 b6) ∧ wx.cell? ⟨w.heap.size + 1, 7, none⟩ = some (.int .i64 b7) ∧ wx.cell? ⟨w.heap.size + 1, 8, none⟩ = some (.int .i64 b8) ∧ Hid (BoxS w #[.int .i64 a0, v1, v2, v3, v4, v5, .int .i64 a6, .int .i64 a7, .int .i64 a8] #[.int .i64 b0, u1, u2, u3, u4, u5, .int .i64 b6, .int .i64 b7, .int .i64 b8] N B0 (m2.map bl) wx))) (by kernel_rfl) (SK.out _ (HS.out.keep ((Below.refl _ _).drew))) (fun hHeld => ?_)
                refine wpAnyH_to (i := 0) (v := ?vh0) (a1 := ?xh0) rfl (by kernel_rfl) (by kernel_rfl) (by kernel_rfl) (fun _ _ _ h => h) (Or.inl ⟨by rfl, ?yh0⟩) (by assumption) ?hh0 ?zh0
                case yh0 => (intro w hSw; (try dsimp only at hSw); go_simp; try (with_reducible rfl))
                case hh0 => (go_simp; exact rfl)
                case zh0 =>
                refine wpAnyH_to (i := 1) (v := ?vh1) (a1 := ?xh1) rfl (by kernel_rfl) (by kernel_rfl) (by kernel_rfl) (fun _ _ _ h => h) (Or.inl ⟨by rfl, ?yh1⟩) (by assumption) ?hh1 ?zh1
                case yh1 => (intro w hSw; (try dsimp only at hSw); go_simp; try (with_reducible rfl))
                case hh1 => (go_simp; exact rfl)
                case zh1 =>
                refine wpAnyH_to (i := 2) (v := ?vh2) (a1 := ?xh2) rfl (by kernel_rfl) (by kernel_rfl) (by kernel_rfl) (fun _ _ _ h => h) (Or.inl ⟨by rfl, ?yh2⟩) (by assumption) ?hh2 ?zh2
                case yh2 => (intro w hSw; (try dsimp only at hSw); go_simp; try (with_reducible rfl))
                case hh2 => (go_simp; exact rfl)
                case zh2 =>
                refine wpAnyH_to (i := 3) (v := ?vh3) (a1 := ?xh3) rfl (by kernel_rfl) (by kernel_rfl) (by kernel_rfl) (fun _ _ _ h => h) (Or.inl ⟨by rfl, ?yh3⟩) (by assumption) ?hh3 ?zh3
                case yh3 => (intro w hSw; (try dsimp only at hSw); go_simp; try (with_reducible rfl))
                case hh3 => (go_simp; exact rfl)
                case zh3 =>
                refine wpAnyH_ready (rs := [4]) (by kernel_rfl) (by simp) ?_
                refine AllReadyH.cons rfl (fun K hK => ?_) AllReadyH.nil
                go_simp
                refine (O1.out _ (SB.out _ (by assumption))).mono ?_
                rintro e w6 ⟨Bq, rfl, HQ, h6⟩
                try go_wp2_with fail
                refine hK.out _ _ (SK.out _ (by assumption)) (fun hHeld2 => ?_)
                clear hK K hHeld
                have hHeld := hHeld2
                clear hHeld2
                refine wpAnyH_ready (rs := [5]) (by kernel_rfl) (by simp) ?_
                refine AllReadyH.cons rfl (fun K hK => ?_) AllReadyH.nil
                go_simp
                refine (E1.out _ _ (SB.out _ (by assumption)) (by assumption)).mono ?_
                rintro e w6 ⟨rfl, h6⟩
                try go_wp2_with fail
                refine hK.out _ _ (SK.out _ (by assumption)) (fun hHeld2 => ?_)
                clear hK K hHeld
                have hHeld := hHeld2
                clear hHeld2
                refine wpAnyH_to (i := 6) (v := ?vh6) (a1 := ?xh6) rfl (by kernel_rfl) (by kernel_rfl) (by kernel_rfl) (fun _ _ _ h => h) (Or.inl ⟨by rfl, ?yh6⟩) (by assumption) ?hh6 ?zh6
                case yh6 => (intro w hSw; (try dsimp only at hSw); go_simp; try (with_reducible rfl))
                case hh6 => (go_simp; exact rfl)
                case zh6 =>
                refine wpAnyH_to (i := 7) (v := ?vh7) (a1 := ?xh7) rfl (by kernel_rfl) (by kernel_rfl) (by kernel_rfl) (fun _ _ _ h => h) (Or.inl ⟨by rfl, ?yh7⟩) (by assumption) ?hh7 ?zh7
                case yh7 => (intro w hSw; (try dsimp only at hSw); go_simp; try (with_reducible rfl))
                case hh7 => (go_simp; exact rfl)
                case zh7 =>
                refine wpAnyH_to (i := 8) (v := ?vh8) (a1 := ?xh8) rfl (by kernel_rfl) (by kernel_rfl) (by kernel_rfl) (fun _ _ _ h => h) (Or.inl ⟨by rfl, ?yh8⟩) (by assumption) ?hh8 ?zh8
                case yh8 => (intro w hSw; (try dsimp only at hSw); go_simp; try (with_reducible rfl))
                case hh8 => (go_simp; exact rfl)
                case zh8 =>
                refine wpAnyH_to (i := 9) (v := ?vh9) (a1 := ?xh9) rfl (by kernel_rfl) (by kernel_rfl) (by kernel_rfl) (fun _ _ _ h => h) (Or.inl ⟨by rfl, ?yh9⟩) (by assumption) ?hh9 ?zh9
                case yh9 => (intro w hSw; (try dsimp only at hSw); go_simp; try (with_reducible rfl))
                case hh9 => (go_simp; exact rfl)
                case zh9 =>
                refine wpAnyH_ready (rs := [10]) (by kernel_rfl) (by simp) ?_
                refine AllReadyH.cons rfl (fun K hK => ?_) AllReadyH.nil
                go_simp
                refine (E2.out _ (SB.out _ (by assumption))).mono ?_
                rintro e w6 ⟨rfl, h6⟩
                try go_wp2_with fail
                refine hK.out _ _ (SK.out _ (by assumption)) (fun hHeld2 => ?_)
                clear hK K hHeld
                have hHeld := hHeld2
                clear hHeld2
                refine wpAnyH_to (i := 11) (v := ?vh11) (a1 := ?xh11) rfl (by kernel_rfl) (by kernel_rfl) (by kernel_rfl) (fun _ _ _ h => h) (Or.inl ⟨by rfl, ?yh11⟩) (by assumption) ?hh11 ?zh11
                case yh11 => (intro w hSw; (try dsimp only at hSw); go_simp; try (with_reducible rfl))
                case hh11 => (go_simp; exact rfl)
                case zh11 =>
                refine wpAnyH_to (i := 12) (v := ?vh12) (a1 := ?xh12) rfl (by kernel_rfl) (by kernel_rfl) (by kernel_rfl) (fun _ _ _ h => h) (Or.inl ⟨by rfl, ?yh12⟩) (by assumption) ?hh12 ?zh12
                case yh12 => (intro w hSw; (try dsimp only at hSw); go_simp; try (with_reducible rfl))
                case hh12 => (go_simp; exact rfl)
                case zh12 =>
                refine wpAnyH_to (i := 13) (v := ?vh13) (a1 := ?xh13) rfl (by kernel_rfl) (by kernel_rfl) (by kernel_rfl) (fun _ _ _ h => h) (Or.inl ⟨by rfl, ?yh13⟩) (by assumption) ?hh13 ?zh13
                case yh13 => (intro w hSw; (try dsimp only at hSw); go_simp; try (with_reducible rfl))
                case hh13 => (go_simp; exact rfl)
                case zh13 =>
                refine wpAnyH_to (i := 14) (v := ?vh14) (a1 := ?xh14) rfl (by kernel_rfl) (by kernel_rfl) (by kernel_rfl) (fun _ _ _ h => h) (Or.inl ⟨by rfl, ?yh14⟩) (by assumption) ?hh14 ?zh14
                case yh14 => (intro w hSw; (try dsimp only at hSw); go_simp; try (with_reducible rfl))
                case hh14 => (go_simp; exact rfl)
                case zh14 =>
                refine wpAnyH_to (i := 15) (v := ?vh15) (a1 := ?xh15) rfl (by kernel_rfl) (by kernel_rfl) (by kernel_rfl) (fun _ _ _ h => h) (Or.inl ⟨by rfl, ?yh15⟩) (by assumption) ?hh15 ?zh15
                case yh15 => (intro w hSw; (try dsimp only at hSw); go_simp; try (with_reducible rfl))
                case hh15 => (go_simp; exact rfl)
                case zh15 =>
                refine wpAnyH_to (i := 16) (v := ?vh16) (a1 := ?xh16) rfl (by kernel_rfl) (by kernel_rfl) (by kernel_rfl) (fun _ _ _ h => h) (Or.inl ⟨by rfl, ?yh16⟩) (by assumption) ?hh16 ?zh16
                case yh16 => (intro w hSw; (try dsimp only at hSw); go_simp; try (with_reducible rfl))
                case hh16 => (go_simp; exact rfl)
                case zh16 =>
                refine wpAnyH_ready (rs := [17]) (by kernel_rfl) (by simp) ?_
                refine AllReadyH.cons rfl (fun K hK => ?_) AllReadyH.nil
                go_simp
                refine (O3.out _ (SB.out _ (by assumption))).mono ?_
                rintro e w6 ⟨Bq, rfl, HQ, h6⟩
                try go_wp2_with fail
                refine hK.out _ _ (SK.out _ (by assumption)) (fun hHeld2 => ?_)
                clear hK K hHeld
                have hHeld := hHeld2
                clear hHeld2
                refine wpAnyH_ready (rs := [18]) (by kernel_rfl) (by simp) ?_
                refine AllReadyH.cons rfl (fun K hK => ?_) AllReadyH.nil
                go_simp
                refine (E3.out _ _ (SB.out _ (by assumption)) (by assumption)).mono ?_
                rintro e w6 ⟨rfl, h6⟩
                try go_wp2_with fail
                refine hK.out _ _ (SK.out _ (by assumption)) (fun hHeld2 => ?_)
                clear hK K hHeld
                have hHeld := hHeld2
                clear hHeld2
                refine wpAnyH_to (i := 19) (v := ?vh19) (a1 := ?xh19) rfl (by kernel_rfl) (by kernel_rfl) (by kernel_rfl) (fun _ _ _ h => h) (Or.inl ⟨by rfl, ?yh19⟩) (by assumption) ?hh19 ?zh19
                case yh19 => (intro w hSw; (try dsimp only at hSw); go_simp; try (with_reducible rfl))
                case hh19 => (go_simp; exact rfl)
                case zh19 =>
                refine wpAnyH_to (i := 20) (v := ?vh20) (a1 := ?xh20) rfl (by kernel_rfl) (by kernel_rfl) (by kernel_rfl) (fun _ _ _ h => h) (Or.inl ⟨by rfl, ?yh20⟩) (by assumption) ?hh20 ?zh20
                case yh20 => (intro w hSw; (try dsimp only at hSw); go_simp; try (with_reducible rfl))
                case hh20 => (go_simp; exact rfl)
                case zh20 =>
                refine wpAnyH_to (i := 21) (v := ?vh21) (a1 := ?xh21) rfl (by kernel_rfl) (by kernel_rfl) (by kernel_rfl) (fun _ _ _ h => h) (Or.inl ⟨by rfl, ?yh21⟩) (by assumption) ?hh21 ?zh21
                case yh21 => (intro w hSw; (try dsimp only at hSw); go_simp; try (with_reducible rfl))
                case hh21 => (go_simp; exact rfl)
                case zh21 =>
                refine wpAnyH_to (i := 22) (v := ?vh22) (a1 := ?xh22) rfl (by kernel_rfl) (by kernel_rfl) (by kernel_rfl) (fun _ _ _ h => h) (Or.inl ⟨by rfl, ?yh22⟩) (by assumption) ?hh22 ?zh22
                case yh22 => (intro w hSw; (try dsimp only at hSw); go_simp; try (with_reducible rfl))
                case hh22 => (go_simp; exact rfl)
                case zh22 =>
                refine wpAnyH_to (i := 23) (v := ?vh23) (a1 := ?xh23) rfl (by kernel_rfl) (by kernel_rfl) (by kernel_rfl) (fun _ _ _ h => h) (Or.inl ⟨by rfl, ?yh23⟩) (by assumption) ?hh23 ?zh23
                case yh23 => (intro w hSw; (try dsimp only at hSw); go_simp; try (with_reducible rfl))
                case hh23 => (go_simp; exact rfl)
                case zh23 =>
                refine wpAnyH_to (i := 24) (v := ?vh24) (a1 := ?xh24) rfl (by kernel_rfl) (by kernel_rfl) (by kernel_rfl) (fun _ _ _ h => h) (Or.inl ⟨by rfl, ?yh24⟩) (by assumption) ?hh24 ?zh24
                case yh24 => (intro w hSw; (try dsimp only at hSw); go_simp; try (with_reducible rfl))
                case hh24 => (go_simp; exact rfl)
                case zh24 =>
                refine wpAnyH_ready (rs := [25]) (by kernel_rfl) (by simp) ?_
                refine AllReadyH.cons rfl (fun K hK => ?_) AllReadyH.nil
                go_simp
                refine (O4.out _ (SB.out _ (by assumption))).mono ?_
                rintro e w6 ⟨Bq, rfl, HQ, h6⟩
                try go_wp2_with fail
                refine hK.out _ _ (SK.out _ (by assumption)) (fun hHeld2 => ?_)
                clear hK K hHeld
                have hHeld := hHeld2
                clear hHeld2
                refine wpAnyH_ready (rs := [26]) (by kernel_rfl) (by simp) ?_
                refine AllReadyH.cons rfl (fun K hK => ?_) AllReadyH.nil
                go_simp
                refine (E4.out _ _ (SB.out _ (by assumption)) (by assumption)).mono ?_
                rintro e w6 ⟨rfl, h6⟩
                try go_wp2_with fail
                refine hK.out _ _ (SK.out _ (by assumption)) (fun hHeld2 => ?_)
                clear hK K hHeld
                have hHeld := hHeld2
                clear hHeld2
                refine wpAnyH_to (i := 27) (v := ?vh27) (a1 := ?xh27) rfl (by kernel_rfl) (by kernel_rfl) (by kernel_rfl) (fun _ _ _ h => h) (Or.inl ⟨by rfl, ?yh27⟩) (by assumption) ?hh27 ?zh27
                case yh27 => (intro w hSw; (try dsimp only at hSw); go_simp; try (with_reducible rfl))
                case hh27 => (go_simp; exact rfl)
                case zh27 =>
                refine wpAnyH_to (i := 28) (v := ?vh28) (a1 := ?xh28) rfl (by kernel_rfl) (by kernel_rfl) (by kernel_rfl) (fun _ _ _ h => h) (Or.inl ⟨by rfl, ?yh28⟩) (by assumption) ?hh28 ?zh28
                case yh28 => (intro w hSw; (try dsimp only at hSw); go_simp; try (with_reducible rfl))
                case hh28 => (go_simp; exact rfl)
                case zh28 =>
                refine wpAnyH_to (i := 29) (v := ?vh29) (a1 := ?xh29) rfl (by kernel_rfl) (by kernel_rfl) (by kernel_rfl) (fun _ _ _ h => h) (Or.inl ⟨by rfl, ?yh29⟩) (by assumption) ?hh29 ?zh29
                case yh29 => (intro w hSw; (try dsimp only at hSw); go_simp; try (with_reducible rfl))
                case hh29 => (go_simp; exact rfl)
                case zh29 =>
                refine wpAnyH_to (i := 30) (v := ?vh30) (a1 := ?xh30) rfl (by kernel_rfl) (by kernel_rfl) (by kernel_rfl) (fun _ _ _ h => h) (Or.inl ⟨by rfl, ?yh30⟩) (by assumption) ?hh30 ?zh30
                case yh30 => (intro w hSw; (try dsimp only at hSw); go_simp; try (with_reducible rfl))
                case hh30 => (go_simp; exact rfl)
                case zh30 =>
                refine wpAnyH_to (i := 31) (v := ?vh31) (a1 := ?xh31) rfl (by kernel_rfl) (by kernel_rfl) (by kernel_rfl) (fun _ _ _ h => h) (Or.inl ⟨by rfl, ?yh31⟩) (by assumption) ?hh31 ?zh31
                case yh31 => (intro w hSw; (try dsimp only at hSw); go_simp; try (with_reducible rfl))
                case hh31 => (go_simp; exact rfl)
                case zh31 =>
                refine wpAnyH_to (i := 32) (v := ?vh32) (a1 := ?xh32) rfl (by kernel_rfl) (by kernel_rfl) (by kernel_rfl) (fun _ _ _ h => h) (Or.inl ⟨by rfl, ?yh32⟩) (by assumption) ?hh32 ?zh32
                case yh32 => (intro w hSw; (try dsimp only at hSw); go_simp; try (with_reducible rfl))
                case hh32 => (go_simp; exact rfl)
                case zh32 =>
                refine wpAnyH_ready (rs := [33]) (by kernel_rfl) (by simp) ?_
                refine AllReadyH.cons rfl (fun K hK => ?_) AllReadyH.nil
                go_simp
                refine (O5.out _ (SB.out _ (by assumption))).mono ?_
                rintro e w6 ⟨Bq, rfl, HQ, h6⟩
                try go_wp2_with fail
                refine hK.out _ _ (SK.out _ (by assumption)) (fun hHeld2 => ?_)
                clear hK K hHeld
                have hHeld := hHeld2
                clear hHeld2
                refine wpAnyH_ready (rs := [34]) (by kernel_rfl) (by simp) ?_
                refine AllReadyH.cons rfl (fun K hK => ?_) AllReadyH.nil
                go_simp
                refine (E5.out _ _ (SB.out _ (by assumption)) (by assumption)).mono ?_
                rintro e w6 ⟨rfl, h6⟩
                try go_wp2_with fail
                refine hK.out _ _ (SK.out _ (by assumption)) (fun hHeld2 => ?_)
                clear hK K hHeld
                have hHeld := hHeld2
                clear hHeld2
                refine wpAnyH_to (i := 35) (v := ?vh35) (a1 := ?xh35) rfl (by kernel_rfl) (by kernel_rfl) (by kernel_rfl) (fun _ _ _ h => h) (Or.inl ⟨by rfl, ?yh35⟩) (by assumption) ?hh35 ?zh35
                case yh35 => (intro w hSw; (try dsimp only at hSw); go_simp; try (with_reducible rfl))
                case hh35 => (go_simp; exact rfl)
                case zh35 =>
                refine wpAnyH_to (i := 36) (v := ?vh36) (a1 := ?xh36) rfl (by kernel_rfl) (by kernel_rfl) (by kernel_rfl) (fun _ _ _ h => h) (Or.inl ⟨by rfl, ?yh36⟩) (by assumption) ?hh36 ?zh36
                case yh36 => (intro w hSw; (try dsimp only at hSw); go_simp; try (with_reducible rfl))
                case hh36 => (go_simp; exact rfl)
                case zh36 =>
                refine wpAnyH_to (i := 37) (v := ?vh37) (a1 := ?xh37) rfl (by kernel_rfl) (by kernel_rfl) (by kernel_rfl) (fun _ _ _ h => h) (Or.inl ⟨by rfl, ?yh37⟩) (by assumption) ?hh37 ?zh37
                case yh37 => (intro w hSw; (try dsimp only at hSw); go_simp; try (with_reducible rfl))
                case hh37 => (go_simp; exact rfl)
                case zh37 =>
                refine wpAnyH_to (i := 39) (v := ?vh39) (a1 := ?xh39) rfl (by kernel_rfl) (by kernel_rfl) (by kernel_rfl) (fun _ _ _ h => h) (Or.inl ⟨by rfl, ?yh39⟩) (by assumption) ?hh39 ?zh39
                case yh39 => (intro w hSw; (try dsimp only at hSw); go_simp; try (with_reducible rfl))
                case hh39 => (go_simp; exact rfl)
                case zh39 =>
                refine wpAnyH_to (i := 41) (v := ?vh41) (a1 := ?xh41) rfl (by kernel_rfl) (by kernel_rfl) (by kernel_rfl) (fun _ _ _ h => h) (Or.inl ⟨by rfl, ?yh41⟩) (by assumption) ?hh41 ?zh41
                case yh41 => (intro w hSw; (try dsimp only at hSw); go_simp; try (with_reducible rfl))
                case hh41 => (go_simp; exact rfl)
                case zh41 =>
                refine wpAnyH_ready (rs := [38]) (by kernel_rfl) (by simp) ?_
                refine AllReadyH.cons rfl (fun K hK => ?_) AllReadyH.nil
                go_simp
                refine (K1.out _ (SB.out _ (by assumption))).mono ?_
                rintro e w6 ⟨rfl, h6⟩
                try go_wp2_with fail
                refine hK.out _ _ (SK.out _ (by assumption)) (fun hHeld2 => ?_)
                clear hK K hHeld
                have hHeld := hHeld2
                clear hHeld2
                refine wpAnyH_ready (rs := [40]) (by kernel_rfl) (by simp) ?_
                refine AllReadyH.cons rfl (fun K hK => ?_) AllReadyH.nil
                go_simp
                refine (K1.out _ (SB.out _ (by assumption))).mono ?_
                rintro e w6 ⟨rfl, h6⟩
                try go_wp2_with fail
                refine hK.out _ _ (SK.out _ (by assumption)) (fun hHeld2 => ?_)
                clear hK K hHeld
                have hHeld := hHeld2
                clear hHeld2
                refine wpAnyH_ready (rs := [42]) (by kernel_rfl) (by simp) ?_
                refine AllReadyH.cons rfl (fun K hK => ?_) AllReadyH.nil
                go_simp
                refine (K2.out _ (SB.out _ (by assumption))).mono ?_
                rintro e w6 ⟨rfl, h6⟩
                try go_wp2_with fail
                refine hK.out _ _ (SK.out _ (by assumption)) (fun hHeld2 => ?_)
                clear hK K hHeld
                have hHeld := hHeld2
                clear hHeld2
                refine wpAnyH_ready (rs := [43]) (by kernel_rfl) (by simp) ?_
                refine AllReadyH.cons rfl (fun K hK => ?_) AllReadyH.nil
                go_simp
                refine (K3.out _ (SB.out _ (by assumption))).mono ?_
                rintro e w6 ⟨rfl, h6⟩
                try go_wp2_with fail
                refine hK.out _ _ (SK.out _ (by assumption)) (fun hHeld2 => ?_)
                clear hK K hHeld
                have hHeld := hHeld2
                clear hHeld2
                refine wpAnyH_to (i := 44) (v := ?vh44) (a1 := ?xh44) rfl (by kernel_rfl) (by kernel_rfl) (by kernel_rfl) (fun _ _ _ h => h) (Or.inl ⟨by rfl, ?yh44⟩) (by assumption) ?hh44 ?zh44
                case yh44 => (intro w hSw; (try dsimp only at hSw); go_simp; try (with_reducible rfl))
                case hh44 => (go_simp; exact rfl)
                case zh44 =>
                refine wpAnyH_to (i := 45) (v := ?vh45) (a1 := ?xh45) rfl (by kernel_rfl) (by kernel_rfl) (by kernel_rfl) (fun _ _ _ h => h) (Or.inl ⟨by rfl, ?yh45⟩) (by assumption) ?hh45 ?zh45
                case yh45 => (intro w hSw; (try dsimp only at hSw); go_simp; try (with_reducible rfl))
                case hh45 => (go_simp; exact rfl)
                case zh45 =>
                refine wpAnyH_to (i := 46) (v := ?vh46) (a1 := ?xh46) rfl (by kernel_rfl) (by kernel_rfl) (by kernel_rfl) (fun _ _ _ h => h) (Or.inl ⟨by rfl, ?yh46⟩) (by assumption) ?hh46 ?zh46
                case yh46 => (intro w hSw; (try dsimp only at hSw); go_simp; try (with_reducible rfl))
                case hh46 => (go_simp; exact rfl)
                case zh46 =>
                refine wpAnyH_done (by kernel_rfl) ?_ _
                have H7 := hide (SB.out _ (by assumption))
                clear O1 O3 O4 O5 E1 E2 E3 E4 E5 K1 K2 K3 SK SB
                go_wp2_with fail
                go_ret
                rw [HR.out]
                exact ⟨rfl, H7.out.1.2.2⟩
              | true =>
                cases h3 : (a8 == c8) with
                | false =>
                  rw [h1] at HAL
                  rw [h2] at HAL
                  rw [h3] at HAL
                  have HR : Hid (R = false) := hide (by rw [HAL.out]; simp)
                  clear HAL
                  refine wp_region_held_drew (S := (fun wx => wx.cell? ⟨w.heap.size, 0, none⟩ = some (.int .i64 a0) ∧ wx.cell? ⟨w.heap.size, 1, none⟩ = some v1 ∧ wx.cell? ⟨w.heap.size, 2, none⟩ = some v2 ∧ wx.cell? ⟨w.heap.size, 3, none⟩ = some v3 ∧ wx.cell? ⟨w.heap.size, 4, none⟩ = some v4 ∧ wx.cell? ⟨w.heap.size, 5, none⟩ = some v5 ∧ wx.cell? ⟨w.heap.size, 6, none⟩ = some (.int .i64 a6) ∧ wx.cell? ⟨w.heap.size, 7, none⟩ = some (.int .i64 a7) ∧ wx.cell? ⟨w.heap.size, 8, none⟩ = some (.int .i64 a8) ∧ wx.cell? ⟨w.heap.size + 1, 0, none⟩ = some (.int .i64 b0) ∧ wx.cell? ⟨w.heap.size + 1, 1, none⟩ = some u1 ∧ wx.cell? ⟨w.heap.size + 1, 2, none⟩ = some u2 ∧ wx.cell? ⟨w.heap.size + 1, 3, none⟩ = some u3 ∧ wx.cell? ⟨w.heap.size + 1, 4, none⟩ = some u4 ∧ wx.cell? ⟨w.heap.size + 1, 5, none⟩ = some u5 ∧ wx.cell? ⟨w.heap.size + 1, 6, none⟩ = some (.int .i64 b6) ∧ wx.cell? ⟨w.heap.size + 1, 7, none⟩ = some (.int .i64 b7) ∧ wx.cell? ⟨w.heap.size + 1, 8, none⟩ = some (.int .i64 b8) ∧ Hid (BoxS w #[.int .i64 a0, v1, v2, v3, v4, v5, .int .i64 a6, .int .i64 a7, .int .i64 a8] #[.int .i64 b0, u1, u2, u3, u4, u5, .int .i64 b6, .int .i64 b7, .int .i64 b8] N B0 (m2.map bl) wx))) (by kernel_rfl) (SK.out _ (HS.out.keep ((Below.refl _ _).drew))) (fun hHeld => ?_)
                  refine wpAnyH_to (i := 0) (v := ?vi0) (a1 := ?xi0) rfl (by kernel_rfl) (by kernel_rfl) (by kernel_rfl) (fun _ _ _ h => h) (Or.inl ⟨by rfl, ?yi0⟩) (by assumption) ?hi0 ?zi0
                  case yi0 => (intro w hSw; (try dsimp only at hSw); go_simp; try (with_reducible rfl))
                  case hi0 => (go_simp; exact rfl)
                  case zi0 =>
                  refine wpAnyH_to (i := 1) (v := ?vi1) (a1 := ?xi1) rfl (by kernel_rfl) (by kernel_rfl) (by kernel_rfl) (fun _ _ _ h => h) (Or.inl ⟨by rfl, ?yi1⟩) (by assumption) ?hi1 ?zi1
                  case yi1 => (intro w hSw; (try dsimp only at hSw); go_simp; try (with_reducible rfl))
                  case hi1 => (go_simp; exact rfl)
                  case zi1 =>
                  refine wpAnyH_to (i := 2) (v := ?vi2) (a1 := ?xi2) rfl (by kernel_rfl) (by kernel_rfl) (by kernel_rfl) (fun _ _ _ h => h) (Or.inl ⟨by rfl, ?yi2⟩) (by assumption) ?hi2 ?zi2
                  case yi2 => (intro w hSw; (try dsimp only at hSw); go_simp; try (with_reducible rfl))
                  case hi2 => (go_simp; exact rfl)
                  case zi2 =>
                  refine wpAnyH_to (i := 3) (v := ?vi3) (a1 := ?xi3) rfl (by kernel_rfl) (by kernel_rfl) (by kernel_rfl) (fun _ _ _ h => h) (Or.inl ⟨by rfl, ?yi3⟩) (by assumption) ?hi3 ?zi3
                  case yi3 => (intro w hSw; (try dsimp only at hSw); go_simp; try (with_reducible rfl))
                  case hi3 => (go_simp; exact rfl)
                  case zi3 =>
                  refine wpAnyH_ready (rs := [4]) (by kernel_rfl) (by simp) ?_
                  refine AllReadyH.cons rfl (fun K hK => ?_) AllReadyH.nil
                  go_simp
                  refine (O1.out _ (SB.out _ (by assumption))).mono ?_
                  rintro e w6 ⟨Bq, rfl, HQ, h6⟩
                  try go_wp2_with fail
                  refine hK.out _ _ (SK.out _ (by assumption)) (fun hHeld2 => ?_)
                  clear hK K hHeld
                  have hHeld := hHeld2
                  clear hHeld2
                  refine wpAnyH_ready (rs := [5]) (by kernel_rfl) (by simp) ?_
                  refine AllReadyH.cons rfl (fun K hK => ?_) AllReadyH.nil
                  go_simp
                  refine (E1.out _ _ (SB.out _ (by assumption)) (by assumption)).mono ?_
                  rintro e w6 ⟨rfl, h6⟩
                  try go_wp2_with fail
                  refine hK.out _ _ (SK.out _ (by assumption)) (fun hHeld2 => ?_)
                  clear hK K hHeld
                  have hHeld := hHeld2
                  clear hHeld2
                  refine wpAnyH_to (i := 6) (v := ?vi6) (a1 := ?xi6) rfl (by kernel_rfl) (by kernel_rfl) (by kernel_rfl) (fun _ _ _ h => h) (Or.inl ⟨by rfl, ?yi6⟩) (by assumption) ?hi6 ?zi6
                  case yi6 => (intro w hSw; (try dsimp only at hSw); go_simp; try (with_reducible rfl))
                  case hi6 => (go_simp; exact rfl)
                  case zi6 =>
                  refine wpAnyH_to (i := 7) (v := ?vi7) (a1 := ?xi7) rfl (by kernel_rfl) (by kernel_rfl) (by kernel_rfl) (fun _ _ _ h => h) (Or.inl ⟨by rfl, ?yi7⟩) (by assumption) ?hi7 ?zi7
                  case yi7 => (intro w hSw; (try dsimp only at hSw); go_simp; try (with_reducible rfl))
                  case hi7 => (go_simp; exact rfl)
                  case zi7 =>
                  refine wpAnyH_to (i := 8) (v := ?vi8) (a1 := ?xi8) rfl (by kernel_rfl) (by kernel_rfl) (by kernel_rfl) (fun _ _ _ h => h) (Or.inl ⟨by rfl, ?yi8⟩) (by assumption) ?hi8 ?zi8
                  case yi8 => (intro w hSw; (try dsimp only at hSw); go_simp; try (with_reducible rfl))
                  case hi8 => (go_simp; exact rfl)
                  case zi8 =>
                  refine wpAnyH_to (i := 9) (v := ?vi9) (a1 := ?xi9) rfl (by kernel_rfl) (by kernel_rfl) (by kernel_rfl) (fun _ _ _ h => h) (Or.inl ⟨by rfl, ?yi9⟩) (by assumption) ?hi9 ?zi9
                  case yi9 => (intro w hSw; (try dsimp only at hSw); go_simp; try (with_reducible rfl))
                  case hi9 => (go_simp; exact rfl)
                  case zi9 =>
                  refine wpAnyH_ready (rs := [10]) (by kernel_rfl) (by simp) ?_
                  refine AllReadyH.cons rfl (fun K hK => ?_) AllReadyH.nil
                  go_simp
                  refine (E2.out _ (SB.out _ (by assumption))).mono ?_
                  rintro e w6 ⟨rfl, h6⟩
                  try go_wp2_with fail
                  refine hK.out _ _ (SK.out _ (by assumption)) (fun hHeld2 => ?_)
                  clear hK K hHeld
                  have hHeld := hHeld2
                  clear hHeld2
                  refine wpAnyH_to (i := 11) (v := ?vi11) (a1 := ?xi11) rfl (by kernel_rfl) (by kernel_rfl) (by kernel_rfl) (fun _ _ _ h => h) (Or.inl ⟨by rfl, ?yi11⟩) (by assumption) ?hi11 ?zi11
                  case yi11 => (intro w hSw; (try dsimp only at hSw); go_simp; try (with_reducible rfl))
                  case hi11 => (go_simp; exact rfl)
                  case zi11 =>
                  refine wpAnyH_to (i := 12) (v := ?vi12) (a1 := ?xi12) rfl (by kernel_rfl) (by kernel_rfl) (by kernel_rfl) (fun _ _ _ h => h) (Or.inl ⟨by rfl, ?yi12⟩) (by assumption) ?hi12 ?zi12
                  case yi12 => (intro w hSw; (try dsimp only at hSw); go_simp; try (with_reducible rfl))
                  case hi12 => (go_simp; exact rfl)
                  case zi12 =>
                  refine wpAnyH_to (i := 13) (v := ?vi13) (a1 := ?xi13) rfl (by kernel_rfl) (by kernel_rfl) (by kernel_rfl) (fun _ _ _ h => h) (Or.inl ⟨by rfl, ?yi13⟩) (by assumption) ?hi13 ?zi13
                  case yi13 => (intro w hSw; (try dsimp only at hSw); go_simp; try (with_reducible rfl))
                  case hi13 => (go_simp; exact rfl)
                  case zi13 =>
                  refine wpAnyH_to (i := 14) (v := ?vi14) (a1 := ?xi14) rfl (by kernel_rfl) (by kernel_rfl) (by kernel_rfl) (fun _ _ _ h => h) (Or.inl ⟨by rfl, ?yi14⟩) (by assumption) ?hi14 ?zi14
                  case yi14 => (intro w hSw; (try dsimp only at hSw); go_simp; try (with_reducible rfl))
                  case hi14 => (go_simp; exact rfl)
                  case zi14 =>
                  refine wpAnyH_to (i := 15) (v := ?vi15) (a1 := ?xi15) rfl (by kernel_rfl) (by kernel_rfl) (by kernel_rfl) (fun _ _ _ h => h) (Or.inl ⟨by rfl, ?yi15⟩) (by assumption) ?hi15 ?zi15
                  case yi15 => (intro w hSw; (try dsimp only at hSw); go_simp; try (with_reducible rfl))
                  case hi15 => (go_simp; exact rfl)
                  case zi15 =>
                  refine wpAnyH_to (i := 16) (v := ?vi16) (a1 := ?xi16) rfl (by kernel_rfl) (by kernel_rfl) (by kernel_rfl) (fun _ _ _ h => h) (Or.inl ⟨by rfl, ?yi16⟩) (by assumption) ?hi16 ?zi16
                  case yi16 => (intro w hSw; (try dsimp only at hSw); go_simp; try (with_reducible rfl))
                  case hi16 => (go_simp; exact rfl)
                  case zi16 =>
                  refine wpAnyH_ready (rs := [17]) (by kernel_rfl) (by simp) ?_
                  refine AllReadyH.cons rfl (fun K hK => ?_) AllReadyH.nil
                  go_simp
                  refine (O3.out _ (SB.out _ (by assumption))).mono ?_
                  rintro e w6 ⟨Bq, rfl, HQ, h6⟩
                  try go_wp2_with fail
                  refine hK.out _ _ (SK.out _ (by assumption)) (fun hHeld2 => ?_)
                  clear hK K hHeld
                  have hHeld := hHeld2
                  clear hHeld2
                  refine wpAnyH_ready (rs := [18]) (by kernel_rfl) (by simp) ?_
                  refine AllReadyH.cons rfl (fun K hK => ?_) AllReadyH.nil
                  go_simp
                  refine (E3.out _ _ (SB.out _ (by assumption)) (by assumption)).mono ?_
                  rintro e w6 ⟨rfl, h6⟩
                  try go_wp2_with fail
                  refine hK.out _ _ (SK.out _ (by assumption)) (fun hHeld2 => ?_)
                  clear hK K hHeld
                  have hHeld := hHeld2
                  clear hHeld2
                  refine wpAnyH_to (i := 19) (v := ?vi19) (a1 := ?xi19) rfl (by kernel_rfl) (by kernel_rfl) (by kernel_rfl) (fun _ _ _ h => h) (Or.inl ⟨by rfl, ?yi19⟩) (by assumption) ?hi19 ?zi19
                  case yi19 => (intro w hSw; (try dsimp only at hSw); go_simp; try (with_reducible rfl))
                  case hi19 => (go_simp; exact rfl)
                  case zi19 =>
                  refine wpAnyH_to (i := 20) (v := ?vi20) (a1 := ?xi20) rfl (by kernel_rfl) (by kernel_rfl) (by kernel_rfl) (fun _ _ _ h => h) (Or.inl ⟨by rfl, ?yi20⟩) (by assumption) ?hi20 ?zi20
                  case yi20 => (intro w hSw; (try dsimp only at hSw); go_simp; try (with_reducible rfl))
                  case hi20 => (go_simp; exact rfl)
                  case zi20 =>
                  refine wpAnyH_to (i := 21) (v := ?vi21) (a1 := ?xi21) rfl (by kernel_rfl) (by kernel_rfl) (by kernel_rfl) (fun _ _ _ h => h) (Or.inl ⟨by rfl, ?yi21⟩) (by assumption) ?hi21 ?zi21
                  case yi21 => (intro w hSw; (try dsimp only at hSw); go_simp; try (with_reducible rfl))
                  case hi21 => (go_simp; exact rfl)
                  case zi21 =>
                  refine wpAnyH_to (i := 22) (v := ?vi22) (a1 := ?xi22) rfl (by kernel_rfl) (by kernel_rfl) (by kernel_rfl) (fun _ _ _ h => h) (Or.inl ⟨by rfl, ?yi22⟩) (by assumption) ?hi22 ?zi22
                  case yi22 => (intro w hSw; (try dsimp only at hSw); go_simp; try (with_reducible rfl))
                  case hi22 => (go_simp; exact rfl)
                  case zi22 =>
                  refine wpAnyH_to (i := 23) (v := ?vi23) (a1 := ?xi23) rfl (by kernel_rfl) (by kernel_rfl) (by kernel_rfl) (fun _ _ _ h => h) (Or.inl ⟨by rfl, ?yi23⟩) (by assumption) ?hi23 ?zi23
                  case yi23 => (intro w hSw; (try dsimp only at hSw); go_simp; try (with_reducible rfl))
                  case hi23 => (go_simp; exact rfl)
                  case zi23 =>
                  refine wpAnyH_to (i := 24) (v := ?vi24) (a1 := ?xi24) rfl (by kernel_rfl) (by kernel_rfl) (by kernel_rfl) (fun _ _ _ h => h) (Or.inl ⟨by rfl, ?yi24⟩) (by assumption) ?hi24 ?zi24
                  case yi24 => (intro w hSw; (try dsimp only at hSw); go_simp; try (with_reducible rfl))
                  case hi24 => (go_simp; exact rfl)
                  case zi24 =>
                  refine wpAnyH_ready (rs := [25]) (by kernel_rfl) (by simp) ?_
                  refine AllReadyH.cons rfl (fun K hK => ?_) AllReadyH.nil
                  go_simp
                  refine (O4.out _ (SB.out _ (by assumption))).mono ?_
                  rintro e w6 ⟨Bq, rfl, HQ, h6⟩
                  try go_wp2_with fail
                  refine hK.out _ _ (SK.out _ (by assumption)) (fun hHeld2 => ?_)
                  clear hK K hHeld
                  have hHeld := hHeld2
                  clear hHeld2
                  refine wpAnyH_ready (rs := [26]) (by kernel_rfl) (by simp) ?_
                  refine AllReadyH.cons rfl (fun K hK => ?_) AllReadyH.nil
                  go_simp
                  refine (E4.out _ _ (SB.out _ (by assumption)) (by assumption)).mono ?_
                  rintro e w6 ⟨rfl, h6⟩
                  try go_wp2_with fail
                  refine hK.out _ _ (SK.out _ (by assumption)) (fun hHeld2 => ?_)
                  clear hK K hHeld
                  have hHeld := hHeld2
                  clear hHeld2
                  refine wpAnyH_to (i := 27) (v := ?vi27) (a1 := ?xi27) rfl (by kernel_rfl) (by kernel_rfl) (by kernel_rfl) (fun _ _ _ h => h) (Or.inl ⟨by rfl, ?yi27⟩) (by assumption) ?hi27 ?zi27
                  case yi27 => (intro w hSw; (try dsimp only at hSw); go_simp; try (with_reducible rfl))
                  case hi27 => (go_simp; exact rfl)
                  case zi27 =>
                  refine wpAnyH_to (i := 28) (v := ?vi28) (a1 := ?xi28) rfl (by kernel_rfl) (by kernel_rfl) (by kernel_rfl) (fun _ _ _ h => h) (Or.inl ⟨by rfl, ?yi28⟩) (by assumption) ?hi28 ?zi28
                  case yi28 => (intro w hSw; (try dsimp only at hSw); go_simp; try (with_reducible rfl))
                  case hi28 => (go_simp; exact rfl)
                  case zi28 =>
                  refine wpAnyH_to (i := 29) (v := ?vi29) (a1 := ?xi29) rfl (by kernel_rfl) (by kernel_rfl) (by kernel_rfl) (fun _ _ _ h => h) (Or.inl ⟨by rfl, ?yi29⟩) (by assumption) ?hi29 ?zi29
                  case yi29 => (intro w hSw; (try dsimp only at hSw); go_simp; try (with_reducible rfl))
                  case hi29 => (go_simp; exact rfl)
                  case zi29 =>
                  refine wpAnyH_to (i := 30) (v := ?vi30) (a1 := ?xi30) rfl (by kernel_rfl) (by kernel_rfl) (by kernel_rfl) (fun _ _ _ h => h) (Or.inl ⟨by rfl, ?yi30⟩) (by assumption) ?hi30 ?zi30
                  case yi30 => (intro w hSw; (try dsimp only at hSw); go_simp; try (with_reducible rfl))
                  case hi30 => (go_simp; exact rfl)
                  case zi30 =>
                  refine wpAnyH_to (i := 31) (v := ?vi31) (a1 := ?xi31) rfl (by kernel_rfl) (by kernel_rfl) (by kernel_rfl) (fun _ _ _ h => h) (Or.inl ⟨by rfl, ?yi31⟩) (by assumption) ?hi31 ?zi31
                  case yi31 => (intro w hSw; (try dsimp only at hSw); go_simp; try (with_reducible rfl))
                  case hi31 => (go_simp; exact rfl)
                  case zi31 =>
                  refine wpAnyH_to (i := 32) (v := ?vi32) (a1 := ?xi32) rfl (by kernel_rfl) (by kernel_rfl) (by kernel_rfl) (fun _ _ _ h => h) (Or.inl ⟨by rfl, ?yi32⟩) (by assumption) ?hi32 ?zi32
                  case yi32 => (intro w hSw; (try dsimp only at hSw); go_simp; try (with_reducible rfl))
                  case hi32 => (go_simp; exact rfl)
                  case zi32 =>
                  refine wpAnyH_ready (rs := [33]) (by kernel_rfl) (by simp) ?_
                  refine AllReadyH.cons rfl (fun K hK => ?_) AllReadyH.nil
                  go_simp
                  refine (O5.out _ (SB.out _ (by assumption))).mono ?_
                  rintro e w6 ⟨Bq, rfl, HQ, h6⟩
                  try go_wp2_with fail
                  refine hK.out _ _ (SK.out _ (by assumption)) (fun hHeld2 => ?_)
                  clear hK K hHeld
                  have hHeld := hHeld2
                  clear hHeld2
                  refine wpAnyH_ready (rs := [34]) (by kernel_rfl) (by simp) ?_
                  refine AllReadyH.cons rfl (fun K hK => ?_) AllReadyH.nil
                  go_simp
                  refine (E5.out _ _ (SB.out _ (by assumption)) (by assumption)).mono ?_
                  rintro e w6 ⟨rfl, h6⟩
                  try go_wp2_with fail
                  refine hK.out _ _ (SK.out _ (by assumption)) (fun hHeld2 => ?_)
                  clear hK K hHeld
                  have hHeld := hHeld2
                  clear hHeld2
                  refine wpAnyH_to (i := 35) (v := ?vi35) (a1 := ?xi35) rfl (by kernel_rfl) (by kernel_rfl) (by kernel_rfl) (fun _ _ _ h => h) (Or.inl ⟨by rfl, ?yi35⟩) (by assumption) ?hi35 ?zi35
                  case yi35 => (intro w hSw; (try dsimp only at hSw); go_simp; try (with_reducible rfl))
                  case hi35 => (go_simp; exact rfl)
                  case zi35 =>
                  refine wpAnyH_to (i := 36) (v := ?vi36) (a1 := ?xi36) rfl (by kernel_rfl) (by kernel_rfl) (by kernel_rfl) (fun _ _ _ h => h) (Or.inl ⟨by rfl, ?yi36⟩) (by assumption) ?hi36 ?zi36
                  case yi36 => (intro w hSw; (try dsimp only at hSw); go_simp; try (with_reducible rfl))
                  case hi36 => (go_simp; exact rfl)
                  case zi36 =>
                  refine wpAnyH_to (i := 37) (v := ?vi37) (a1 := ?xi37) rfl (by kernel_rfl) (by kernel_rfl) (by kernel_rfl) (fun _ _ _ h => h) (Or.inl ⟨by rfl, ?yi37⟩) (by assumption) ?hi37 ?zi37
                  case yi37 => (intro w hSw; (try dsimp only at hSw); go_simp; try (with_reducible rfl))
                  case hi37 => (go_simp; exact rfl)
                  case zi37 =>
                  refine wpAnyH_to (i := 39) (v := ?vi39) (a1 := ?xi39) rfl (by kernel_rfl) (by kernel_rfl) (by kernel_rfl) (fun _ _ _ h => h) (Or.inl ⟨by rfl, ?yi39⟩) (by assumption) ?hi39 ?zi39
                  case yi39 => (intro w hSw; (try dsimp only at hSw); go_simp; try (with_reducible rfl))
                  case hi39 => (go_simp; exact rfl)
                  case zi39 =>
                  refine wpAnyH_to (i := 41) (v := ?vi41) (a1 := ?xi41) rfl (by kernel_rfl) (by kernel_rfl) (by kernel_rfl) (fun _ _ _ h => h) (Or.inl ⟨by rfl, ?yi41⟩) (by assumption) ?hi41 ?zi41
                  case yi41 => (intro w hSw; (try dsimp only at hSw); go_simp; try (with_reducible rfl))
                  case hi41 => (go_simp; exact rfl)
                  case zi41 =>
                  refine wpAnyH_ready (rs := [38]) (by kernel_rfl) (by simp) ?_
                  refine AllReadyH.cons rfl (fun K hK => ?_) AllReadyH.nil
                  go_simp
                  refine (K1.out _ (SB.out _ (by assumption))).mono ?_
                  rintro e w6 ⟨rfl, h6⟩
                  try go_wp2_with fail
                  refine hK.out _ _ (SK.out _ (by assumption)) (fun hHeld2 => ?_)
                  clear hK K hHeld
                  have hHeld := hHeld2
                  clear hHeld2
                  refine wpAnyH_ready (rs := [40]) (by kernel_rfl) (by simp) ?_
                  refine AllReadyH.cons rfl (fun K hK => ?_) AllReadyH.nil
                  go_simp
                  refine (K1.out _ (SB.out _ (by assumption))).mono ?_
                  rintro e w6 ⟨rfl, h6⟩
                  try go_wp2_with fail
                  refine hK.out _ _ (SK.out _ (by assumption)) (fun hHeld2 => ?_)
                  clear hK K hHeld
                  have hHeld := hHeld2
                  clear hHeld2
                  refine wpAnyH_ready (rs := [42]) (by kernel_rfl) (by simp) ?_
                  refine AllReadyH.cons rfl (fun K hK => ?_) AllReadyH.nil
                  go_simp
                  refine (K2.out _ (SB.out _ (by assumption))).mono ?_
                  rintro e w6 ⟨rfl, h6⟩
                  try go_wp2_with fail
                  refine hK.out _ _ (SK.out _ (by assumption)) (fun hHeld2 => ?_)
                  clear hK K hHeld
                  have hHeld := hHeld2
                  clear hHeld2
                  refine wpAnyH_ready (rs := [43]) (by kernel_rfl) (by simp) ?_
                  refine AllReadyH.cons rfl (fun K hK => ?_) AllReadyH.nil
                  go_simp
                  refine (K3.out _ (SB.out _ (by assumption))).mono ?_
                  rintro e w6 ⟨rfl, h6⟩
                  try go_wp2_with fail
                  refine hK.out _ _ (SK.out _ (by assumption)) (fun hHeld2 => ?_)
                  clear hK K hHeld
                  have hHeld := hHeld2
                  clear hHeld2
                  refine wpAnyH_to (i := 44) (v := ?vi44) (a1 := ?xi44) rfl (by kernel_rfl) (by kernel_rfl) (by kernel_rfl) (fun _ _ _ h => h) (Or.inl ⟨by rfl, ?yi44⟩) (by assumption) ?hi44 ?zi44
                  case yi44 => (intro w hSw; (try dsimp only at hSw); go_simp; try (with_reducible rfl))
                  case hi44 => (go_simp; exact rfl)
                  case zi44 =>
                  refine wpAnyH_to (i := 45) (v := ?vi45) (a1 := ?xi45) rfl (by kernel_rfl) (by kernel_rfl) (by kernel_rfl) (fun _ _ _ h => h) (Or.inl ⟨by rfl, ?yi45⟩) (by assumption) ?hi45 ?zi45
                  case yi45 => (intro w hSw; (try dsimp only at hSw); go_simp; try (with_reducible rfl))
                  case hi45 => (go_simp; exact rfl)
                  case zi45 =>
                  refine wpAnyH_to (i := 46) (v := ?vi46) (a1 := ?xi46) rfl (by kernel_rfl) (by kernel_rfl) (by kernel_rfl) (fun _ _ _ h => h) (Or.inl ⟨by rfl, ?yi46⟩) (by assumption) ?hi46 ?zi46
                  case yi46 => (intro w hSw; (try dsimp only at hSw); go_simp; try (with_reducible rfl))
                  case hi46 => (go_simp; exact rfl)
                  case zi46 =>
                  refine wpAnyH_done (by kernel_rfl) ?_ _
                  have H7 := hide (SB.out _ (by assumption))
                  clear O1 O3 O4 O5 E1 E2 E3 E4 E5 K1 K2 K3 SK SB
                  go_wp2_with fail
                  go_ret
                  rw [HR.out]
                  exact ⟨rfl, H7.out.1.2.2⟩
                | true =>
                  rw [h1] at HAL
                  rw [h2] at HAL
                  rw [h3] at HAL
                  have HR : Hid (R = true) := hide (by rw [HAL.out]; simp)
                  clear HAL
                  refine wp_region_held_drew (S := (fun wx => wx.cell? ⟨w.heap.size, 0, none⟩ = some (.int .i64 a0) ∧ wx.cell? ⟨w.heap.size, 1, none⟩ = some v1 ∧ wx.cell? ⟨w.heap.size, 2, none⟩ = some v2 ∧ wx.cell? ⟨w.heap.size, 3, none⟩ = some v3 ∧ wx.cell? ⟨w.heap.size, 4, none⟩ = some v4 ∧ wx.cell? ⟨w.heap.size, 5, none⟩ = some v5 ∧ wx.cell? ⟨w.heap.size, 6, none⟩ = some (.int .i64 a6) ∧ wx.cell? ⟨w.heap.size, 7, none⟩ = some (.int .i64 a7) ∧ wx.cell? ⟨w.heap.size, 8, none⟩ = some (.int .i64 a8) ∧ wx.cell? ⟨w.heap.size + 1, 0, none⟩ = some (.int .i64 b0) ∧ wx.cell? ⟨w.heap.size + 1, 1, none⟩ = some u1 ∧ wx.cell? ⟨w.heap.size + 1, 2, none⟩ = some u2 ∧ wx.cell? ⟨w.heap.size + 1, 3, none⟩ = some u3 ∧ wx.cell? ⟨w.heap.size + 1, 4, none⟩ = some u4 ∧ wx.cell? ⟨w.heap.size + 1, 5, none⟩ = some u5 ∧ wx.cell? ⟨w.heap.size + 1, 6, none⟩ = some (.int .i64 b6) ∧ wx.cell? ⟨w.heap.size + 1, 7, none⟩ = some (.int .i64 b7) ∧ wx.cell? ⟨w.heap.size + 1, 8, none⟩ = some (.int .i64 b8) ∧ Hid (BoxS w #[.int .i64 a0, v1, v2, v3, v4, v5, .int .i64 a6, .int .i64 a7, .int .i64 a8] #[.int .i64 b0, u1, u2, u3, u4, u5, .int .i64 b6, .int .i64 b7, .int .i64 b8] N B0 (m2.map bl) wx))) (by kernel_rfl) (SK.out _ (HS.out.keep ((Below.refl _ _).drew))) (fun hHeld => ?_)
                  refine wpAnyH_to (i := 0) (v := ?vj0) (a1 := ?xj0) rfl (by kernel_rfl) (by kernel_rfl) (by kernel_rfl) (fun _ _ _ h => h) (Or.inl ⟨by rfl, ?yj0⟩) (by assumption) ?hj0 ?zj0
                  case yj0 => (intro w hSw; (try dsimp only at hSw); go_simp; try (with_reducible rfl))
                  case hj0 => (go_simp; exact rfl)
                  case zj0 =>
                  refine wpAnyH_to (i := 1) (v := ?vj1) (a1 := ?xj1) rfl (by kernel_rfl) (by kernel_rfl) (by kernel_rfl) (fun _ _ _ h => h) (Or.inl ⟨by rfl, ?yj1⟩) (by assumption) ?hj1 ?zj1
                  case yj1 => (intro w hSw; (try dsimp only at hSw); go_simp; try (with_reducible rfl))
                  case hj1 => (go_simp; exact rfl)
                  case zj1 =>
                  refine wpAnyH_to (i := 2) (v := ?vj2) (a1 := ?xj2) rfl (by kernel_rfl) (by kernel_rfl) (by kernel_rfl) (fun _ _ _ h => h) (Or.inl ⟨by rfl, ?yj2⟩) (by assumption) ?hj2 ?zj2
                  case yj2 => (intro w hSw; (try dsimp only at hSw); go_simp; try (with_reducible rfl))
                  case hj2 => (go_simp; exact rfl)
                  case zj2 =>
                  refine wpAnyH_to (i := 3) (v := ?vj3) (a1 := ?xj3) rfl (by kernel_rfl) (by kernel_rfl) (by kernel_rfl) (fun _ _ _ h => h) (Or.inl ⟨by rfl, ?yj3⟩) (by assumption) ?hj3 ?zj3
                  case yj3 => (intro w hSw; (try dsimp only at hSw); go_simp; try (with_reducible rfl))
                  case hj3 => (go_simp; exact rfl)
                  case zj3 =>
                  refine wpAnyH_ready (rs := [4]) (by kernel_rfl) (by simp) ?_
                  refine AllReadyH.cons rfl (fun K hK => ?_) AllReadyH.nil
                  go_simp
                  refine (O1.out _ (SB.out _ (by assumption))).mono ?_
                  rintro e w6 ⟨Bq, rfl, HQ, h6⟩
                  try go_wp2_with fail
                  refine hK.out _ _ (SK.out _ (by assumption)) (fun hHeld2 => ?_)
                  clear hK K hHeld
                  have hHeld := hHeld2
                  clear hHeld2
                  refine wpAnyH_ready (rs := [5]) (by kernel_rfl) (by simp) ?_
                  refine AllReadyH.cons rfl (fun K hK => ?_) AllReadyH.nil
                  go_simp
                  refine (E1.out _ _ (SB.out _ (by assumption)) (by assumption)).mono ?_
                  rintro e w6 ⟨rfl, h6⟩
                  try go_wp2_with fail
                  refine hK.out _ _ (SK.out _ (by assumption)) (fun hHeld2 => ?_)
                  clear hK K hHeld
                  have hHeld := hHeld2
                  clear hHeld2
                  refine wpAnyH_to (i := 6) (v := ?vj6) (a1 := ?xj6) rfl (by kernel_rfl) (by kernel_rfl) (by kernel_rfl) (fun _ _ _ h => h) (Or.inl ⟨by rfl, ?yj6⟩) (by assumption) ?hj6 ?zj6
                  case yj6 => (intro w hSw; (try dsimp only at hSw); go_simp; try (with_reducible rfl))
                  case hj6 => (go_simp; exact rfl)
                  case zj6 =>
                  refine wpAnyH_to (i := 7) (v := ?vj7) (a1 := ?xj7) rfl (by kernel_rfl) (by kernel_rfl) (by kernel_rfl) (fun _ _ _ h => h) (Or.inl ⟨by rfl, ?yj7⟩) (by assumption) ?hj7 ?zj7
                  case yj7 => (intro w hSw; (try dsimp only at hSw); go_simp; try (with_reducible rfl))
                  case hj7 => (go_simp; exact rfl)
                  case zj7 =>
                  refine wpAnyH_to (i := 8) (v := ?vj8) (a1 := ?xj8) rfl (by kernel_rfl) (by kernel_rfl) (by kernel_rfl) (fun _ _ _ h => h) (Or.inl ⟨by rfl, ?yj8⟩) (by assumption) ?hj8 ?zj8
                  case yj8 => (intro w hSw; (try dsimp only at hSw); go_simp; try (with_reducible rfl))
                  case hj8 => (go_simp; exact rfl)
                  case zj8 =>
                  refine wpAnyH_to (i := 9) (v := ?vj9) (a1 := ?xj9) rfl (by kernel_rfl) (by kernel_rfl) (by kernel_rfl) (fun _ _ _ h => h) (Or.inl ⟨by rfl, ?yj9⟩) (by assumption) ?hj9 ?zj9
                  case yj9 => (intro w hSw; (try dsimp only at hSw); go_simp; try (with_reducible rfl))
                  case hj9 => (go_simp; exact rfl)
                  case zj9 =>
                  refine wpAnyH_ready (rs := [10]) (by kernel_rfl) (by simp) ?_
                  refine AllReadyH.cons rfl (fun K hK => ?_) AllReadyH.nil
                  go_simp
                  refine (E2.out _ (SB.out _ (by assumption))).mono ?_
                  rintro e w6 ⟨rfl, h6⟩
                  try go_wp2_with fail
                  refine hK.out _ _ (SK.out _ (by assumption)) (fun hHeld2 => ?_)
                  clear hK K hHeld
                  have hHeld := hHeld2
                  clear hHeld2
                  refine wpAnyH_to (i := 11) (v := ?vj11) (a1 := ?xj11) rfl (by kernel_rfl) (by kernel_rfl) (by kernel_rfl) (fun _ _ _ h => h) (Or.inl ⟨by rfl, ?yj11⟩) (by assumption) ?hj11 ?zj11
                  case yj11 => (intro w hSw; (try dsimp only at hSw); go_simp; try (with_reducible rfl))
                  case hj11 => (go_simp; exact rfl)
                  case zj11 =>
                  refine wpAnyH_to (i := 12) (v := ?vj12) (a1 := ?xj12) rfl (by kernel_rfl) (by kernel_rfl) (by kernel_rfl) (fun _ _ _ h => h) (Or.inl ⟨by rfl, ?yj12⟩) (by assumption) ?hj12 ?zj12
                  case yj12 => (intro w hSw; (try dsimp only at hSw); go_simp; try (with_reducible rfl))
                  case hj12 => (go_simp; exact rfl)
                  case zj12 =>
                  refine wpAnyH_to (i := 13) (v := ?vj13) (a1 := ?xj13) rfl (by kernel_rfl) (by kernel_rfl) (by kernel_rfl) (fun _ _ _ h => h) (Or.inl ⟨by rfl, ?yj13⟩) (by assumption) ?hj13 ?zj13
                  case yj13 => (intro w hSw; (try dsimp only at hSw); go_simp; try (with_reducible rfl))
                  case hj13 => (go_simp; exact rfl)
                  case zj13 =>
                  refine wpAnyH_to (i := 14) (v := ?vj14) (a1 := ?xj14) rfl (by kernel_rfl) (by kernel_rfl) (by kernel_rfl) (fun _ _ _ h => h) (Or.inl ⟨by rfl, ?yj14⟩) (by assumption) ?hj14 ?zj14
                  case yj14 => (intro w hSw; (try dsimp only at hSw); go_simp; try (with_reducible rfl))
                  case hj14 => (go_simp; exact rfl)
                  case zj14 =>
                  refine wpAnyH_to (i := 15) (v := ?vj15) (a1 := ?xj15) rfl (by kernel_rfl) (by kernel_rfl) (by kernel_rfl) (fun _ _ _ h => h) (Or.inl ⟨by rfl, ?yj15⟩) (by assumption) ?hj15 ?zj15
                  case yj15 => (intro w hSw; (try dsimp only at hSw); go_simp; try (with_reducible rfl))
                  case hj15 => (go_simp; exact rfl)
                  case zj15 =>
                  refine wpAnyH_to (i := 16) (v := ?vj16) (a1 := ?xj16) rfl (by kernel_rfl) (by kernel_rfl) (by kernel_rfl) (fun _ _ _ h => h) (Or.inl ⟨by rfl, ?yj16⟩) (by assumption) ?hj16 ?zj16
                  case yj16 => (intro w hSw; (try dsimp only at hSw); go_simp; try (with_reducible rfl))
                  case hj16 => (go_simp; exact rfl)
                  case zj16 =>
                  refine wpAnyH_ready (rs := [17]) (by kernel_rfl) (by simp) ?_
                  refine AllReadyH.cons rfl (fun K hK => ?_) AllReadyH.nil
                  go_simp
                  refine (O3.out _ (SB.out _ (by assumption))).mono ?_
                  rintro e w6 ⟨Bq, rfl, HQ, h6⟩
                  try go_wp2_with fail
                  refine hK.out _ _ (SK.out _ (by assumption)) (fun hHeld2 => ?_)
                  clear hK K hHeld
                  have hHeld := hHeld2
                  clear hHeld2
                  refine wpAnyH_ready (rs := [18]) (by kernel_rfl) (by simp) ?_
                  refine AllReadyH.cons rfl (fun K hK => ?_) AllReadyH.nil
                  go_simp
                  refine (E3.out _ _ (SB.out _ (by assumption)) (by assumption)).mono ?_
                  rintro e w6 ⟨rfl, h6⟩
                  try go_wp2_with fail
                  refine hK.out _ _ (SK.out _ (by assumption)) (fun hHeld2 => ?_)
                  clear hK K hHeld
                  have hHeld := hHeld2
                  clear hHeld2
                  refine wpAnyH_to (i := 19) (v := ?vj19) (a1 := ?xj19) rfl (by kernel_rfl) (by kernel_rfl) (by kernel_rfl) (fun _ _ _ h => h) (Or.inl ⟨by rfl, ?yj19⟩) (by assumption) ?hj19 ?zj19
                  case yj19 => (intro w hSw; (try dsimp only at hSw); go_simp; try (with_reducible rfl))
                  case hj19 => (go_simp; exact rfl)
                  case zj19 =>
                  refine wpAnyH_to (i := 20) (v := ?vj20) (a1 := ?xj20) rfl (by kernel_rfl) (by kernel_rfl) (by kernel_rfl) (fun _ _ _ h => h) (Or.inl ⟨by rfl, ?yj20⟩) (by assumption) ?hj20 ?zj20
                  case yj20 => (intro w hSw; (try dsimp only at hSw); go_simp; try (with_reducible rfl))
                  case hj20 => (go_simp; exact rfl)
                  case zj20 =>
                  refine wpAnyH_to (i := 21) (v := ?vj21) (a1 := ?xj21) rfl (by kernel_rfl) (by kernel_rfl) (by kernel_rfl) (fun _ _ _ h => h) (Or.inl ⟨by rfl, ?yj21⟩) (by assumption) ?hj21 ?zj21
                  case yj21 => (intro w hSw; (try dsimp only at hSw); go_simp; try (with_reducible rfl))
                  case hj21 => (go_simp; exact rfl)
                  case zj21 =>
                  refine wpAnyH_to (i := 22) (v := ?vj22) (a1 := ?xj22) rfl (by kernel_rfl) (by kernel_rfl) (by kernel_rfl) (fun _ _ _ h => h) (Or.inl ⟨by rfl, ?yj22⟩) (by assumption) ?hj22 ?zj22
                  case yj22 => (intro w hSw; (try dsimp only at hSw); go_simp; try (with_reducible rfl))
                  case hj22 => (go_simp; exact rfl)
                  case zj22 =>
                  refine wpAnyH_to (i := 23) (v := ?vj23) (a1 := ?xj23) rfl (by kernel_rfl) (by kernel_rfl) (by kernel_rfl) (fun _ _ _ h => h) (Or.inl ⟨by rfl, ?yj23⟩) (by assumption) ?hj23 ?zj23
                  case yj23 => (intro w hSw; (try dsimp only at hSw); go_simp; try (with_reducible rfl))
                  case hj23 => (go_simp; exact rfl)
                  case zj23 =>
                  refine wpAnyH_to (i := 24) (v := ?vj24) (a1 := ?xj24) rfl (by kernel_rfl) (by kernel_rfl) (by kernel_rfl) (fun _ _ _ h => h) (Or.inl ⟨by rfl, ?yj24⟩) (by assumption) ?hj24 ?zj24
                  case yj24 => (intro w hSw; (try dsimp only at hSw); go_simp; try (with_reducible rfl))
                  case hj24 => (go_simp; exact rfl)
                  case zj24 =>
                  refine wpAnyH_ready (rs := [25]) (by kernel_rfl) (by simp) ?_
                  refine AllReadyH.cons rfl (fun K hK => ?_) AllReadyH.nil
                  go_simp
                  refine (O4.out _ (SB.out _ (by assumption))).mono ?_
                  rintro e w6 ⟨Bq, rfl, HQ, h6⟩
                  try go_wp2_with fail
                  refine hK.out _ _ (SK.out _ (by assumption)) (fun hHeld2 => ?_)
                  clear hK K hHeld
                  have hHeld := hHeld2
                  clear hHeld2
                  refine wpAnyH_ready (rs := [26]) (by kernel_rfl) (by simp) ?_
                  refine AllReadyH.cons rfl (fun K hK => ?_) AllReadyH.nil
                  go_simp
                  refine (E4.out _ _ (SB.out _ (by assumption)) (by assumption)).mono ?_
                  rintro e w6 ⟨rfl, h6⟩
                  try go_wp2_with fail
                  refine hK.out _ _ (SK.out _ (by assumption)) (fun hHeld2 => ?_)
                  clear hK K hHeld
                  have hHeld := hHeld2
                  clear hHeld2
                  refine wpAnyH_to (i := 27) (v := ?vj27) (a1 := ?xj27) rfl (by kernel_rfl) (by kernel_rfl) (by kernel_rfl) (fun _ _ _ h => h) (Or.inl ⟨by rfl, ?yj27⟩) (by assumption) ?hj27 ?zj27
                  case yj27 => (intro w hSw; (try dsimp only at hSw); go_simp; try (with_reducible rfl))
                  case hj27 => (go_simp; exact rfl)
                  case zj27 =>
                  refine wpAnyH_to (i := 28) (v := ?vj28) (a1 := ?xj28) rfl (by kernel_rfl) (by kernel_rfl) (by kernel_rfl) (fun _ _ _ h => h) (Or.inl ⟨by rfl, ?yj28⟩) (by assumption) ?hj28 ?zj28
                  case yj28 => (intro w hSw; (try dsimp only at hSw); go_simp; try (with_reducible rfl))
                  case hj28 => (go_simp; exact rfl)
                  case zj28 =>
                  refine wpAnyH_to (i := 29) (v := ?vj29) (a1 := ?xj29) rfl (by kernel_rfl) (by kernel_rfl) (by kernel_rfl) (fun _ _ _ h => h) (Or.inl ⟨by rfl, ?yj29⟩) (by assumption) ?hj29 ?zj29
                  case yj29 => (intro w hSw; (try dsimp only at hSw); go_simp; try (with_reducible rfl))
                  case hj29 => (go_simp; exact rfl)
                  case zj29 =>
                  refine wpAnyH_to (i := 30) (v := ?vj30) (a1 := ?xj30) rfl (by kernel_rfl) (by kernel_rfl) (by kernel_rfl) (fun _ _ _ h => h) (Or.inl ⟨by rfl, ?yj30⟩) (by assumption) ?hj30 ?zj30
                  case yj30 => (intro w hSw; (try dsimp only at hSw); go_simp; try (with_reducible rfl))
                  case hj30 => (go_simp; exact rfl)
                  case zj30 =>
                  refine wpAnyH_to (i := 31) (v := ?vj31) (a1 := ?xj31) rfl (by kernel_rfl) (by kernel_rfl) (by kernel_rfl) (fun _ _ _ h => h) (Or.inl ⟨by rfl, ?yj31⟩) (by assumption) ?hj31 ?zj31
                  case yj31 => (intro w hSw; (try dsimp only at hSw); go_simp; try (with_reducible rfl))
                  case hj31 => (go_simp; exact rfl)
                  case zj31 =>
                  refine wpAnyH_to (i := 32) (v := ?vj32) (a1 := ?xj32) rfl (by kernel_rfl) (by kernel_rfl) (by kernel_rfl) (fun _ _ _ h => h) (Or.inl ⟨by rfl, ?yj32⟩) (by assumption) ?hj32 ?zj32
                  case yj32 => (intro w hSw; (try dsimp only at hSw); go_simp; try (with_reducible rfl))
                  case hj32 => (go_simp; exact rfl)
                  case zj32 =>
                  refine wpAnyH_ready (rs := [33]) (by kernel_rfl) (by simp) ?_
                  refine AllReadyH.cons rfl (fun K hK => ?_) AllReadyH.nil
                  go_simp
                  refine (O5.out _ (SB.out _ (by assumption))).mono ?_
                  rintro e w6 ⟨Bq, rfl, HQ, h6⟩
                  try go_wp2_with fail
                  refine hK.out _ _ (SK.out _ (by assumption)) (fun hHeld2 => ?_)
                  clear hK K hHeld
                  have hHeld := hHeld2
                  clear hHeld2
                  refine wpAnyH_ready (rs := [34]) (by kernel_rfl) (by simp) ?_
                  refine AllReadyH.cons rfl (fun K hK => ?_) AllReadyH.nil
                  go_simp
                  refine (E5.out _ _ (SB.out _ (by assumption)) (by assumption)).mono ?_
                  rintro e w6 ⟨rfl, h6⟩
                  try go_wp2_with fail
                  refine hK.out _ _ (SK.out _ (by assumption)) (fun hHeld2 => ?_)
                  clear hK K hHeld
                  have hHeld := hHeld2
                  clear hHeld2
                  refine wpAnyH_to (i := 35) (v := ?vj35) (a1 := ?xj35) rfl (by kernel_rfl) (by kernel_rfl) (by kernel_rfl) (fun _ _ _ h => h) (Or.inl ⟨by rfl, ?yj35⟩) (by assumption) ?hj35 ?zj35
                  case yj35 => (intro w hSw; (try dsimp only at hSw); go_simp; try (with_reducible rfl))
                  case hj35 => (go_simp; exact rfl)
                  case zj35 =>
                  refine wpAnyH_to (i := 36) (v := ?vj36) (a1 := ?xj36) rfl (by kernel_rfl) (by kernel_rfl) (by kernel_rfl) (fun _ _ _ h => h) (Or.inl ⟨by rfl, ?yj36⟩) (by assumption) ?hj36 ?zj36
                  case yj36 => (intro w hSw; (try dsimp only at hSw); go_simp; try (with_reducible rfl))
                  case hj36 => (go_simp; exact rfl)
                  case zj36 =>
                  refine wpAnyH_to (i := 37) (v := ?vj37) (a1 := ?xj37) rfl (by kernel_rfl) (by kernel_rfl) (by kernel_rfl) (fun _ _ _ h => h) (Or.inl ⟨by rfl, ?yj37⟩) (by assumption) ?hj37 ?zj37
                  case yj37 => (intro w hSw; (try dsimp only at hSw); go_simp; try (with_reducible rfl))
                  case hj37 => (go_simp; exact rfl)
                  case zj37 =>
                  refine wpAnyH_to (i := 39) (v := ?vj39) (a1 := ?xj39) rfl (by kernel_rfl) (by kernel_rfl) (by kernel_rfl) (fun _ _ _ h => h) (Or.inl ⟨by rfl, ?yj39⟩) (by assumption) ?hj39 ?zj39
                  case yj39 => (intro w hSw; (try dsimp only at hSw); go_simp; try (with_reducible rfl))
                  case hj39 => (go_simp; exact rfl)
                  case zj39 =>
                  refine wpAnyH_to (i := 41) (v := ?vj41) (a1 := ?xj41) rfl (by kernel_rfl) (by kernel_rfl) (by kernel_rfl) (fun _ _ _ h => h) (Or.inl ⟨by rfl, ?yj41⟩) (by assumption) ?hj41 ?zj41
                  case yj41 => (intro w hSw; (try dsimp only at hSw); go_simp; try (with_reducible rfl))
                  case hj41 => (go_simp; exact rfl)
                  case zj41 =>
                  refine wpAnyH_ready (rs := [38]) (by kernel_rfl) (by simp) ?_
                  refine AllReadyH.cons rfl (fun K hK => ?_) AllReadyH.nil
                  go_simp
                  refine (K1.out _ (SB.out _ (by assumption))).mono ?_
                  rintro e w6 ⟨rfl, h6⟩
                  try go_wp2_with fail
                  refine hK.out _ _ (SK.out _ (by assumption)) (fun hHeld2 => ?_)
                  clear hK K hHeld
                  have hHeld := hHeld2
                  clear hHeld2
                  refine wpAnyH_ready (rs := [40]) (by kernel_rfl) (by simp) ?_
                  refine AllReadyH.cons rfl (fun K hK => ?_) AllReadyH.nil
                  go_simp
                  refine (K1.out _ (SB.out _ (by assumption))).mono ?_
                  rintro e w6 ⟨rfl, h6⟩
                  try go_wp2_with fail
                  refine hK.out _ _ (SK.out _ (by assumption)) (fun hHeld2 => ?_)
                  clear hK K hHeld
                  have hHeld := hHeld2
                  clear hHeld2
                  refine wpAnyH_ready (rs := [42]) (by kernel_rfl) (by simp) ?_
                  refine AllReadyH.cons rfl (fun K hK => ?_) AllReadyH.nil
                  go_simp
                  refine (K2.out _ (SB.out _ (by assumption))).mono ?_
                  rintro e w6 ⟨rfl, h6⟩
                  try go_wp2_with fail
                  refine hK.out _ _ (SK.out _ (by assumption)) (fun hHeld2 => ?_)
                  clear hK K hHeld
                  have hHeld := hHeld2
                  clear hHeld2
                  refine wpAnyH_ready (rs := [43]) (by kernel_rfl) (by simp) ?_
                  refine AllReadyH.cons rfl (fun K hK => ?_) AllReadyH.nil
                  go_simp
                  refine (K3.out _ (SB.out _ (by assumption))).mono ?_
                  rintro e w6 ⟨rfl, h6⟩
                  try go_wp2_with fail
                  refine hK.out _ _ (SK.out _ (by assumption)) (fun hHeld2 => ?_)
                  clear hK K hHeld
                  have hHeld := hHeld2
                  clear hHeld2
                  refine wpAnyH_to (i := 44) (v := ?vj44) (a1 := ?xj44) rfl (by kernel_rfl) (by kernel_rfl) (by kernel_rfl) (fun _ _ _ h => h) (Or.inl ⟨by rfl, ?yj44⟩) (by assumption) ?hj44 ?zj44
                  case yj44 => (intro w hSw; (try dsimp only at hSw); go_simp; try (with_reducible rfl))
                  case hj44 => (go_simp; exact rfl)
                  case zj44 =>
                  refine wpAnyH_to (i := 45) (v := ?vj45) (a1 := ?xj45) rfl (by kernel_rfl) (by kernel_rfl) (by kernel_rfl) (fun _ _ _ h => h) (Or.inl ⟨by rfl, ?yj45⟩) (by assumption) ?hj45 ?zj45
                  case yj45 => (intro w hSw; (try dsimp only at hSw); go_simp; try (with_reducible rfl))
                  case hj45 => (go_simp; exact rfl)
                  case zj45 =>
                  refine wpAnyH_to (i := 46) (v := ?vj46) (a1 := ?xj46) rfl (by kernel_rfl) (by kernel_rfl) (by kernel_rfl) (fun _ _ _ h => h) (Or.inl ⟨by rfl, ?yj46⟩) (by assumption) ?hj46 ?zj46
                  case yj46 => (intro w hSw; (try dsimp only at hSw); go_simp; try (with_reducible rfl))
                  case hj46 => (go_simp; exact rfl)
                  case zj46 =>
                  refine wpAnyH_done (by kernel_rfl) ?_ _
                  have H7 := hide (SB.out _ (by assumption))
                  clear O1 O3 O4 O5 E1 E2 E3 E4 E5 K1 K2 K3 SK SB
                  go_wp2_with fail
                  go_ret
                  rw [HR.out]
                  exact ⟨rfl, H7.out.1.2.2⟩
end Go.Proofs.YtbcadeikdmlpoaaGreatDoor
