/-
  The tree's builder: take; the counts, capped.
-/
import Derived.Test.YtkdppcpkigpmdaaG24
import Derived.Laws.Rows
namespace Go.Proofs.Ytkdppcpkigpmdaa
open Go.RowKit
open Utf1

set_option maxRecDepth 100000 in
set_option maxHeartbeats 8000000 in
theorem capped_any (o n : Nat) (w : World) :
    Calls Try.prog 22 #[.agg #[.int .i64 (o : Int), .int .i64 (n : Int)]] w fun e w' => e = .returned (.agg #[.int .i64 (min (o : Int) 64), .int .i64 (min (n : Int) 2000)]) ∧ Below w.heap.size w w' := by
  go_enter Try.func22, Try.ntmps22
  go_wp2_with fail
  refine bodyPost_ret (results_cell_row rfl _ _ (w.heap.size + 1) 47 #[.int .i64 (min (o : Int) 64), .int .i64 (min (n : Int) 2000)] (0, 0) _ rfl ?_ Try.underlying47 rfl (by kernel_rfl)) rfl ?_
  · exact heap_alloc2_new _ _ _
  · exact ⟨rfl, ((Below.refl _ _).alloc (Nat.le_refl _) _).alloc (by simp) _⟩

set_option maxRecDepth 100000 in
set_option maxHeartbeats 8000000 in
theorem take_st (w : World) (base B : Nat) (s : Bs) (kind : Int) (name text : ByteArray) (cl : Bool) (ap : Option Addr) (am ac : Nat) (at' : List (List UInt8 × List UInt8)) (h : SB w base B s) (hg : Good s) (ht : s.t.length + text.size ≤ 100000000) (ho : s.o ≤ 100000) (hn : s.n ≤ 80000) (hs : name.size ≤ 281474976710656) (hcl : Clones w base (.slice ap am ac) at') :
    Calls Try.prog 21 #[.pointer (some ⟨B, 0, none⟩), .agg #[.int .i64 kind, .string name, .slice ap am ac, .bool cl, .string text]] w fun e w' => e = .returned (.tuple #[]) ∧ SB w' base B (takeB ⟨kind, bl name, at', bl text⟩ s) ∧ Below base w w' := by
  obtain ⟨w1, hw1⟩ : ∃ w1, w1 = w.alloc (.cells #[.int .i64 kind, .string name, .slice ap am ac, .bool cl, .string text] 36) := ⟨_, rfl⟩
  have hb1 : Below w.heap.size w w1 := by rw [hw1]; exact (Below.refl _ _).alloc (Nat.le_refl _) _
  have hs1 : SB w1 base B s := St.under h hb1
  have HB1 := hide (hb1.mono h.base)
  have HCL := hide (hcl.on HB1.out)
  have HSZ := hide h.base
  have c0 : w1.cell? ⟨w.heap.size, 0, none⟩ = some (.int .i64 kind) := by rw [hw1, new_cell]; rfl
  have c1 : w1.cell? ⟨w.heap.size, 1, none⟩ = some (.string name) := by rw [hw1, new_cell]; rfl
  have c2 : w1.cell? ⟨w.heap.size, 2, none⟩ = some (.slice ap am ac) := by rw [hw1, new_cell]; rfl
  have c4 : w1.cell? ⟨w.heap.size, 4, none⟩ = some (.string text) := by rw [hw1, new_cell]; rfl
  have HS := hide hs1
  have HG := hide hg
  clear h hg hcl hs1 hb1
  by_cases k1 : kind = 1
  · have HE : Hid (takeB ⟨kind, bl name, at', bl text⟩ s = textB (bl text) s) := hide (by unfold takeB; rw [if_pos k1])
    rw [HE.out]
    subst k1
    clear HCL HE
    go_enter Try.func21, Try.ntmps21
    go_wp2_with fail
    rw [← hw1]
    clear hw1
    go_wp2_with fail
    refine (addText_st w1 base B s.r.reverse s.t s.o s.n text HS.out ht (by omega)).mono ?_
    rintro e w2 ⟨rfl, m1, m2⟩
    have HE := hide (And.intro m1 (HB1.out.trans m2))
    clear m1 m2 HS HB1
    go_wp2_with fail
    go_end0
    exact ⟨rfl, HE.out⟩
  have f1 : (kind == 1) = false := beq_eq_false_iff_ne.2 k1
  by_cases k2 : kind = 2
  · have HE : Hid (takeB ⟨kind, bl name, at', bl text⟩ s = startB (bl name) at' s) := hide (by unfold takeB; rw [if_neg k1, if_pos k2])
    rw [HE.out]
    subst k2
    have HST := hide (start_st w1 base B s name HS.out HG.out (by omega) ho (by omega) hs (.slice ap am ac) at' HCL.out)
    clear HCL HE HS
    go_enter Try.func21, Try.ntmps21
    go_wp2_with fail
    rw [← hw1]
    clear hw1
    go_wp2_with fail
    refine HST.out.mono ?_
    rintro e w2 ⟨rfl, m1, m2⟩
    have HE := hide (And.intro m1 (HB1.out.trans m2))
    clear m1 m2 HST HB1
    go_wp2_with fail
    go_end0
    exact ⟨rfl, HE.out⟩
  have f2 : (kind == 2) = false := beq_eq_false_iff_ne.2 k2
  by_cases k3 : kind = 3
  · have HE : Hid (takeB ⟨kind, bl name, at', bl text⟩ s = endB (bl name) s) := hide (by unfold takeB; rw [if_neg k1, if_neg k2, if_pos k3])
    rw [HE.out]
    subst k3
    have HST := hide (end_st w1 base B s name HS.out HG.out (by omega) ho hn)
    clear HCL HE HS
    go_enter Try.func21, Try.ntmps21
    go_wp2_with fail
    rw [← hw1]
    clear hw1
    go_wp2_with fail
    refine HST.out.mono ?_
    rintro e w2 ⟨rfl, m1, m2⟩
    have HE := hide (And.intro m1 (HB1.out.trans m2))
    clear m1 m2 HST HB1
    go_wp2_with fail
    go_end0
    exact ⟨rfl, HE.out⟩
  · have f3 : (kind == 3) = false := beq_eq_false_iff_ne.2 k3
    have HE : Hid (takeB ⟨kind, bl name, at', bl text⟩ s = s) := hide (by unfold takeB; rw [if_neg k1, if_neg k2, if_neg k3])
    rw [HE.out]
    clear HCL HE
    go_enter Try.func21, Try.ntmps21
    go_wp2_with fail
    rw [← hw1]
    clear hw1
    go_wp2_with fail
    go_end0
    exact ⟨rfl, HS.out, HB1.out⟩
end Go.Proofs.Ytkdppcpkigpmdaa
