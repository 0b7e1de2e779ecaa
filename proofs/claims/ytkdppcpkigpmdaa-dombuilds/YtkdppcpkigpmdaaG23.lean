/-
  The tree's builder: start of any name; end.
-/
import Derived.Test.YtkdppcpkigpmdaaG21
import Derived.Test.YtkdppcpkigpmdaaG22
namespace Go.Proofs.Ytkdppcpkigpmdaa
open Go.RowKit
open Utf1

/-- The builder, as it stands in memory. -/
def SB (w : World) (base B : Nat) (s : Bs) : Prop := St w base B s.r.reverse s.t s.o s.n
theorem SB.base {w : World} {base B : Nat} {s : Bs} (h : SB w base B s) : base ≤ w.heap.size := by
  obtain ⟨_, _, h0, _⟩ := h
  exact h0.2.1
theorem Clones.on {w w' : World} {base : Nat} {av : Value} {at' : List (List UInt8 × List UInt8)} (h : Clones w base av at') (hb : Below base w w') : Clones w' base av at' := fun wx h1 h2 => h wx h1 (hb.trans h2)

set_option maxRecDepth 100000 in
set_option maxHeartbeats 8000000 in
theorem start_st (w : World) (base B : Nat) (s : Bs) (name : ByteArray) (h : SB w base B s) (hg : Good s) (ht : s.t.length ≤ 100000000) (ho : s.o ≤ 100000) (hn : s.n ≤ 90000) (hs : name.size ≤ 281474976710656) (av : Value) (at' : List (List UInt8 × List UInt8)) (hcl : Clones w base av at') :
    Calls Try.prog 32 #[.pointer (some ⟨B, 0, none⟩), .string name, av] w fun e w' => e = .returned (.tuple #[]) ∧ SB w' base B (startB (bl name) at' s) ∧ Below base w w' := by
  have hc := hg.cnt
  by_cases hne : bl name = []
  · have f0 := eqlit name []
    rw [decide_eq_true hne] at f0
    have f1 : name.toList.isEmpty = true := by
      cases hh : name.toList with
      | nil => rfl
      | cons => rw [hh] at f0; cases f0
    have HE : Hid (SB w base B (startB (bl name) at' s)) := hide (by
      have : startB (bl name) at' s = s := by
        unfold startB startR
        rw [if_pos hne]
      rw [this]
      exact h)
    clear h hg hcl hc
    go_enter Try.func32, Try.ntmps32
    go_wp2_with fail
    refine bodyPost_ret (results_none rfl _ _ _) rfl ?_
    exact ⟨rfl, HE.out, Below.refl _ _⟩
  · by_cases hv : bl name ∈ voids
    · exact start_void w base B s.r s.t s.o s.n name h hg.ne hg.root (by omega) ht (by omega) hs hne hv av at' hcl
    · exact start_open w base B s.r s.t s.o s.n name h hg.ne hg.root (by omega) ht (by omega) hs hne ho hv av at' hcl

set_option maxRecDepth 100000 in
set_option maxHeartbeats 8000000 in
theorem end_found (w : World) (base B : Nat) (s : Bs) (name : ByteArray) (h : SB w base B s) (hg : Good s) (ht : s.t.length ≤ 100000000) (hn : s.n ≤ 90000) (hi : 0 < innerR [bl name] s.r) :
    Calls Try.prog 33 #[.pointer (some ⟨B, 0, none⟩), .string name] w fun e w' => e = .returned (.tuple #[]) ∧ SB w' base B (shutB (innerR [bl name] s.r) s) ∧ Below base w w' := by
  have hc := hg.cnt
  have hrl := len_cnt s.r
  have hlt := innerR_lt [bl name] s.r hg.ne
  have HI : Hid (∀ ty, Calls Try.prog 45 #[.pointer (some ⟨B, 0, none⟩), .slice (some ⟨w.heap.size, 0, none⟩) 1 1] (w.alloc (.cells #[.string name] ty)) fun e w' => e = .returned (.int .i64 (innerR [bl name] s.r : Int)) ∧ w' = w.alloc (.cells #[.string name] ty)) := hide (fun ty => inner_lit w base B s.r s.t s.o s.n [name] #[.string name] ty rfl h (by omega) (by omega) (by show 1 ≤ 100000; omega))
  have HC : Hid (∀ ty, Calls Try.prog 23 #[.pointer (some ⟨B, 0, none⟩), .int .i64 (innerR [bl name] s.r : Int)] (w.alloc (.cells #[.string name] ty)) fun e w' => e = .returned (.tuple #[]) ∧ SB w' base B (shutB (innerR [bl name] s.r) s) ∧ Below base w w') := hide (by
    intro ty
    refine (closeFrom_st _ base B (innerR [bl name] s.r) s.r s.t s.o s.n (St.under h ((Below.refl _ _).alloc (Nat.le_refl _) _)) hi (by omega) (by omega) ht).mono ?_
    rintro e w' ⟨rfl, q1, q2⟩
    exact ⟨rfl, q1, ((Below.refl base w).alloc h.base _).trans q2⟩)
  obtain ⟨Z, hZ⟩ : ∃ Z, Z = shutB (innerR [bl name] s.r) s := ⟨_, rfl⟩
  obtain ⟨a, ha⟩ : ∃ a, a = innerR [bl name] s.r := ⟨_, rfl⟩
  rw [← hZ] at HC ⊢
  rw [← ha] at HC HI hi
  have hd : decide ((0 : Int) < (a : Int)) = true := decide_eq_true (by omega)
  clear h hg hZ ha hc hrl hlt
  go_enter Try.func33, Try.ntmps33
  go_wp2_with fail
  refine (HI.out _).mono ?_
  rintro e w1 ⟨rfl, rfl⟩
  go_wp2_with fail
  refine (HC.out _).mono ?_
  rintro e w2 ⟨rfl, m1, m2⟩
  have HE := hide (And.intro m1 m2)
  clear m1 m2 HC HI
  go_wp2_with fail
  go_end0
  exact ⟨rfl, HE.out⟩
end Go.Proofs.Ytkdppcpkigpmdaa
