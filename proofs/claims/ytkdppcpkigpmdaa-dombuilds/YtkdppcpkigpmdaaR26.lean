/-
  The document's builder: take of starts, ends and of what is nothing.
-/
import Derived.Test.YtkdppcpkigpmdaaR25
namespace Go.Proofs.Ytkdppcpkigpmdaa
open Go.RowKit
open Utf1

/-- The document's builder, as plain data. -/
structure Fs where
  fl : List Fl
  op : List Nat
  bad : Bool
def startF (name : List UInt8) (at' : List (List UInt8 × List UInt8)) (ap : Option Addr) (am ac : Nat) (s : Fs) : Fs :=
  ⟨s.fl ++ [⟨name, at', [], hereF (rway name s.fl s.op), ap, am, ac⟩], if name ∈ voids then rway name s.fl s.op else rway name s.fl s.op ++ [s.fl.length], if name ∈ voids then s.bad || decide (2000 < s.fl.length + 1) else s.bad || decide (2000 < s.fl.length + 1) || decide (64 < (rway name s.fl s.op).length + 1)⟩
def endF (name : List UInt8) (s : Fs) : Fs :=
  if 0 < innerF [name] (nmsF s.fl s.op) then ⟨s.fl, rclose name s.fl s.op, s.bad⟩
  else if name = [112] then (let u := startF [112] [] none 0 0 s; ⟨u.fl, rclose [112] u.fl u.op, u.bad⟩)
  else if name = [98, 114] then startF [98, 114] [] none 0 0 s
  else s
def FBs (w : World) (base R : Nat) (s : Fs) : Prop := FB w base R s.fl s.op s.bad
theorem rway_sub (name : List UInt8) (fl : List Fl) (op : List Nat) : (∀ k ∈ rway name fl op, k ∈ op) ∧ (rway name fl op).length ≤ op.length := by
  have h := rway1_sub name fl op
  unfold rway
  split
  · exact ⟨fun k hk => h.1 k (List.mem_of_mem_take hk), by rw [List.length_take]; omega⟩
  · exact h
theorem startF_in (name : List UInt8) (at' : List (List UInt8 × List UInt8)) (ap : Option Addr) (am ac : Nat) (s : Fs) (h : ∀ k ∈ s.op, k < s.fl.length) : (∀ k ∈ (startF name at' ap am ac s).op, k < (startF name at' ap am ac s).fl.length) ∧ (startF name at' ap am ac s).op.length ≤ s.op.length + 1 ∧ (startF name at' ap am ac s).fl.length = s.fl.length + 1 := by
  have hs := rway_sub name s.fl s.op
  have hl : (startF name at' ap am ac s).fl.length = s.fl.length + 1 := by simp [startF]
  refine ⟨?_, ?_, hl⟩
  · intro k hk
    rw [hl]
    unfold startF at hk
    simp only [] at hk
    split at hk
    · have := h k (hs.1 k hk); omega
    · rcases List.mem_append.1 hk with hk | hk
      · have := h k (hs.1 k hk); omega
      · simp only [List.mem_singleton] at hk; omega
  · unfold startF
    simp only []
    split
    · omega
    · rw [List.length_append]
      simp only [List.length_singleton]
      omega

set_option maxRecDepth 100000 in
set_option maxHeartbeats 8000000 in
theorem rtake_start (w : World) (base R : Nat) (s : Fs) (name text : ByteArray) (cl : Bool) (ap : Option Addr) (am ac : Nat) (at' : List (List UInt8 × List UInt8)) (h : FBs w base R s) (hin : ∀ k ∈ s.op, k < s.fl.length) (hl : s.op.length ≤ 9000) (hlf : s.fl.length ≤ 9000) :
    Calls Try.prog 25 #[.pointer (some ⟨R, 0, none⟩), .agg #[.int .i64 2, .string name, .slice ap am ac, .bool cl, .string text]] w fun e w' => e = .returned (.tuple #[]) ∧ FBs w' base R (startF (bl name) at' ap am ac s) ∧ Bel base w w' := by
  obtain ⟨w1, hw1⟩ : ∃ w1, w1 = w.alloc (.cells #[.int .i64 2, .string name, .slice ap am ac, .bool cl, .string text] 36) := ⟨_, rfl⟩
  have hb1 : Below w.heap.size w w1 := by rw [hw1]; exact (Below.refl _ _).alloc (Nat.le_refl _) _
  have c0 : w1.cell? ⟨w.heap.size, 0, none⟩ = some (.int .i64 2) := by rw [hw1, new_cell]; rfl
  have c1 : w1.cell? ⟨w.heap.size, 1, none⟩ = some (.string name) := by rw [hw1, new_cell]; rfl
  have c2 : w1.cell? ⟨w.heap.size, 2, none⟩ = some (.slice ap am ac) := by rw [hw1, new_cell]; rfl
  have HS := hide (rstart_st w1 base R s.fl s.op s.bad name ap am ac at' (FB.under h hb1) hin (by omega) (by omega))
  have HB1 := hide (Bel.of hb1 h.2.1)
  obtain ⟨Z, hZ⟩ : ∃ Z, Z = startF (bl name) at' ap am ac s := ⟨_, rfl⟩
  replace HS : Hid (Calls Try.prog 39 #[.pointer (some ⟨R, 0, none⟩), .string name, .slice ap am ac] w1 fun e w' => e = .returned (.tuple #[]) ∧ FBs w' base R Z ∧ Bel base w1 w') := hide (by rw [hZ]; exact HS.out)
  rw [← hZ]
  clear h hb1 hin hZ
  go_enter Try.func25, Try.ntmps25
  go_wp2_with fail
  rw [← hw1]
  clear hw1
  go_wp2_with fail
  refine HS.out.mono ?_
  rintro e w3 ⟨rfl, m1, m2⟩
  have HE := hide (And.intro m1 (HB1.out.trans m2))
  clear m1 m2 HS HB1
  go_wp2_with fail
  go_end0
  exact ⟨rfl, HE.out⟩

set_option maxRecDepth 100000 in
set_option maxHeartbeats 8000000 in
theorem rtake_none (w : World) (base R : Nat) (s : Fs) (kind : Int) (name text : ByteArray) (cl : Bool) (ap : Option Addr) (am ac : Nat) (h : FBs w base R s) (hk : (kind = 1 ∧ bl text = []) ∨ (kind ≠ 1 ∧ kind ≠ 2 ∧ kind ≠ 3)) :
    Calls Try.prog 25 #[.pointer (some ⟨R, 0, none⟩), .agg #[.int .i64 kind, .string name, .slice ap am ac, .bool cl, .string text]] w fun e w' => e = .returned (.tuple #[]) ∧ FBs w' base R s ∧ Bel base w w' := by
  obtain ⟨w1, hw1⟩ : ∃ w1, w1 = w.alloc (.cells #[.int .i64 kind, .string name, .slice ap am ac, .bool cl, .string text] 36) := ⟨_, rfl⟩
  have hb1 : Below w.heap.size w w1 := by rw [hw1]; exact (Below.refl _ _).alloc (Nat.le_refl _) _
  have c0 : w1.cell? ⟨w.heap.size, 0, none⟩ = some (.int .i64 kind) := by rw [hw1, new_cell]; rfl
  have c4 : w1.cell? ⟨w.heap.size, 4, none⟩ = some (.string text) := by rw [hw1, new_cell]; rfl
  have HE : Hid (FBs w1 base R s ∧ Bel base w w1) := hide ⟨FB.under h hb1, Bel.of hb1 h.2.1⟩
  clear h hb1
  rcases hk with ⟨rfl, ht⟩ | ⟨k1, k2, k3⟩
  · have f0 := eqlit text []
    rw [decide_eq_true ht] at f0
    have f1 : text.toList.isEmpty = true := by
      cases hh : text.toList with
      | nil => rfl
      | cons => rw [hh] at f0; cases f0
    clear ht f0
    go_enter Try.func25, Try.ntmps25
    go_wp2_with fail
    rw [← hw1]
    clear hw1
    go_wp2_with fail
    refine bodyPost_ret (results_none rfl _ _ _) rfl ?_
    exact ⟨rfl, HE.out⟩
  · have f1 : (kind == 1) = false := beq_eq_false_iff_ne.2 k1
    have f2 : (kind == 2) = false := beq_eq_false_iff_ne.2 k2
    have f3 : (kind == 3) = false := beq_eq_false_iff_ne.2 k3
    go_enter Try.func25, Try.ntmps25
    go_wp2_with fail
    rw [← hw1]
    clear hw1
    go_wp2_with fail
    go_end0
    exact ⟨rfl, HE.out⟩

set_option maxRecDepth 100000 in
set_option maxHeartbeats 8000000 in
theorem rtake_end (w : World) (base R : Nat) (s : Fs) (name text : ByteArray) (cl : Bool) (ap : Option Addr) (am ac : Nat) (h : FBs w base R s) (hin : ∀ k ∈ s.op, k < s.fl.length) (hl : s.op.length ≤ 9000) (hlf : s.fl.length ≤ 9000) :
    Calls Try.prog 25 #[.pointer (some ⟨R, 0, none⟩), .agg #[.int .i64 3, .string name, .slice ap am ac, .bool cl, .string text]] w fun e w' => e = .returned (.tuple #[]) ∧ FBs w' base R (endF (bl name) s) ∧ Bel base w w' := by
  obtain ⟨w1, hw1⟩ : ∃ w1, w1 = w.alloc (.cells #[.int .i64 3, .string name, .slice ap am ac, .bool cl, .string text] 36) := ⟨_, rfl⟩
  have hb1 : Below w.heap.size w w1 := by rw [hw1]; exact (Below.refl _ _).alloc (Nat.le_refl _) _
  have hbox : w1.heap[w.heap.size]? = some (.cells #[.int .i64 3, .string name, .slice ap am ac, .bool cl, .string text] 36 (0, 0)) := by rw [hw1]; exact heap_alloc_new _ _
  have c0 : w1.cell? ⟨w.heap.size, 0, none⟩ = some (.int .i64 3) := tag_cell hbox 0 _ rfl
  have c1 : w1.cell? ⟨w.heap.size, 1, none⟩ = some (.string name) := tag_cell hbox 1 _ rfl
  have HC := hide (close_st w1 base R s.fl s.op s.bad name (FB.under h hb1) hin (by omega) (by omega))
  have HB1 := hide (Bel.of hb1 h.2.1)
  have HBOX := hide hbox
  obtain ⟨Nw, hNw⟩ : ∃ Nw, Nw = w.heap.size := ⟨_, rfl⟩
  rw [← hNw] at c0 c1 HBOX
  have HNw := hide hNw
  have hin2 := hin
  have HU : Hid (FBs w1 base R s) := hide (FB.under h hb1)
  obtain ⟨Z, hZ⟩ : ∃ Z, Z = endF (bl name) s := ⟨_, rfl⟩
  rw [← hZ]
  by_cases hk : 0 < innerF [bl name] (nmsF s.fl s.op)
  · have hE : Z = ⟨s.fl, rclose (bl name) s.fl s.op, s.bad⟩ := by rw [hZ]; unfold endF; rw [if_pos hk]
    have HC2 : Hid (Calls Try.prog 40 #[.pointer (some ⟨R, 0, none⟩), .string name] w1 fun e w' => e = .returned (.bool true) ∧ FBs w' base R Z ∧ Bel base w1 w') := hide (by
      refine HC.out.mono ?_
      rintro e w' ⟨rfl, m1, m2⟩
      rw [decide_eq_true hk, hE]
      exact ⟨rfl, m1, m2⟩)
    clear h hb1 hbox HC hZ hE hk hin hin2 HU HBOX
    go_enter Try.func25, Try.ntmps25
    go_wp2_with fail
    rw [← hw1, ← HNw.out]
    clear hw1 hNw HNw
    go_wp2_with fail
    refine HC2.out.mono ?_
    rintro e w3 ⟨rfl, m1, m2⟩
    have HE := hide (And.intro m1 (HB1.out.trans m2))
    clear m1 m2 HC2 HB1
    go_wp2_with fail
    refine bodyPost_ret (results_none rfl _ _ _) rfl ?_
    exact ⟨rfl, HE.out⟩
  have HC2 : Hid (Calls Try.prog 40 #[.pointer (some ⟨R, 0, none⟩), .string name] w1 fun e w' => e = .returned (.bool false) ∧ FBs w' base R s ∧ Bel base w1 w') := hide (by
    refine HC.out.mono ?_
    rintro e w' ⟨rfl, m1, m2⟩
    rw [if_neg hk] at m1
    rw [decide_eq_false hk]
    exact ⟨rfl, m1, m2⟩)
  have f1 := eqlit name [112]
  have f2 := eqlit name [98, 114]
  by_cases hp : bl name = [112]
  · rw [decide_eq_true hp] at f1
    rw [hp] at f2
    have f2 : (name.toList == [98, 114]) = false := f2.trans (by decide)
    have hsi := startF_in [112] [] none 0 0 s hin
    obtain ⟨Y, hY⟩ : ∃ Y, Y = startF [112] [] none 0 0 s := ⟨_, rfl⟩
    rw [← hY] at hsi
    have hE : Z = ⟨Y.fl, rclose [112] Y.fl Y.op, Y.bad⟩ := by rw [hZ, hY]; unfold endF; rw [if_neg hk, if_pos hp]
    have HST : Hid (∀ wx, FBs wx base R s → Calls Try.prog 39 #[.pointer (some ⟨R, 0, none⟩), .string ⟨#[112]⟩, .slice none 0 0] wx fun e w' => e = .returned (.tuple #[]) ∧ FBs w' base R Y ∧ Bel base wx w') := hide (by
      intro wx hx
      rw [hY]
      exact rstart_st wx base R s.fl s.op s.bad ⟨#[112]⟩ none 0 0 [] hx hin (by omega) (by omega))
    have HCP : Hid (∀ wx, FBs wx base R Y → Calls Try.prog 40 #[.pointer (some ⟨R, 0, none⟩), .string ⟨#[112]⟩] wx fun e w' => (∃ b, e = .returned (.bool b)) ∧ FBs w' base R Z ∧ Bel base wx w') := hide (by
      intro wx hx
      refine (close_st wx base R Y.fl Y.op Y.bad ⟨#[112]⟩ hx hsi.1 (by omega) (by omega)).mono ?_
      rintro e w' ⟨rfl, m1, m2⟩
      rw [hE]
      exact ⟨⟨_, rfl⟩, m1, m2⟩)
    clear h hb1 hbox HC hZ hE hk hin hin2 HU hY hsi hp
    go_enter Try.func25, Try.ntmps25
    go_wp2_with fail
    rw [← hw1, ← HNw.out]
    clear hw1 hNw HNw
    go_wp2_with fail
    refine HC2.out.mono ?_
    rintro e w2 ⟨rfl, m1, m2⟩
    have HBX2 := hide (m2.t _ _ _ HBOX.out)
    have n1 : w2.cell? ⟨Nw, 1, none⟩ = some (.string name) := tag_cell HBX2.out 1 _ rfl
    have HS2 := hide (HST.out w2 m1)
    have HB2 := hide (HB1.out.trans m2)
    clear m1 m2 HC2 HB1 HBOX HST c0 c1
    go_wp2_with fail
    refine HS2.out.mono ?_
    rintro e w3 ⟨rfl, m1, m2⟩
    have HBX3 := hide (m2.t _ _ _ HBX2.out)
    have HC3 := hide (HCP.out w3 m1)
    have HB3 := hide (HB2.out.trans m2)
    clear m1 m2 HS2 HB2 HBX2 HCP n1
    go_wp2_with fail
    refine HC3.out.mono ?_
    rintro e w4 ⟨⟨b, rfl⟩, m1, m2⟩
    have hbx4 := m2.t _ _ _ HBX3.out
    have n1 : w4.cell? ⟨Nw, 1, none⟩ = some (.string name) := tag_cell hbx4 1 _ rfl
    have HE := hide (And.intro m1 (HB3.out.trans m2))
    clear m1 m2 HC3 HB3 HBX3 hbx4
    go_wp2_with fail
    go_end0
    exact ⟨rfl, HE.out⟩
  rw [decide_eq_false hp] at f1
  by_cases hbr : bl name = [98, 114]
  · rw [decide_eq_true hbr] at f2
    have hE : Z = startF [98, 114] [] none 0 0 s := by rw [hZ]; unfold endF; rw [if_neg hk, if_neg hp, if_pos hbr]
    have HST : Hid (∀ wx, FBs wx base R s → Calls Try.prog 39 #[.pointer (some ⟨R, 0, none⟩), .string ⟨#[98, 114]⟩, .slice none 0 0] wx fun e w' => e = .returned (.tuple #[]) ∧ FBs w' base R Z ∧ Bel base wx w') := hide (by
      intro wx hx
      rw [hE]
      exact rstart_st wx base R s.fl s.op s.bad ⟨#[98, 114]⟩ none 0 0 [] hx hin (by omega) (by omega))
    clear h hb1 hbox HC hZ hE hk hin hin2 HU hp hbr
    go_enter Try.func25, Try.ntmps25
    go_wp2_with fail
    rw [← hw1, ← HNw.out]
    clear hw1 hNw HNw
    go_wp2_with fail
    refine HC2.out.mono ?_
    rintro e w2 ⟨rfl, m1, m2⟩
    have HBX2 := hide (m2.t _ _ _ HBOX.out)
    have n1 : w2.cell? ⟨Nw, 1, none⟩ = some (.string name) := tag_cell HBX2.out 1 _ rfl
    have HS2 := hide (HST.out w2 m1)
    have HB2 := hide (HB1.out.trans m2)
    clear m1 m2 HC2 HB1 HBOX HST c0 c1 HBX2
    go_wp2_with fail
    refine HS2.out.mono ?_
    rintro e w3 ⟨rfl, m1, m2⟩
    have HE := hide (And.intro m1 (HB2.out.trans m2))
    clear m1 m2 HS2 HB2
    go_wp2_with fail
    go_end0
    exact ⟨rfl, HE.out⟩
  · rw [decide_eq_false hbr] at f2
    have hE : Z = s := by rw [hZ]; unfold endF; rw [if_neg hk, if_neg hp, if_neg hbr]
    subst hE
    clear h hb1 hbox HC hZ hk hin hin2 HU hp hbr
    go_enter Try.func25, Try.ntmps25
    go_wp2_with fail
    rw [← hw1, ← HNw.out]
    clear hw1 hNw HNw
    go_wp2_with fail
    refine HC2.out.mono ?_
    rintro e w2 ⟨rfl, m1, m2⟩
    have HBX2 := hide (m2.t _ _ _ HBOX.out)
    have n1 : w2.cell? ⟨Nw, 1, none⟩ = some (.string name) := tag_cell HBX2.out 1 _ rfl
    have HE := hide (And.intro m1 (HB1.out.trans m2))
    clear m1 m2 HC2 HB1 HBOX c0 c1 HBX2
    go_wp2_with fail
    go_end0
    exact ⟨rfl, HE.out⟩
end Go.Proofs.Ytkdppcpkigpmdaa
