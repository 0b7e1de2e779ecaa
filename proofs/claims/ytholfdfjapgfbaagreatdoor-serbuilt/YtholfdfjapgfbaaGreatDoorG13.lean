/-
  The tree's builder: addText.
-/
import Derived.Test.YtholfdfjapgfbaaGreatDoorG12
namespace Go.Proofs.YtholfdfjapgfbaaGreatDoor.Dm
open Go.RowKit
open Utf1

theorem bb_cnt {w : World} {B : Nat} {ov pa bv x y : Value} (h : BB w B ov pa bv x y) (v : Value) : BB (w.setCell ⟨B, 3, none⟩ v) B ov pa bv v y ∧ BB (w.setCell ⟨B, 4, none⟩ v) B ov pa bv x v := ⟨tok_set h 3 v, tok_set h 4 v⟩
theorem wait_set {w : World} {base B : Nat} {ov pa bv x y : Value} {t : List UInt8} (hB : BB w B ov pa bv x y) (h : Wait w base B pa bv t) (j : Nat) (v : Value) : Wait (w.setCell ⟨B, j, none⟩ v) base B pa bv t := ⟨h.1, own_set h.2 hB (by decide) j v⟩
/-- One more, where a new text begins. -/
def newT (t s : List UInt8) : Nat := if t = [] ∧ s ≠ [] then 1 else 0

set_option maxHeartbeats 4000000 in
theorem write_st (w : World) (base B : Nat) (os : List Nd) (t : List UInt8) (o n : Nat) (s : ByteArray) (h : St w base B os t o n) (hl : t.length + s.size ≤ 100000000) :
    Calls Tryz.prog 54 #[.pointer (some ⟨B, 1, none⟩), .string s] w fun e w' => e = .returned (.tuple #[.int .i64 (s.size : Int), .nilIface]) ∧ St w' base B os (t ++ bl s) o n ∧ Below base w w' := by
  obtain ⟨pa, bv, h0, hw⟩ := h
  obtain ⟨ov, hB⟩ := h0.bb
  refine (bwrite_any w B base ov pa bv _ _ t s hB hw hl h0.1).mono ?_
  rintro e w' ⟨rfl, pa', bv', h1, h2, h3, h4⟩
  refine ⟨rfl, ⟨pa', bv', h0.stays h3 ?_ ?_, h2⟩, h4⟩
  · intro k hk cs fz e
    rcases List.mem_cons.1 hk with rfl | hk
    · exact bb_no_node hB k (by simp) cs fz e
    · exact bytes_no_node hw k hk cs fz e
  · intro ov' hB'
    unfold BB at hB hB'
    rw [hB] at hB'
    simp at hB'
    subst hB'
    exact h1

set_option maxHeartbeats 4000000 in
theorem addText_st (w : World) (base B : Nat) (os : List Nd) (t : List UInt8) (o n : Nat) (s : ByteArray) (h : St w base B os t o n) (hl : t.length + s.size ≤ 100000000) (hn : n ≤ 100000) :
    Calls Tryz.prog 34 #[.pointer (some ⟨B, 0, none⟩), .string s] w fun e w' => e = .returned (.tuple #[]) ∧ St w' base B os (t ++ bl s) o (n + newT t (bl s)) ∧ Below base w w' := by
  have HH := hide h
  obtain ⟨pa, bv, h0, hw⟩ := h
  obtain ⟨ov, hB⟩ := h0.bb
  obtain ⟨bp, bm, bc, rfl⟩ := own_slice hw.2
  have hbm : bm = t.length := by
    obtain ⟨_, _, e⟩ := own_len hw.2
    injection e with _ e2 _
    rw [byte_len] at e2
    exact e2
  subst hbm
  have HL := hide (blen_any w B ov pa bp t.length bc _ _ hB)
  have hBl : B < w.heap.size := lt_of_block hB
  have q0 : (s.toList != []) = !decide (bl s = []) := by
    rw [ByteArray.toList_eq]
    by_cases h : bl s = []
    · rw [decide_eq_true h]
      show (bl s != []) = _
      rw [h]
      rfl
    · rw [decide_eq_false h]
      exact bne_iff_ne.2 h
  by_cases hnew : t = [] ∧ bl s ≠ []
  · obtain ⟨rfl, hs⟩ := hnew
    rw [decide_eq_false hs] at q0
    have q0 : (s.toList != []) = true := q0
    have q1 : s.toList.isEmpty = false := by
      cases hh : s.toList with
      | nil => rw [hh] at q0; cases q0
      | cons => rfl
    have c4 : w.cell? ⟨B, 4, none⟩ = some (.int .i64 (n : Int)) := tag_cell hB 4 _ rfl
    have f4 := tag_free hB 4
    have h4 : St (w.setCell ⟨B, 4, none⟩ (.int .i64 ((n + 1 : Nat) : Int))) base B os [] o (n + 1) := ⟨pa, _, h0.stays (stays_set hB 4 _) (bb_no_node hB) (fun ov' hb => (bb_cnt hb _).2), wait_set hB hw 4 _⟩
    have HW : Hid (Calls Tryz.prog 54 #[.pointer (some ⟨B, 1, none⟩), .string s] (w.setCell ⟨B, 4, none⟩ (.int .i64 ((n : Int) + 1))) fun e w' => e = .returned (.tuple #[.int .i64 (s.size : Int), .nilIface]) ∧ St w' base B os ([] ++ bl s) o (n + newT [] (bl s)) ∧ Below base w w') := hide (by
      refine (write_st _ base B os [] o (n + 1) s h4 hl).mono ?_
      rintro e w' ⟨rfl, h5, h6⟩
      refine ⟨rfl, ?_, ((Below.refl base w).setCell (p := ⟨B, 4, none⟩) h0.1 _).trans h6⟩
      have : newT [] (bl s) = 1 := by
        unfold newT
        rw [if_pos ⟨rfl, hs⟩]
      rw [this]
      exact h5)
    clear h0 hw hB h4 hs HH
    go_enter Tryz.func34, Tryz.ntmps34
    go_wp2_with fail
    refine HL.out.mono ?_
    rintro e w1 ⟨rfl, rfl⟩
    clear HL
    go_wp2_with fail
    refine HW.out.mono ?_
    rintro e w2 ⟨rfl, h2, h3⟩
    have HE := hide (And.intro h2 h3)
    clear h2 h3 HW
    go_wp2_with fail
    go_end0
    exact ⟨rfl, HE.out⟩
  · have HW : Hid (Calls Tryz.prog 54 #[.pointer (some ⟨B, 1, none⟩), .string s] w fun e w' => e = .returned (.tuple #[.int .i64 (s.size : Int), .nilIface]) ∧ St w' base B os (t ++ bl s) o (n + newT t (bl s)) ∧ Below base w w') := hide (by
      have : newT t (bl s) = 0 := by
        unfold newT
        rw [if_neg hnew]
      rw [this]
      exact write_st w base B os t o n s HH.out hl)
    by_cases ht : t = []
    · have hs : bl s = [] := Classical.byContradiction fun h => hnew ⟨ht, h⟩
      rw [decide_eq_true hs] at q0
      have q0 : (s.toList != []) = false := q0
      have q1 : s.toList.isEmpty = true := by
        cases hh : s.toList with
        | nil => rfl
        | cons => rw [hh] at q0; cases q0
      have hd : ((t.length : Int) == 0) = true := by rw [ht]; rfl
      have HT := hide ht
      clear h0 hw hB hs hnew HH ht
      go_enter Tryz.func34, Tryz.ntmps34
      go_wp2_with fail
      refine HL.out.mono ?_
      rintro e w1 ⟨rfl, rfl⟩
      clear HL
      go_wp2_with fail
      refine HW.out.mono ?_
      rintro e w2 ⟨rfl, h2, h3⟩
      have HE := hide (And.intro h2 h3)
      clear h2 h3 HW
      go_wp2_with fail
      go_end0
      exact ⟨rfl, HE.out⟩
    · have hd : ((t.length : Int) == 0) = false := beq_eq_false_iff_ne.2 (by have := List.length_pos_iff.2 ht; omega)
      clear h0 hw hB hnew HH ht
      go_enter Tryz.func34, Tryz.ntmps34
      go_wp2_with fail
      refine HL.out.mono ?_
      rintro e w1 ⟨rfl, rfl⟩
      clear HL
      go_wp2_with fail
      refine HW.out.mono ?_
      rintro e w2 ⟨rfl, h2, h3⟩
      have HE := hide (And.intro h2 h3)
      clear h2 h3 HW
      go_wp2_with fail
      go_end0
      exact ⟨rfl, HE.out⟩
end Go.Proofs.YtholfdfjapgfbaaGreatDoor.Dm
