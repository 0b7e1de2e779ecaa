/-
  The tree's builder: start of a void name.
-/
import Derived.Test.YtholfdfjapgfbaaGreatDoorG19
namespace Go.Proofs.YtholfdfjapgfbaaGreatDoor.Dm
open Go.RowKit
open Utf1

/-- Attributes are cloned as they are. -/
def Clones (w : World) (base : Nat) (av : Value) (at' : List (List UInt8 × List UInt8)) : Prop :=
  ∀ wx, base ≤ wx.heap.size → Below base w wx → Calls Tryz.prog 57 #[av] wx fun e w' => ∃ ap am ac, e = .returned (.slice ap am ac) ∧ w'.ownsRow base 38 2 (.slice ap am ac) at'.length (attrCells at') ∧ Below wx.heap.size wx w'
theorem clones_nil (w : World) (base : Nat) : Clones w base (.slice none 0 0) [] := by
  intro wx hb _
  refine (clone_nil wx).mono ?_
  rintro e w' ⟨rfl, rfl⟩
  exact ⟨none, 0, 0, rfl, World.ownsRow_nil _ _ _ _, Below.refl _ _⟩

set_option maxRecDepth 100000 in
set_option maxHeartbeats 8000000 in
theorem start_void (w : World) (base B : Nat) (r : List Nd) (t : List UInt8) (o n : Nat) (name : ByteArray) (h : St w base B r.reverse t o n) (hr : r ≠ []) (hroot : r.getLast?.map Nd.name = some []) (hM : cntL r + tx t ≤ 100000) (ht : t.length ≤ 100000000) (hn : n ≤ 100000) (hs : name.size ≤ 281474976710656) (hne : bl name ≠ []) (hv : bl name ∈ voids) (av : Value) (at' : List (List UInt8 × List UInt8)) (hcl : Clones w base av at') :
    Calls Tryz.prog 35 #[.pointer (some ⟨B, 0, none⟩), .string name, av] w fun e w' => e = .returned (.tuple #[]) ∧ St w' base B (startR (bl name) at' r t o n).1.reverse (startR (bl name) at' r t o n).2.1 (startR (bl name) at' r t o n).2.2.1 (startR (bl name) at' r t o n).2.2.2 ∧ Below base w w' := by
  have f0 := eqlit name []
  rw [decide_eq_false hne] at f0
  have f1 : name.toList.isEmpty = false := by
    cases hh : name.toList with
    | nil => rw [hh] at f0; cases f0
    | cons => rfl
  have hall := wayR_all (bl name) r t hr hroot
  have HMW := hide (makeWay_st w base B r t o n name h hr hroot hM ht)
  obtain ⟨nd, q, hW⟩ : ∃ nd q, (wayR (bl name) r t).1 = nd :: q := by
    cases hh : (wayR (bl name) r t).1 with
    | nil => rw [hh] at hall; simp at hall
    | cons a b => exact ⟨a, b, rfl⟩
  have hST : startR (bl name) at' r t o n = (addKid (textIn nd (wayR (bl name) r t).2) (.mk (bl name) at' [] []) :: q, [], o, n + 1) := by
    unfold startR
    rw [if_neg hne, hW]
    simp only []
    rw [if_pos hv]
  rw [hST]
  obtain ⟨t1, ht1⟩ : ∃ t1, t1 = (wayR (bl name) r t).2 := ⟨_, rfl⟩
  rw [hW, ← ht1] at hall
  rw [hW, ← ht1, List.reverse_cons] at HMW
  rw [← ht1, List.reverse_cons]
  have hc := cnt_text nd t1
  have hk1 := cntN_kids nd
  have hk2 := cntN_kids (textIn nd t1)
  have hl1 := len_cnt nd.kids
  have hl2 := len_cnt (textIn nd t1).kids
  have hlq := len_cnt q
  have hcq : cntL (nd :: q) = cntN nd + cntL q := rfl
  have hqr : q.reverse.length = q.length := List.length_reverse
  have HV := hide (fun w => by have := void_any name w; rw [decide_eq_true hv] at this; exact this)
  have HE := hide (fun w1 (hw1 : St w1 base B (q.reverse ++ [nd]) t1 o n) => endText_st w1 base B q.reverse nd t1 o n hw1 (by omega) (by omega) (by omega))
  have HP := hide (fun wx pa bv ap am ac (hx : St0 wx base B (q.reverse ++ [textIn nd t1]) pa bv o (n + 1)) (hat : wx.ownsRow base 38 2 (.slice ap am ac) at'.length (attrCells at')) => put_st wx base B q.reverse (textIn nd t1) pa bv o (n + 1) (.mk (bl name) at' [] []) ap am ac none 0 0 (by
    obtain ⟨h1, h2, ov, l, fp, h3, h4, h5, h6, h7⟩ := hx
    exact ⟨h1, h2, ov, l, fp, [], h3, h4, h5, h6, h7, hat, KAt.empty _ _, List.nodup_nil, fun _ hk => by cases hk⟩) (by omega) (by omega))
  clear hST hc hk1 hk2 hl1 hl2 hlq hcq hqr hall hW ht1 h hroot hr hM f0
  go_enter Tryz.func35, Tryz.ntmps35
  go_wp2_with fail
  refine HMW.out.mono ?_
  rintro e w1 ⟨rfl, m1, m2⟩
  have HE1 := hide (HE.out w1 m1)
  have HB1 := hide m2
  clear m1 m2 HMW HE
  go_wp2_with fail
  refine HE1.out.mono ?_
  rintro e w2 ⟨rfl, m1, m2⟩
  have HS2 := hide m1
  have HB2 := hide (HB1.out.trans m2)
  have HB0 : Hid (base ≤ w2.heap.size) := hide (by obtain ⟨_, _, h0, _⟩ := HS2.out; exact h0.2.1)
  clear m1 m2 HE1 HB1
  go_wp2_with fail
  refine (clone_any _ _ hs).mono ?_
  rintro e w3 ⟨rfl, m1⟩
  have HS3 := hide (HS2.out.under m1)
  have HB3 := hide (HB2.out.trans (m1.mono HB0.out))
  have HB03 : Hid (base ≤ w3.heap.size) := hide (Nat.le_trans HB0.out m1.size)
  have HCL := hide (hcl w3 HB03.out HB3.out)
  clear m1 HB2 HS2 HB0 hcl
  go_wp2_with fail
  refine HCL.out.mono ?_
  rintro e w4 ⟨ap, am, ac, rfl, hat, hb4⟩
  have HS4 := hide (HS3.out.under hb4)
  have HB4 := hide (HB3.out.trans (hb4.mono HB03.out))
  have HAT := hide hat
  clear hat hb4 HS3 HB3 HB03 HCL
  have HA : Hid (Below w4.heap.size w4 (w4.alloc (.cells #[.string name, .slice ap am ac, .string ⟨#[]⟩, .slice none 0 0] 42))) := hide ((Below.refl _ _).alloc (Nat.le_refl _) _)
  obtain ⟨pa, bv, h0, hw⟩ := HS4.out.under HA.out
  obtain ⟨ov, hB⟩ := h0.bb
  have c4 := tag_cell hB 4 _ rfl
  have f4 := tag_free hB 4
  have hBl : B < w4.heap.size := by
    obtain ⟨pa, bv, h0, hw⟩ := HS4.out
    obtain ⟨ov, hB⟩ := h0.bb
    exact lt_of_block hB
  have hB1 : B ≠ w4.heap.size := Nat.ne_of_lt hBl
  have hB2 : w4.heap.size ≠ B := Ne.symm hB1
  have H4 : Hid (∃ pa bv, St0 ((w4.setCell ⟨B, 4, none⟩ (.int .i64 ((n : Int) + 1))).alloc (.cells #[.string name, .slice ap am ac, .string ⟨#[]⟩, .slice none 0 0] 42)) base B (q.reverse ++ [textIn nd t1]) pa bv o (n + 1) ∧ Wait ((w4.setCell ⟨B, 4, none⟩ (.int .i64 ((n : Int) + 1))).alloc (.cells #[.string name, .slice ap am ac, .string ⟨#[]⟩, .slice none 0 0] 42)) base B pa bv [] ∧ Below base w ((w4.setCell ⟨B, 4, none⟩ (.int .i64 ((n : Int) + 1))).alloc (.cells #[.string name, .slice ap am ac, .string ⟨#[]⟩, .slice none 0 0] 42)) ∧ World.ownsRow ((w4.setCell ⟨B, 4, none⟩ (.int .i64 ((n : Int) + 1))).alloc (.cells #[.string name, .slice ap am ac, .string ⟨#[]⟩, .slice none 0 0] 42)) base 38 2 (.slice ap am ac) at'.length (attrCells at')) := hide (by
    obtain ⟨pa, bv, h0, hw⟩ := HS4.out
    obtain ⟨ov, hB⟩ := h0.bb
    have h4 : St (w4.setCell ⟨B, 4, none⟩ (.int .i64 ((n + 1 : Nat) : Int))) base B (q.reverse ++ [textIn nd t1]) [] o (n + 1) := ⟨pa, _, h0.stays (stays_set hB 4 _) (bb_no_node hB) (fun ov' hb => (bb_cnt hb _).2), wait_set hB hw 4 _⟩
    have hal : Below (w4.setCell ⟨B, 4, none⟩ (.int .i64 ((n + 1 : Nat) : Int))).heap.size (w4.setCell ⟨B, 4, none⟩ (.int .i64 ((n + 1 : Nat) : Int))) ((w4.setCell ⟨B, 4, none⟩ (.int .i64 ((n + 1 : Nat) : Int))).alloc (.cells #[.string name, .slice ap am ac, .string ⟨#[]⟩, .slice none 0 0] 42)) := (Below.refl _ _).alloc (Nat.le_refl _) _
    obtain ⟨pa2, bv2, h5, hw5⟩ := h4.under hal
    have hb4 : Below base w (w4.setCell ⟨B, 4, none⟩ (.int .i64 ((n + 1 : Nat) : Int))) := HB4.out.setCell (p := ⟨B, 4, none⟩) h0.1 _
    refine ⟨pa2, bv2, h5, hw5, hb4.trans (hal.mono ?_), own_below (attr_stays HAT.out (stays_set hB 4 _)) hal⟩
    obtain ⟨_, _, h6, _⟩ := h4
    exact h6.2.1)
  clear h0 hw hB HS4 HB4 HA HAT
  go_wp2_with fail
  refine (HV.out _).mono ?_
  rintro e w5 ⟨rfl, rfl⟩
  go_wp2_with fail
  obtain ⟨pa5, bv5, h5, hw5, hb5, hat5⟩ := H4.out
  have HP5 := hide (HP.out _ _ _ _ _ _ h5 hat5)
  have HW5 := hide (And.intro hw5 hb5)
  clear h5 hw5 hb5 hat5 H4 HP
  refine HP5.out.mono ?_
  rintro e w6 ⟨rfl, p1, p2, p3⟩
  have HE : Hid (St w6 base B (q.reverse ++ [addKid (textIn nd t1) (.mk (bl name) at' [] [])]) [] o (n + 1) ∧ Below base w w6) := hide ⟨⟨_, _, p1, HW5.out.1.1, p3 _ _ _ _ HW5.out.1.2⟩, HW5.out.2.trans p2⟩
  clear p1 p2 p3 HW5 HP5
  go_wp2_with fail
  refine bodyPost_ret (results_none rfl _ _ _) rfl ?_
  exact ⟨rfl, HE.out⟩
end Go.Proofs.YtholfdfjapgfbaaGreatDoor.Dm
