/-
  The tree's builder: closeFrom, walked.
-/
import Derived.Test.YtholfdfjapgfbaaGreatDoorG10
import Derived.Deep.Cut
namespace Go.Proofs.YtholfdfjapgfbaaGreatDoor.Dm
open Go.RowKit
open Utf1

theorem St0.len {w : World} {base B : Nat} {os : List Nd} {pa bv : Value} {o n : Nat} (h : St0 w base B os pa bv o n) : ∃ p c, BB w B (.slice p os.length c) pa bv (.int .i64 (o : Int)) (.int .i64 (n : Int)) := by
  obtain ⟨_, _, ov, l, fp, hl, hB, hro, _⟩ := h
  obtain ⟨p, c, rfl⟩ := own_len hro
  have : l.length = os.length := by
    have := congrArg List.length hl
    rwa [List.length_map] at this
  rw [this] at hB
  exact ⟨p, c, hB⟩

set_option maxRecDepth 100000 in
set_option maxHeartbeats 8000000 in
theorem closeFrom_st (w : World) (base B at' : Nat) (r : List Nd) (t : List UInt8) (o n : Nat) (h : St w base B r.reverse t o n) (h1 : 1 ≤ at') (hle : at' ≤ r.length) (hM : cntL r + tx t ≤ 100000) (ht : t.length ≤ 100000000) :
    Calls Tryz.prog 19 #[.pointer (some ⟨B, 0, none⟩), .int .i64 (at' : Int)] w fun e w' => e = .returned (.tuple #[]) ∧ St w' base B (closeR (r.length - at') r t).1.reverse (closeR (r.length - at') r t).2 o n ∧ Below base w w' := by
  obtain ⟨R, hR⟩ : ∃ R, R = closeR (r.length - at') r t := ⟨_, rfl⟩
  rw [← hR]
  have HR := hide hR
  have HS := hide h
  have hrl := len_cnt r
  clear hR h
  go_enter Tryz.func19, Tryz.ntmps19
  go_wp2_with fail
  go_loopg [4] (r.length - at') (fun g v wr => ∃ (q : List Nd) (t' : List UInt8), q.length = at' + g ∧ Hid (St wr base B q.reverse t' o n) ∧ Hid (Below base w wr) ∧ cntL q + tx t' ≤ 100000 ∧ t'.length ≤ 100000000 ∧ Hid (R = closeR g q t'))
  case atStart => exact ⟨r, t, by omega, HS, hide (Below.refl _ _), hM, ht, HR⟩
  case round =>
    obtain ⟨q, t', hqg, HS1, HB1, hM1, ht1, HR1⟩ := hrel
    clear HS HR
    have hql := len_cnt q
    match gk, q, hqg, HS1, hM1, HR1, hql with
    | 0, q, hqg, HS1, hM1, HR1, hql =>
      obtain ⟨pa, bv, h0, hw⟩ := HS1.out
      obtain ⟨p, c, hB⟩ := h0.len
      rw [List.length_reverse, hqg, Nat.add_zero] at hB
      have c0 : wr.cell? ⟨B, 0, none⟩ = some (.slice p at' c) := tag_cell hB 0 _ rfl
      have HE : Hid (St wr base B R.1.reverse R.2 o n) := hide (by
        rw [HR1.out]
        have : closeR 0 q t' = (q, t') := by
          cases q <;> rfl
        rw [this]
        exact HS1.out)
      clear h0 hw hB HS1 HR1
      go_wp2_with fail
      go_end0
      exact ⟨rfl, HE.out, HB1.out⟩
    | g + 1, [], hqg, _, _, _, _ => simp only [List.length_nil] at hqg; omega
    | g + 1, [_], hqg, _, _, _, _ => simp only [List.length_cons, List.length_nil] at hqg; omega
    | g + 1, nd :: p :: q', hqg, HS1, hM1, HR1, hql =>
      obtain ⟨pa, bv, h0, hw⟩ := HS1.out
      obtain ⟨op, oc, hB⟩ := h0.len
      have hlen : (nd :: p :: q').reverse.length = q'.length + 2 := by simp
      rw [hlen] at hB
      have c0 : wr.cell? ⟨B, 0, none⟩ = some (.slice op (q'.length + 2) oc) := tag_cell hB 0 _ rfl
      have HQ2 : Hid (q'.length + 1 = at' + g) := hide (by simp only [List.length_cons] at hqg; omega)
      have hq2 : at' < q'.length + 2 := by have := HQ2.out; omega
      clear hqg
      have hd : decide ((at' : Int) < (q'.length : Int) + 2) = true := decide_eq_true (by omega)
      have hcn : cntN nd + (cntN p + cntL q') + tx t' ≤ 100000 := by
        have := hM1
        simp only [cntL] at this
        exact this
      have hkn := cntN_kids nd
      have hkp := cntN_kids p
      have hlk := len_cnt nd.kids
      have hlp := len_cnt p.kids
      have hlq := len_cnt q'
      have hrev : (nd :: p :: q').reverse = (p :: q').reverse ++ [nd] := by simp
      have HET := hide (endText_st wr base B (p :: q').reverse nd t' o n (by rw [← hrev]; exact HS1.out) (by simp; omega) (by omega) ht1)
      have HR2 : Hid (R = closeR g (addKid p (textIn nd t') :: q') []) := hide HR1.out
      clear h0 hw hB HS1 HR1 hrev hlen
      go_wp2_with fail
      refine HET.out.mono ?_
      rintro e w2 ⟨rfl, hs2, hb2⟩
      obtain ⟨pa2, bv2, h02, hw2⟩ := hs2
      have hbB := h02.1
      have hbw := h02.2.1
      obtain ⟨go, oc2, ap, am, ac, cp, cm, cc, hB2, x0, x1, x2, x3, hoc, hstx⟩ := pop_facts h02
      have hl2 : (p :: q').reverse.length = q'.length + 1 := by simp
      rw [hl2] at hB2 x0 x1 x2 x3 hoc hstx
      have d0 : w2.cell? ⟨B, 0, none⟩ = some (.slice (some ⟨go, 0, none⟩) (q'.length + 2) oc2) := tag_cell hB2 0 _ rfl
      have f0 := tag_free hB2 0
      have hBl : B < w2.heap.size := lt_of_block hB2
      have HB2 := hide (HB1.out.trans hb2)
      obtain ⟨XN, hXN⟩ : ∃ X : ByteArray, X = ⟨(textIn nd t').name.toArray⟩ := ⟨_, rfl⟩
      obtain ⟨XT, hXT⟩ : ∃ X : ByteArray, X = ⟨(textIn nd t').text.toArray⟩ := ⟨_, rfl⟩
      rw [← hXN] at x0
      rw [← hXT] at x2
      obtain ⟨w3, hw3⟩ : ∃ w3, w3 = w2.alloc (.cells #[.string XN, .slice ap am ac, .string XT, .slice cp cm cc] 42) := ⟨_, rfl⟩
      have hb3 : Below w2.heap.size w2 w3 := by
        rw [hw3]
        exact (Below.refl _ _).alloc (Nat.le_refl _) _
      have e0 := cell_keep d0 hb3
      have g0 : w3.frozen? ⟨B, 0, none⟩ = false := tag_free ((hb3.block _ hBl).trans hB2) 0
      have y0 : w3.cell? ⟨w2.heap.size, 0, none⟩ = some (.string XN) := by rw [hw3]; simp
      have y1 : w3.cell? ⟨w2.heap.size, 1, none⟩ = some (.slice ap am ac) := by rw [hw3]; simp
      have y2 : w3.cell? ⟨w2.heap.size, 2, none⟩ = some (.string XT) := by rw [hw3]; simp
      have y3 : w3.cell? ⟨w2.heap.size, 3, none⟩ = some (.slice cp cm cc) := by rw [hw3]; simp
      have hneB : w2.heap.size ≠ B := by omega
      have HSX := hide (hstx w3 hb3)
      have HPUT : Hid (Calls Tryz.prog 37 #[.pointer (some ⟨B, 0, none⟩), .agg #[.string XN, .slice ap am ac, .string XT, .slice cp cm cc]] (w3.setCell ⟨B, 0, none⟩ (.slice (some ⟨go, 0, none⟩) (q'.length + 1) oc2)) fun e w' => e = .returned (.tuple #[]) ∧ St w' base B (addKid p (textIn nd t') :: q').reverse [] o n ∧ Below base w w') := hide (by
        have hrev : (p :: q').reverse = q'.reverse ++ [p] := by simp
        rw [hrev] at hstx
        rw [hXN, hXT]
        refine (put_st _ base B q'.reverse p pa2 bv2 o n (textIn nd t') ap am ac cp cm cc (hstx w3 hb3) (by simp; omega) (by omega)).mono ?_
        rintro e w5 ⟨rfl, p1, p2, p3⟩
        refine ⟨rfl, ⟨pa2, bv2, by simpa using p1, hw2.1, p3 _ _ _ _ (own_set (own_below hw2.2 hb3) ((hb3.block _ hBl).trans hB2) (by decide) 0 _)⟩, ?_⟩
        exact ((HB2.out.trans (hb3.mono hbw)).setCell (p := ⟨B, 0, none⟩) hbB _).trans p2)
      have hcn2 : cntL (addKid p (textIn nd t') :: q') + tx [] ≤ 100000 := by
        simp only [cntL]
        rw [cnt_add, cnt_text]
        show _ + 0 ≤ _
        omega
      clear h02 hw2 hstx hb2 hB2 HSX hXN hXT HET
      go_upto_region 4 with fail
      rw [← hw3]
      clear hw3
      go_wp2_with fail
      refine HPUT.out.mono ?_
      rintro e w5 ⟨rfl, q1, q2⟩
      have HQ := hide q1
      have HQB := hide q2
      clear q1 q2 HPUT
      go_wp2_with fail
      go_roundg g
      case measure => omega
      case rel => exact ⟨addKid p (textIn nd t') :: q', [], by have := HQ2.out; simp only [List.length_cons]; omega, HQ, HQB, hcn2, by simp, HR2⟩
end Go.Proofs.YtholfdfjapgfbaaGreatDoor.Dm
