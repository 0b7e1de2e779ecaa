/-
  The tree's builder: start of a name that is not void.
-/
import Derived.Test.YtholfdfjapgfbaaGreatDoorG20
namespace Go.Proofs.YtholfdfjapgfbaaGreatDoor.Dm
open Go.RowKit
open Utf1

/-- Named. -/
theorem PushEnd.name {w w' : World} {B base : Nat} {ov pa bv x y : Value} {l : List (Nd × Value × Value)} {nm tx : ByteArray} {ap : Option Addr} {am ac : Nat} {cp : Option Addr} {cm cc : Nat} {ov' : Value} (h : PushEnd w w' B base ov pa bv x y l nm tx ap am ac cp cm cc ov') : ∃ w8, w8 = w' ∧ PushEnd w w8 B base ov pa bv x y l nm tx ap am ac cp cm cc ov' := ⟨_, rfl, h⟩

set_option maxRecDepth 100000 in
set_option maxHeartbeats 8000000 in
theorem start_open (w : World) (base B : Nat) (r : List Nd) (t : List UInt8) (o n : Nat) (name : ByteArray) (h : St w base B r.reverse t o n) (hr : r ≠ []) (hroot : r.getLast?.map Nd.name = some []) (hM : cntL r + tx t ≤ 100000) (ht : t.length ≤ 100000000) (hn : n ≤ 100000) (hs : name.size ≤ 281474976710656) (hne : bl name ≠ []) (_ho : o ≤ 100000) (hv : bl name ∉ voids) (av : Value) (at' : List (List UInt8 × List UInt8)) (hcl : Clones w base av at') :
    Calls Tryz.prog 35 #[.pointer (some ⟨B, 0, none⟩), .string name, av] w fun e w' => e = .returned (.tuple #[]) ∧ St w' base B (startR (bl name) at' r t o n).1.reverse (startR (bl name) at' r t o n).2.1 (startR (bl name) at' r t o n).2.2.1 (startR (bl name) at' r t o n).2.2.2 ∧ Below base w w' := by
  have f0 := eqlit name []
  rw [decide_eq_false hne] at f0
  have f1 : name.toList.isEmpty = false := by
    cases hh : name.toList with
    | nil => rw [hh] at f0; cases f0
    | cons => rfl
  have hall := wayR_all (bl name) r t hr hroot
  have HMW := hide (makeWay_st w base B r t o n name h hr hroot hM ht)
  obtain ⟨nd, q, hW⟩ : ∃ nd q, (wayR (bl name) r t).1 = nd :: q := by
    cases hh : (wayR (bl name) r t).1 with
    | nil => rw [hh] at hall; simp at hall
    | cons a b => exact ⟨a, b, rfl⟩
  have hST : startR (bl name) at' r t o n = (.mk (bl name) at' [] [] :: textIn nd (wayR (bl name) r t).2 :: q, [], max o (q.length + 1), n + 1) := by
    unfold startR
    rw [if_neg hne, hW]
    simp only []
    rw [if_neg hv]
  rw [hST]
  obtain ⟨t1, ht1⟩ : ∃ t1, t1 = (wayR (bl name) r t).2 := ⟨_, rfl⟩
  rw [hW, ← ht1] at hall
  rw [hW, ← ht1, List.reverse_cons] at HMW
  rw [← ht1, List.reverse_cons, List.reverse_cons]
  have hc := cnt_text nd t1
  have hk1 := cntN_kids nd
  have hk2 := cntN_kids (textIn nd t1)
  have hl1 := len_cnt nd.kids
  have hl2 := len_cnt (textIn nd t1).kids
  have hlq := len_cnt q
  have hcq : cntL (nd :: q) = cntN nd + cntL q := rfl
  have hqr : q.reverse.length = q.length := List.length_reverse
  have HV := hide (fun w => by have := void_any name w; rw [decide_eq_false hv] at this; exact this)
  have HE := hide (fun w1 (hw1 : St w1 base B (q.reverse ++ [nd]) t1 o n) => endText_st w1 base B q.reverse nd t1 o n hw1 (by omega) (by omega) (by omega))
  have hqb : q.length ≤ 100000 := by omega
  clear hST hc hk1 hk2 hl1 hl2 hlq hcq hall hW ht1 h hroot hr hM f0
  go_enter Tryz.func35, Tryz.ntmps35
  go_wp2_with fail
  refine HMW.out.mono ?_
  rintro e w1 ⟨rfl, m1, m2⟩
  have HE1 := hide (HE.out w1 m1)
  have HB1 := hide m2
  clear m1 m2 HMW HE
  go_wp2_with fail
  refine HE1.out.mono ?_
  rintro e w2 ⟨rfl, m1, m2⟩
  have HS2 := hide m1
  have HB2 := hide (HB1.out.trans m2)
  have HB0 : Hid (base ≤ w2.heap.size) := hide (by obtain ⟨_, _, h0, _⟩ := HS2.out; exact h0.2.1)
  clear m1 m2 HE1 HB1
  go_wp2_with fail
  refine (clone_any _ _ hs).mono ?_
  rintro e w3 ⟨rfl, m1⟩
  have HS3 := hide (HS2.out.under m1)
  have HB3 := hide (HB2.out.trans (m1.mono HB0.out))
  have HB03 : Hid (base ≤ w3.heap.size) := hide (Nat.le_trans HB0.out m1.size)
  have HCL := hide (hcl w3 HB03.out HB3.out)
  clear m1 HB2 HS2 HB0 hcl
  go_wp2_with fail
  refine HCL.out.mono ?_
  rintro e w4 ⟨ap, am, ac, rfl, hat, hb4⟩
  have HS4 := hide (HS3.out.under hb4)
  have HB4 := hide (HB3.out.trans (hb4.mono HB03.out))
  have HAT := hide hat
  clear hat hb4 HS3 HB3 HB03 HCL
  have HA : Hid (Below w4.heap.size w4 (w4.alloc (.cells #[.string name, .slice ap am ac, .string ⟨#[]⟩, .slice none 0 0] 42))) := hide ((Below.refl _ _).alloc (Nat.le_refl _) _)
  obtain ⟨pa, bv, h0, hw⟩ := HS4.out.under HA.out
  obtain ⟨ov, hB⟩ := h0.bb
  have c4 := tag_cell hB 4 _ rfl
  have f4 := tag_free hB 4
  have hBl : B < w4.heap.size := by
    obtain ⟨pa, bv, h0, hw⟩ := HS4.out
    obtain ⟨ov, hB⟩ := h0.bb
    exact lt_of_block hB
  have hB1 : B ≠ w4.heap.size := Nat.ne_of_lt hBl
  have hB2 : w4.heap.size ≠ B := Ne.symm hB1
  have H4 : Hid (∃ pa bv, St0 ((w4.setCell ⟨B, 4, none⟩ (.int .i64 ((n : Int) + 1))).alloc (.cells #[.string name, .slice ap am ac, .string ⟨#[]⟩, .slice none 0 0] 42)) base B (q.reverse ++ [textIn nd t1]) pa bv o (n + 1) ∧ Wait ((w4.setCell ⟨B, 4, none⟩ (.int .i64 ((n : Int) + 1))).alloc (.cells #[.string name, .slice ap am ac, .string ⟨#[]⟩, .slice none 0 0] 42)) base B pa bv [] ∧ Below base w ((w4.setCell ⟨B, 4, none⟩ (.int .i64 ((n : Int) + 1))).alloc (.cells #[.string name, .slice ap am ac, .string ⟨#[]⟩, .slice none 0 0] 42)) ∧ World.ownsRow ((w4.setCell ⟨B, 4, none⟩ (.int .i64 ((n : Int) + 1))).alloc (.cells #[.string name, .slice ap am ac, .string ⟨#[]⟩, .slice none 0 0] 42)) base 38 2 (.slice ap am ac) at'.length (attrCells at')) := hide (by
    obtain ⟨pa, bv, h0, hw⟩ := HS4.out
    obtain ⟨ov, hB⟩ := h0.bb
    have h4 : St (w4.setCell ⟨B, 4, none⟩ (.int .i64 ((n + 1 : Nat) : Int))) base B (q.reverse ++ [textIn nd t1]) [] o (n + 1) := ⟨pa, _, h0.stays (stays_set hB 4 _) (bb_no_node hB) (fun ov' hb => (bb_cnt hb _).2), wait_set hB hw 4 _⟩
    have hal : Below (w4.setCell ⟨B, 4, none⟩ (.int .i64 ((n + 1 : Nat) : Int))).heap.size (w4.setCell ⟨B, 4, none⟩ (.int .i64 ((n + 1 : Nat) : Int))) ((w4.setCell ⟨B, 4, none⟩ (.int .i64 ((n + 1 : Nat) : Int))).alloc (.cells #[.string name, .slice ap am ac, .string ⟨#[]⟩, .slice none 0 0] 42)) := (Below.refl _ _).alloc (Nat.le_refl _) _
    obtain ⟨pa2, bv2, h5, hw5⟩ := h4.under hal
    have hb4 : Below base w (w4.setCell ⟨B, 4, none⟩ (.int .i64 ((n + 1 : Nat) : Int))) := HB4.out.setCell (p := ⟨B, 4, none⟩) h0.1 _
    refine ⟨pa2, bv2, h5, hw5, hb4.trans (hal.mono ?_), own_below (attr_stays HAT.out (stays_set hB 4 _)) hal⟩
    obtain ⟨_, _, h6, _⟩ := h4
    exact h6.2.1)
  clear h0 hw hB HS4 HB4 HA HAT
  go_wp2_with fail
  refine (HV.out _).mono ?_
  rintro e w5 ⟨rfl, rfl⟩
  go_wp2_with fail
  have hsz : (w4.setCell ⟨B, 4, none⟩ (.int .i64 ((n : Int) + 1))).heap.size = w4.heap.size := by simp
  obtain ⟨N, hN⟩ : ∃ N, N = w4.heap.size := ⟨_, rfl⟩
  have m := four_new (w4.setCell ⟨B, 4, none⟩ (.int .i64 ((n : Int) + 1))) (.string name) (.slice ap am ac) (.string ⟨#[]⟩) (.slice none 0 0) 42
  rw [hsz] at m
  obtain ⟨w7, hw7⟩ : ∃ w7, w7 = (w4.setCell ⟨B, 4, none⟩ (.int .i64 ((n : Int) + 1))).alloc (.cells #[.string name, .slice ap am ac, .string ⟨#[]⟩, .slice none 0 0] 42) := ⟨_, rfl⟩
  have H7 := H4
  rw [← hw7] at H7 m ⊢
  rw [← hN] at m hB1 hB2 ⊢
  have n0 : w7.cell? ⟨N, 0, none⟩ = some (.string name) := m 0 _ rfl
  have n1 : w7.cell? ⟨N, 1, none⟩ = some (.slice ap am ac) := m 1 _ rfl
  have n2 : w7.cell? ⟨N, 2, none⟩ = some (.string ⟨#[]⟩) := m 2 _ rfl
  have n3 : w7.cell? ⟨N, 3, none⟩ = some (.slice none 0 0) := m 3 _ rfl
  obtain ⟨pa7, bv7, h7, hwt7, hb7, hat7⟩ := H7.out
  obtain ⟨hbB, hbw7, ov7, l, fp, hl7, hB7, hro7, hall7, hnd7⟩ := h7
  obtain ⟨op, om, oc, rfl⟩ := own_slice hro7
  have hom : om = l.length := by
    obtain ⟨_, _, e⟩ := own_len hro7
    injection e
  subst hom
  have hll : l.length = q.length + 1 := by
    have := congrArg List.length hl7
    rw [List.length_map, List.length_append, hqr] at this
    exact this
  have HLL := hide hll
  have hlb : l.length ≤ 100001 := by omega
  have hl1 : 1 ≤ l.length := by omega
  clear H4 hw7 m c4 f4 hsz hN H7 hll hqr hqb
  obtain ⟨i0, hi, hz0, hz1, hz2⟩ := info_parts infoNode
  obtain ⟨wd, hwd⟩ : ∃ wd, wd = w7.drew := ⟨_, rfl⟩
  have hbd : Below w7.heap.size w7 wd := by rw [hwd]; exact bel_one _
  have o0 : wd.cell? ⟨B, 0, none⟩ = some (.slice op l.length oc) := by rw [hwd]; exact tag_cell hB7 0 _ rfl
  have n0 : wd.cell? ⟨N, 0, none⟩ = some (.string name) := by rw [hwd]; exact n0
  have n1 : wd.cell? ⟨N, 1, none⟩ = some (.slice ap am ac) := by rw [hwd]; exact n1
  have n2 : wd.cell? ⟨N, 2, none⟩ = some (.string ⟨#[]⟩) := by rw [hwd]; exact n2
  have n3 : wd.cell? ⟨N, 3, none⟩ = some (.slice none 0 0) := by rw [hwd]; exact n3
  obtain ⟨wz, hwz⟩ : ∃ wz, wz = wd.alloc (.cells #[.string ⟨#[]⟩, .slice none 0 0, .string ⟨#[]⟩, .slice none 0 0] 42) := ⟨_, rfl⟩
  have hbz : Below wd.heap.size wd wz := by
    rw [hwz]
    exact (Below.refl _ _).alloc (Nat.le_refl _) _
  have o0z := cell_keep o0 hbz
  have n0z := cell_keep n0 hbz
  have n1z := cell_keep n1 hbz
  have n2z := cell_keep n2 hbz
  have n3z := cell_keep n3 hbz
  have hb7z : Below w7.heap.size w7 wz := bel2 hbd hbz
  have HRZ : Hid (_ ∧ BB wz B (.slice op l.length oc) pa7 bv7 (.int .i64 (o : Int)) (.int .i64 ((n + 1 : Nat) : Int))) := hide ⟨own_below hro7 hb7z, (hb7z.block _ (lt_of_block hB7)).trans hB7⟩
  have HNZ := hide (four_new wd (.string ⟨#[]⟩) (.slice none 0 0) (.string ⟨#[]⟩) (.slice none 0 0) 42)
  rw [← hwz] at HNZ
  have HSZ : Hid (base ≤ wz.heap.size) := hide (Nat.le_trans hbw7 hb7z.size)
  have HEND : Hid (∀ (w' : World) (ov' : Value), PushEnd wz w' B base (.slice op l.length oc) pa7 bv7 (.int .i64 (o : Int)) (.int .i64 ((n + 1 : Nat) : Int)) l name ⟨#[]⟩ ap am ac none 0 0 ov' → ∀ o2 : Nat, St (w'.setCell ⟨B, 3, none⟩ (.int .i64 (o2 : Int))).drew base B (q.reverse ++ [textIn nd t1] ++ [.mk (bl name) at' [] []]) [] o2 (n + 1) ∧ Below base w (w'.setCell ⟨B, 3, none⟩ (.int .i64 (o2 : Int))).drew) := hide (by
    intro w' ov' hp o2
    obtain ⟨s1, s2, s3⟩ := push_st (bl name) at' ap am ac hbB HSZ.out HRZ.out.2 HRZ.out.1 (hall7.under hb7z) hnd7 (own_below hat7 hb7z) hp
    rw [hl7] at s1
    have hw' : St w' base B (q.reverse ++ [textIn nd t1] ++ [.mk (bl name) at' [] []]) [] o (n + 1) := ⟨_, _, s1, hwt7.1, s3 _ _ _ _ (own_below hwt7.2 hb7z)⟩
    obtain ⟨pa9, bv9, u0, uw⟩ := hw'
    obtain ⟨ov9, uB⟩ := u0.bb
    have hs : St (w'.setCell ⟨B, 3, none⟩ (.int .i64 (o2 : Int))) base B (q.reverse ++ [textIn nd t1] ++ [.mk (bl name) at' [] []]) [] o2 (n + 1) := ⟨pa9, bv9, u0.stays (stays_set uB 3 _) (bb_no_node uB) (fun ov' hb => (bb_cnt hb _).1), wait_set uB uw 3 _⟩
    have hb' : Below (w'.setCell ⟨B, 3, none⟩ (.int .i64 (o2 : Int))).heap.size (w'.setCell ⟨B, 3, none⟩ (.int .i64 (o2 : Int))) (w'.setCell ⟨B, 3, none⟩ (.int .i64 (o2 : Int))).drew := bel_one _
    refine ⟨hs.under hb', ?_⟩
    refine ((((hb7.trans (hb7z.mono hbw7)).trans s2).setCell (p := ⟨B, 3, none⟩) hbB _)).trans (hb'.mono ?_)
    obtain ⟨_, _, h6, _⟩ := hs
    exact h6.2.1)
  have HWZ := hide hwz
  clear hwz hbz hb7z hbd hro7 hB7 hall7 hnd7 hl7 hwt7 hb7 hat7
  refine wp_region_any (by kernel_rfl) ?_
  try (change wpAny _ _ _ _ _ _ _ (World.drew _))
  rw [← hwd]
  clear hwd
  refine wpAny_to (i := 0) (v := .pointer (some ⟨B, 0, none⟩)) (a' := ?ax0q1) rfl (by kernel_rfl) (by kernel_rfl) (by kernel_rfl) (fun _ _ _ h => h) (Or.inl ⟨by rfl, ?yi⟩) ?ha ?_
  case yi => intro w; go_simp; try omega
  case ha => go_simp; try exact rfl
  refine wpAny_to (i := 1) (v := .pointer (some ⟨B, 0, none⟩)) (a' := ?ax1q2) rfl (by kernel_rfl) (by kernel_rfl) (by kernel_rfl) (fun _ _ _ h => h) (Or.inl ⟨by rfl, ?yi⟩) ?ha ?_
  case yi => intro w; go_simp; try omega
  case ha => go_simp; try exact rfl
  refine wpAny_to (i := 2) (v := .pointer (some ⟨B, 0, none⟩)) (a' := ?ax2q3) rfl (by kernel_rfl) (by kernel_rfl) (by kernel_rfl) (fun _ _ _ h => h) (Or.inl ⟨by rfl, ?yi⟩) ?ha ?_
  case yi => intro w; go_simp; try omega
  case ha => go_simp; try exact rfl
  refine wpAny_ready (rs := [3, 4, 6]) (by kernel_rfl) (by simp) ?_
  refine AllReady.cons rfl (fun K hK => ?_) (AllReady.cons rfl (fun K hK => ?_) (AllReady.cons rfl (fun K hK => ?_) AllReady.nil))
  · go_simp
    go_wp2_with fail
    refine wpAny_to (i := 5) (v := .int .i64 (l.length : Int)) (a' := ?ax5q4) rfl (by kernel_rfl) (by kernel_rfl) (by kernel_rfl) (fun _ _ _ h => h) (Or.inl ⟨by rfl, ?yi⟩) ?ha ?_
    case yi => intro w; go_simp; try omega
    case ha => go_simp; try exact rfl
    refine wpAny_ready (rs := [4, 6]) (by kernel_rfl) (by simp) ?_
    refine AllReady.cons rfl (fun K hK => ?_) (AllReady.cons rfl (fun K hK => ?_) AllReady.nil)
    · go_simp
      go_wp2_with fail
      refine wpAny_ready (rs := [6]) (by kernel_rfl) (by simp) ?_
      refine AllReady.cons rfl (fun K hK => ?_) AllReady.nil
      go_simp
      go_wp2_with fail
      rw [← HWZ.out]
      refine wpAny_ready (rs := [7]) (by kernel_rfl) (by simp) ?_
      refine AllReady.cons rfl (fun K hK => ?_) AllReady.nil
      rw [if_pos (by rfl)]
      refine wp_append_new (.tmp 36) (.tmp 39) 22 rfl base 42 i0 _ 4 80 Tryz.underlying22 hi hz0 hz1 hz2 rfl (by decide) (.slice op l.length oc) l.length (ndCells l) rfl HRZ.out.1 ⟨wd.heap.size, 0, none⟩ 1 1 [.string ⟨#[]⟩, .slice none 0 0, .string ⟨#[]⟩, .slice none 0 0] rfl rfl HNZ.out zero_one (by unfold maxLen; omega) (by omega) (by have := HSZ.out; omega) (by decide) ?_
      intro v' w5 hown5 hgr5 hfr5
      obtain ⟨g2, c2, rfl, HP⟩ := push_facts hbB HSZ.out HRZ.out.2 HRZ.out.1 hown5 hgr5 hfr5 name ⟨#[]⟩ ap am ac none 0 0
      obtain ⟨hgg, q0, q1, q2, q3, r0, r1, r2, r3, q4, r4, hfa, hfb⟩ := HP
      have HFA := hide hfa
      have HFB := hide hfb
      have hgg2 : B ≠ g2 := Ne.symm hgg
      clear hown5 hgr5 hfr5 hfa hfb
      refine hK _ _ ?_
      clear hK K
      refine wpAny_to (i := 8) (v := .pointer (some ⟨g2, l.length * 4, none⟩)) (a' := ?ax8q5) rfl (by kernel_rfl) (by kernel_rfl) (by kernel_rfl) (fun _ _ _ h => h) (Or.inl ⟨by rfl, ?yi⟩) ?ha ?_
      case yi => intro w; go_simp; try omega
      case ha => go_simp; try exact rfl
      refine wpAny_to (i := 10) (v := .pointer (some ⟨B, 0, none⟩)) (a' := ?ax10q6) rfl (by kernel_rfl) (by kernel_rfl) (by kernel_rfl) (fun _ _ _ h => h) (Or.inl ⟨by rfl, ?yi⟩) ?ha ?_
      case yi => intro w; go_simp; try omega
      case ha => go_simp; try exact rfl
      refine wpAny_to (i := 11) (v := .pointer (some ⟨B, 0, none⟩)) (a' := ?ax11q7) rfl (by kernel_rfl) (by kernel_rfl) (by kernel_rfl) (fun _ _ _ h => h) (Or.inl ⟨by rfl, ?yi⟩) ?ha ?_
      case yi => intro w; go_simp; try omega
      case ha => go_simp; try exact rfl
      refine wpAny_ready (rs := [9, 12]) (by kernel_rfl) (by simp) ?_
      refine AllReady.cons rfl (fun K hK => ?_) (AllReady.cons rfl (fun K hK => ?_) AllReady.nil)
      · go_simp
        go_wp2_with fail
        refine wpAny_ready (rs := [12]) (by kernel_rfl) (by simp) ?_
        refine AllReady.cons rfl (fun K hK => ?_) AllReady.nil
        go_simp
        go_wp2_with fail
        refine wpAny_done (by kernel_rfl) ?_ _
        go_wp2_with fail
        obtain ⟨w8, hw8, hp⟩ := HFA.out.name
        rw [← hw8]
        have c0 : (w8.drew).cell? ⟨B, 0, none⟩ = some (.slice (some ⟨g2, 0, none⟩) (l.length + 1) c2) := tag_cell hp.1 0 _ rfl
        have c3 : (w8.drew).cell? ⟨B, 3, none⟩ = some (.int .i64 (o : Int)) := tag_cell hp.1 3 _ rfl
        have f3 : (w8.drew).frozen? ⟨B, 3, none⟩ = false := tag_free hp.1 3
        have HE := hide (HEND.out w8 _ hp)
        clear hw8 hp HFA HFB
        refine wp_region_any (by kernel_rfl) ?_
        try (change wpAny _ _ _ _ _ _ _ (World.drew _))
        refine wpAny_to (i := 0) (v := .pointer (some ⟨B, 0, none⟩)) (a' := ?ax0q8) rfl (by kernel_rfl) (by kernel_rfl) (by kernel_rfl) (fun _ _ _ h => h) (Or.inl ⟨by rfl, ?yi⟩) ?ha ?_
        case yi => intro w; go_simp; try omega
        case ha => go_simp; try exact rfl
        refine wpAny_to (i := 1) (v := .pointer (some ⟨B, 0, none⟩)) (a' := ?ax1q9) rfl (by kernel_rfl) (by kernel_rfl) (by kernel_rfl) (fun _ _ _ h => h) (Or.inl ⟨by rfl, ?yi⟩) ?ha ?_
        case yi => intro w; go_simp; try omega
        case ha => go_simp; try exact rfl
        refine wpAny_to (i := 2) (v := .pointer (some ⟨B, 0, none⟩)) (a' := ?ax2q10) rfl (by kernel_rfl) (by kernel_rfl) (by kernel_rfl) (fun _ _ _ h => h) (Or.inl ⟨by rfl, ?yi⟩) ?ha ?_
        case yi => intro w; go_simp; try omega
        case ha => go_simp; try exact rfl
        refine wpAny_to (i := 3) (v := .pointer (some ⟨B, 3, none⟩)) (a' := ?ax3q11) rfl (by kernel_rfl) (by kernel_rfl) (by kernel_rfl) (fun _ _ _ h => h) (Or.inl ⟨by rfl, ?yi⟩) ?ha ?_
        case yi => intro w; go_simp; try omega
        case ha => go_simp; try exact rfl
        refine wpAny_to (i := 4) (v := .pointer (some ⟨B, 3, none⟩)) (a' := ?ax4q12) rfl (by kernel_rfl) (by kernel_rfl) (by kernel_rfl) (fun _ _ _ h => h) (Or.inl ⟨by rfl, ?yi⟩) ?ha ?_
        case yi => intro w; go_simp; try omega
        case ha => go_simp; try exact rfl
        refine wpAny_to (i := 6) (v := .pointer (some ⟨B, 0, none⟩)) (a' := ?ax6q13) rfl (by kernel_rfl) (by kernel_rfl) (by kernel_rfl) (fun _ _ _ h => h) (Or.inl ⟨by rfl, ?yi⟩) ?ha ?_
        case yi => intro w; go_simp; try omega
        case ha => go_simp; try exact rfl
        refine wpAny_to (i := 7) (v := .pointer (some ⟨B, 0, none⟩)) (a' := ?ax7q14) rfl (by kernel_rfl) (by kernel_rfl) (by kernel_rfl) (fun _ _ _ h => h) (Or.inl ⟨by rfl, ?yi⟩) ?ha ?_
        case yi => intro w; go_simp; try omega
        case ha => go_simp; try exact rfl
        refine wpAny_to (i := 8) (v := .pointer (some ⟨B, 0, none⟩)) (a' := ?ax8q15) rfl (by kernel_rfl) (by kernel_rfl) (by kernel_rfl) (fun _ _ _ h => h) (Or.inl ⟨by rfl, ?yi⟩) ?ha ?_
        case yi => intro w; go_simp; try omega
        case ha => go_simp; try exact rfl
        refine wpAny_ready (rs := [5, 9]) (by kernel_rfl) (by simp) ?_
        refine AllReady.cons rfl (fun K hK => ?_) (AllReady.cons rfl (fun K hK => ?_) AllReady.nil)
        · go_simp
          go_wp2_with fail
          refine wpAny_ready (rs := [9]) (by kernel_rfl) (by simp) ?_
          refine AllReady.cons rfl (fun K hK => ?_) AllReady.nil
          go_simp
          go_wp2_with fail
          refine wpAny_to (i := 10) (v := .int .i64 ((l.length : Int) + 1)) (a' := ?ax10q16) rfl (by kernel_rfl) (by kernel_rfl) (by kernel_rfl) (fun _ _ _ h => h) (Or.inl ⟨by rfl, ?yi⟩) ?ha ?_
          case yi => intro w; go_simp; try omega
          case ha => go_simp; try exact rfl
          refine wpAny_to (i := 11) (v := .int .i64 (l.length : Int)) (a' := ?ax11q17) rfl (by kernel_rfl) (by kernel_rfl) (by kernel_rfl) (fun _ _ _ h => h) (Or.inl ⟨by rfl, ?yi⟩) ?ha ?_
          case yi => intro w; go_simp; try exact IntWalk.i64_in _ (by omega)
          case ha => go_simp; try exact rfl
          refine wpAny_ready (rs := [12]) (by kernel_rfl) (by simp) ?_
          refine AllReady.cons rfl (fun K hK => ?_) AllReady.nil
          go_simp
          go_wp2_with fail
          refine wpAny_to (i := 13) (v := .pointer (some ⟨B, 0, none⟩)) (a' := ?ax13q18) rfl (by kernel_rfl) (by kernel_rfl) (by kernel_rfl) (fun _ _ _ h => h) (Or.inl ⟨by rfl, ?yi⟩) ?ha ?_
          case yi => intro w; go_simp; try omega
          case ha => go_simp; try exact rfl
          refine wpAny_to (i := 14) (v := .pointer (some ⟨B, 3, none⟩)) (a' := ?ax14q19) rfl (by kernel_rfl) (by kernel_rfl) (by kernel_rfl) (fun _ _ _ h => h) (Or.inl ⟨by rfl, ?yi⟩) ?ha ?_
          case yi => intro w; go_simp; try omega
          case ha => go_simp; try exact rfl
          refine wpAny_to (i := 15) (v := .pointer (some ⟨B, 3, none⟩)) (a' := ?ax15q20) rfl (by kernel_rfl) (by kernel_rfl) (by kernel_rfl) (fun _ _ _ h => h) (Or.inl ⟨by rfl, ?yi⟩) ?ha ?_
          case yi => intro w; go_simp; try omega
          case ha => go_simp; try exact rfl
          refine wpAny_ready (rs := [16]) (by kernel_rfl) (by simp) ?_
          refine AllReady.cons rfl (fun K hK => ?_) AllReady.nil
          go_simp
          go_wp2_with fail
          refine wpAny_done (by kernel_rfl) ?_ _
          go_wp2_with fail
          go_end0
          have HF := HE.out (max o l.length)
          have hmx : ((max o l.length : Nat) : Int) = max (o : Int) (l.length : Int) := by omega
          rw [hmx] at HF
          have hlq : max o (q.length + 1) = max o l.length := by rw [HLL.out]
          rw [hlq]
          exact ⟨rfl, HF⟩
        · go_simp
          go_wp2_with fail
          refine wpAny_to (i := 10) (v := .int .i64 ((l.length : Int) + 1)) (a' := ?ax10q21) rfl (by kernel_rfl) (by kernel_rfl) (by kernel_rfl) (fun _ _ _ h => h) (Or.inl ⟨by rfl, ?yi⟩) ?ha ?_
          case yi => intro w; go_simp; try omega
          case ha => go_simp; try exact rfl
          refine wpAny_to (i := 11) (v := .int .i64 (l.length : Int)) (a' := ?ax11q22) rfl (by kernel_rfl) (by kernel_rfl) (by kernel_rfl) (fun _ _ _ h => h) (Or.inl ⟨by rfl, ?yi⟩) ?ha ?_
          case yi => intro w; go_simp; try exact IntWalk.i64_in _ (by omega)
          case ha => go_simp; try exact rfl
          refine wpAny_ready (rs := [5]) (by kernel_rfl) (by simp) ?_
          refine AllReady.cons rfl (fun K hK => ?_) AllReady.nil
          go_simp
          go_wp2_with fail
          refine wpAny_ready (rs := [12]) (by kernel_rfl) (by simp) ?_
          refine AllReady.cons rfl (fun K hK => ?_) AllReady.nil
          go_simp
          go_wp2_with fail
          refine wpAny_to (i := 13) (v := .pointer (some ⟨B, 0, none⟩)) (a' := ?ax13q23) rfl (by kernel_rfl) (by kernel_rfl) (by kernel_rfl) (fun _ _ _ h => h) (Or.inl ⟨by rfl, ?yi⟩) ?ha ?_
          case yi => intro w; go_simp; try omega
          case ha => go_simp; try exact rfl
          refine wpAny_to (i := 14) (v := .pointer (some ⟨B, 3, none⟩)) (a' := ?ax14q24) rfl (by kernel_rfl) (by kernel_rfl) (by kernel_rfl) (fun _ _ _ h => h) (Or.inl ⟨by rfl, ?yi⟩) ?ha ?_
          case yi => intro w; go_simp; try omega
          case ha => go_simp; try exact rfl
          refine wpAny_to (i := 15) (v := .pointer (some ⟨B, 3, none⟩)) (a' := ?ax15q25) rfl (by kernel_rfl) (by kernel_rfl) (by kernel_rfl) (fun _ _ _ h => h) (Or.inl ⟨by rfl, ?yi⟩) ?ha ?_
          case yi => intro w; go_simp; try omega
          case ha => go_simp; try exact rfl
          refine wpAny_ready (rs := [16]) (by kernel_rfl) (by simp) ?_
          refine AllReady.cons rfl (fun K hK => ?_) AllReady.nil
          go_simp
          go_wp2_with fail
          refine wpAny_done (by kernel_rfl) ?_ _
          go_wp2_with fail
          go_end0
          have HF := HE.out (max o l.length)
          have hmx : ((max o l.length : Nat) : Int) = max (o : Int) (l.length : Int) := by omega
          rw [hmx] at HF
          have hlq : max o (q.length + 1) = max o l.length := by rw [HLL.out]
          rw [hlq]
          exact ⟨rfl, HF⟩
      · go_simp
        go_wp2_with fail
        refine wpAny_ready (rs := [9]) (by kernel_rfl) (by simp) ?_
        refine AllReady.cons rfl (fun K hK => ?_) AllReady.nil
        go_simp
        go_wp2_with fail
        refine wpAny_done (by kernel_rfl) ?_ _
        go_wp2_with fail
        obtain ⟨w8, hw8, hp⟩ := HFB.out.name
        rw [← hw8]
        have c0 : (w8.drew).cell? ⟨B, 0, none⟩ = some (.slice (some ⟨g2, 0, none⟩) (l.length + 1) c2) := tag_cell hp.1 0 _ rfl
        have c3 : (w8.drew).cell? ⟨B, 3, none⟩ = some (.int .i64 (o : Int)) := tag_cell hp.1 3 _ rfl
        have f3 : (w8.drew).frozen? ⟨B, 3, none⟩ = false := tag_free hp.1 3
        have HE := hide (HEND.out w8 _ hp)
        clear hw8 hp HFA HFB
        refine wp_region_any (by kernel_rfl) ?_
        try (change wpAny _ _ _ _ _ _ _ (World.drew _))
        refine wpAny_to (i := 0) (v := .pointer (some ⟨B, 0, none⟩)) (a' := ?ax0q26) rfl (by kernel_rfl) (by kernel_rfl) (by kernel_rfl) (fun _ _ _ h => h) (Or.inl ⟨by rfl, ?yi⟩) ?ha ?_
        case yi => intro w; go_simp; try omega
        case ha => go_simp; try exact rfl
        refine wpAny_to (i := 1) (v := .pointer (some ⟨B, 0, none⟩)) (a' := ?ax1q27) rfl (by kernel_rfl) (by kernel_rfl) (by kernel_rfl) (fun _ _ _ h => h) (Or.inl ⟨by rfl, ?yi⟩) ?ha ?_
        case yi => intro w; go_simp; try omega
        case ha => go_simp; try exact rfl
        refine wpAny_to (i := 2) (v := .pointer (some ⟨B, 0, none⟩)) (a' := ?ax2q28) rfl (by kernel_rfl) (by kernel_rfl) (by kernel_rfl) (fun _ _ _ h => h) (Or.inl ⟨by rfl, ?yi⟩) ?ha ?_
        case yi => intro w; go_simp; try omega
        case ha => go_simp; try exact rfl
        refine wpAny_to (i := 3) (v := .pointer (some ⟨B, 3, none⟩)) (a' := ?ax3q29) rfl (by kernel_rfl) (by kernel_rfl) (by kernel_rfl) (fun _ _ _ h => h) (Or.inl ⟨by rfl, ?yi⟩) ?ha ?_
        case yi => intro w; go_simp; try omega
        case ha => go_simp; try exact rfl
        refine wpAny_to (i := 4) (v := .pointer (some ⟨B, 3, none⟩)) (a' := ?ax4q30) rfl (by kernel_rfl) (by kernel_rfl) (by kernel_rfl) (fun _ _ _ h => h) (Or.inl ⟨by rfl, ?yi⟩) ?ha ?_
        case yi => intro w; go_simp; try omega
        case ha => go_simp; try exact rfl
        refine wpAny_to (i := 6) (v := .pointer (some ⟨B, 0, none⟩)) (a' := ?ax6q31) rfl (by kernel_rfl) (by kernel_rfl) (by kernel_rfl) (fun _ _ _ h => h) (Or.inl ⟨by rfl, ?yi⟩) ?ha ?_
        case yi => intro w; go_simp; try omega
        case ha => go_simp; try exact rfl
        refine wpAny_to (i := 7) (v := .pointer (some ⟨B, 0, none⟩)) (a' := ?ax7q32) rfl (by kernel_rfl) (by kernel_rfl) (by kernel_rfl) (fun _ _ _ h => h) (Or.inl ⟨by rfl, ?yi⟩) ?ha ?_
        case yi => intro w; go_simp; try omega
        case ha => go_simp; try exact rfl
        refine wpAny_to (i := 8) (v := .pointer (some ⟨B, 0, none⟩)) (a' := ?ax8q33) rfl (by kernel_rfl) (by kernel_rfl) (by kernel_rfl) (fun _ _ _ h => h) (Or.inl ⟨by rfl, ?yi⟩) ?ha ?_
        case yi => intro w; go_simp; try omega
        case ha => go_simp; try exact rfl
        refine wpAny_ready (rs := [5, 9]) (by kernel_rfl) (by simp) ?_
        refine AllReady.cons rfl (fun K hK => ?_) (AllReady.cons rfl (fun K hK => ?_) AllReady.nil)
        · go_simp
          go_wp2_with fail
          refine wpAny_ready (rs := [9]) (by kernel_rfl) (by simp) ?_
          refine AllReady.cons rfl (fun K hK => ?_) AllReady.nil
          go_simp
          go_wp2_with fail
          refine wpAny_to (i := 10) (v := .int .i64 ((l.length : Int) + 1)) (a' := ?ax10q34) rfl (by kernel_rfl) (by kernel_rfl) (by kernel_rfl) (fun _ _ _ h => h) (Or.inl ⟨by rfl, ?yi⟩) ?ha ?_
          case yi => intro w; go_simp; try omega
          case ha => go_simp; try exact rfl
          refine wpAny_to (i := 11) (v := .int .i64 (l.length : Int)) (a' := ?ax11q35) rfl (by kernel_rfl) (by kernel_rfl) (by kernel_rfl) (fun _ _ _ h => h) (Or.inl ⟨by rfl, ?yi⟩) ?ha ?_
          case yi => intro w; go_simp; try exact IntWalk.i64_in _ (by omega)
          case ha => go_simp; try exact rfl
          refine wpAny_ready (rs := [12]) (by kernel_rfl) (by simp) ?_
          refine AllReady.cons rfl (fun K hK => ?_) AllReady.nil
          go_simp
          go_wp2_with fail
          refine wpAny_to (i := 13) (v := .pointer (some ⟨B, 0, none⟩)) (a' := ?ax13q36) rfl (by kernel_rfl) (by kernel_rfl) (by kernel_rfl) (fun _ _ _ h => h) (Or.inl ⟨by rfl, ?yi⟩) ?ha ?_
          case yi => intro w; go_simp; try omega
          case ha => go_simp; try exact rfl
          refine wpAny_to (i := 14) (v := .pointer (some ⟨B, 3, none⟩)) (a' := ?ax14q37) rfl (by kernel_rfl) (by kernel_rfl) (by kernel_rfl) (fun _ _ _ h => h) (Or.inl ⟨by rfl, ?yi⟩) ?ha ?_
          case yi => intro w; go_simp; try omega
          case ha => go_simp; try exact rfl
          refine wpAny_to (i := 15) (v := .pointer (some ⟨B, 3, none⟩)) (a' := ?ax15q38) rfl (by kernel_rfl) (by kernel_rfl) (by kernel_rfl) (fun _ _ _ h => h) (Or.inl ⟨by rfl, ?yi⟩) ?ha ?_
          case yi => intro w; go_simp; try omega
          case ha => go_simp; try exact rfl
          refine wpAny_ready (rs := [16]) (by kernel_rfl) (by simp) ?_
          refine AllReady.cons rfl (fun K hK => ?_) AllReady.nil
          go_simp
          go_wp2_with fail
          refine wpAny_done (by kernel_rfl) ?_ _
          go_wp2_with fail
          go_end0
          have HF := HE.out (max o l.length)
          have hmx : ((max o l.length : Nat) : Int) = max (o : Int) (l.length : Int) := by omega
          rw [hmx] at HF
          have hlq : max o (q.length + 1) = max o l.length := by rw [HLL.out]
          rw [hlq]
          exact ⟨rfl, HF⟩
        · go_simp
          go_wp2_with fail
          refine wpAny_to (i := 10) (v := .int .i64 ((l.length : Int) + 1)) (a' := ?ax10q39) rfl (by kernel_rfl) (by kernel_rfl) (by kernel_rfl) (fun _ _ _ h => h) (Or.inl ⟨by rfl, ?yi⟩) ?ha ?_
          case yi => intro w; go_simp; try omega
          case ha => go_simp; try exact rfl
          refine wpAny_to (i := 11) (v := .int .i64 (l.length : Int)) (a' := ?ax11q40) rfl (by kernel_rfl) (by kernel_rfl) (by kernel_rfl) (fun _ _ _ h => h) (Or.inl ⟨by rfl, ?yi⟩) ?ha ?_
          case yi => intro w; go_simp; try exact IntWalk.i64_in _ (by omega)
          case ha => go_simp; try exact rfl
          refine wpAny_ready (rs := [5]) (by kernel_rfl) (by simp) ?_
          refine AllReady.cons rfl (fun K hK => ?_) AllReady.nil
          go_simp
          go_wp2_with fail
          refine wpAny_ready (rs := [12]) (by kernel_rfl) (by simp) ?_
          refine AllReady.cons rfl (fun K hK => ?_) AllReady.nil
          go_simp
          go_wp2_with fail
          refine wpAny_to (i := 13) (v := .pointer (some ⟨B, 0, none⟩)) (a' := ?ax13q41) rfl (by kernel_rfl) (by kernel_rfl) (by kernel_rfl) (fun _ _ _ h => h) (Or.inl ⟨by rfl, ?yi⟩) ?ha ?_
          case yi => intro w; go_simp; try omega
          case ha => go_simp; try exact rfl
          refine wpAny_to (i := 14) (v := .pointer (some ⟨B, 3, none⟩)) (a' := ?ax14q42) rfl (by kernel_rfl) (by kernel_rfl) (by kernel_rfl) (fun _ _ _ h => h) (Or.inl ⟨by rfl, ?yi⟩) ?ha ?_
          case yi => intro w; go_simp; try omega
          case ha => go_simp; try exact rfl
          refine wpAny_to (i := 15) (v := .pointer (some ⟨B, 3, none⟩)) (a' := ?ax15q43) rfl (by kernel_rfl) (by kernel_rfl) (by kernel_rfl) (fun _ _ _ h => h) (Or.inl ⟨by rfl, ?yi⟩) ?ha ?_
          case yi => intro w; go_simp; try omega
          case ha => go_simp; try exact rfl
          refine wpAny_ready (rs := [16]) (by kernel_rfl) (by simp) ?_
          refine AllReady.cons rfl (fun K hK => ?_) AllReady.nil
          go_simp
          go_wp2_with fail
          refine wpAny_done (by kernel_rfl) ?_ _
          go_wp2_with fail
          go_end0
          have HF := HE.out (max o l.length)
          have hmx : ((max o l.length : Nat) : Int) = max (o : Int) (l.length : Int) := by omega
          rw [hmx] at HF
          have hlq : max o (q.length + 1) = max o l.length := by rw [HLL.out]
          rw [hlq]
          exact ⟨rfl, HF⟩
    · go_simp
      go_wp2_with fail
      rw [← HWZ.out]
      refine wpAny_ready (rs := [4]) (by kernel_rfl) (by simp) ?_
      refine AllReady.cons rfl (fun K hK => ?_) AllReady.nil
      go_simp
      go_wp2_with fail
      refine wpAny_ready (rs := [7]) (by kernel_rfl) (by simp) ?_
      refine AllReady.cons rfl (fun K hK => ?_) AllReady.nil
      rw [if_pos (by rfl)]
      refine wp_append_new (.tmp 36) (.tmp 39) 22 rfl base 42 i0 _ 4 80 Tryz.underlying22 hi hz0 hz1 hz2 rfl (by decide) (.slice op l.length oc) l.length (ndCells l) rfl HRZ.out.1 ⟨wd.heap.size, 0, none⟩ 1 1 [.string ⟨#[]⟩, .slice none 0 0, .string ⟨#[]⟩, .slice none 0 0] rfl rfl HNZ.out zero_one (by unfold maxLen; omega) (by omega) (by have := HSZ.out; omega) (by decide) ?_
      intro v' w5 hown5 hgr5 hfr5
      obtain ⟨g2, c2, rfl, HP⟩ := push_facts hbB HSZ.out HRZ.out.2 HRZ.out.1 hown5 hgr5 hfr5 name ⟨#[]⟩ ap am ac none 0 0
      obtain ⟨hgg, q0, q1, q2, q3, r0, r1, r2, r3, q4, r4, hfa, hfb⟩ := HP
      have HFA := hide hfa
      have HFB := hide hfb
      have hgg2 : B ≠ g2 := Ne.symm hgg
      clear hown5 hgr5 hfr5 hfa hfb
      refine hK _ _ ?_
      clear hK K
      refine wpAny_to (i := 8) (v := .pointer (some ⟨g2, l.length * 4, none⟩)) (a' := ?ax8q44) rfl (by kernel_rfl) (by kernel_rfl) (by kernel_rfl) (fun _ _ _ h => h) (Or.inl ⟨by rfl, ?yi⟩) ?ha ?_
      case yi => intro w; go_simp; try omega
      case ha => go_simp; try exact rfl
      refine wpAny_to (i := 10) (v := .pointer (some ⟨B, 0, none⟩)) (a' := ?ax10q45) rfl (by kernel_rfl) (by kernel_rfl) (by kernel_rfl) (fun _ _ _ h => h) (Or.inl ⟨by rfl, ?yi⟩) ?ha ?_
      case yi => intro w; go_simp; try omega
      case ha => go_simp; try exact rfl
      refine wpAny_to (i := 11) (v := .pointer (some ⟨B, 0, none⟩)) (a' := ?ax11q46) rfl (by kernel_rfl) (by kernel_rfl) (by kernel_rfl) (fun _ _ _ h => h) (Or.inl ⟨by rfl, ?yi⟩) ?ha ?_
      case yi => intro w; go_simp; try omega
      case ha => go_simp; try exact rfl
      refine wpAny_ready (rs := [9, 12]) (by kernel_rfl) (by simp) ?_
      refine AllReady.cons rfl (fun K hK => ?_) (AllReady.cons rfl (fun K hK => ?_) AllReady.nil)
      · go_simp
        go_wp2_with fail
        refine wpAny_ready (rs := [12]) (by kernel_rfl) (by simp) ?_
        refine AllReady.cons rfl (fun K hK => ?_) AllReady.nil
        go_simp
        go_wp2_with fail
        refine wpAny_done (by kernel_rfl) ?_ _
        go_wp2_with fail
        obtain ⟨w8, hw8, hp⟩ := HFA.out.name
        rw [← hw8]
        have c0 : (w8.drew).cell? ⟨B, 0, none⟩ = some (.slice (some ⟨g2, 0, none⟩) (l.length + 1) c2) := tag_cell hp.1 0 _ rfl
        have c3 : (w8.drew).cell? ⟨B, 3, none⟩ = some (.int .i64 (o : Int)) := tag_cell hp.1 3 _ rfl
        have f3 : (w8.drew).frozen? ⟨B, 3, none⟩ = false := tag_free hp.1 3
        have HE := hide (HEND.out w8 _ hp)
        clear hw8 hp HFA HFB
        refine wp_region_any (by kernel_rfl) ?_
        try (change wpAny _ _ _ _ _ _ _ (World.drew _))
        refine wpAny_to (i := 0) (v := .pointer (some ⟨B, 0, none⟩)) (a' := ?ax0q47) rfl (by kernel_rfl) (by kernel_rfl) (by kernel_rfl) (fun _ _ _ h => h) (Or.inl ⟨by rfl, ?yi⟩) ?ha ?_
        case yi => intro w; go_simp; try omega
        case ha => go_simp; try exact rfl
        refine wpAny_to (i := 1) (v := .pointer (some ⟨B, 0, none⟩)) (a' := ?ax1q48) rfl (by kernel_rfl) (by kernel_rfl) (by kernel_rfl) (fun _ _ _ h => h) (Or.inl ⟨by rfl, ?yi⟩) ?ha ?_
        case yi => intro w; go_simp; try omega
        case ha => go_simp; try exact rfl
        refine wpAny_to (i := 2) (v := .pointer (some ⟨B, 0, none⟩)) (a' := ?ax2q49) rfl (by kernel_rfl) (by kernel_rfl) (by kernel_rfl) (fun _ _ _ h => h) (Or.inl ⟨by rfl, ?yi⟩) ?ha ?_
        case yi => intro w; go_simp; try omega
        case ha => go_simp; try exact rfl
        refine wpAny_to (i := 3) (v := .pointer (some ⟨B, 3, none⟩)) (a' := ?ax3q50) rfl (by kernel_rfl) (by kernel_rfl) (by kernel_rfl) (fun _ _ _ h => h) (Or.inl ⟨by rfl, ?yi⟩) ?ha ?_
        case yi => intro w; go_simp; try omega
        case ha => go_simp; try exact rfl
        refine wpAny_to (i := 4) (v := .pointer (some ⟨B, 3, none⟩)) (a' := ?ax4q51) rfl (by kernel_rfl) (by kernel_rfl) (by kernel_rfl) (fun _ _ _ h => h) (Or.inl ⟨by rfl, ?yi⟩) ?ha ?_
        case yi => intro w; go_simp; try omega
        case ha => go_simp; try exact rfl
        refine wpAny_to (i := 6) (v := .pointer (some ⟨B, 0, none⟩)) (a' := ?ax6q52) rfl (by kernel_rfl) (by kernel_rfl) (by kernel_rfl) (fun _ _ _ h => h) (Or.inl ⟨by rfl, ?yi⟩) ?ha ?_
        case yi => intro w; go_simp; try omega
        case ha => go_simp; try exact rfl
        refine wpAny_to (i := 7) (v := .pointer (some ⟨B, 0, none⟩)) (a' := ?ax7q53) rfl (by kernel_rfl) (by kernel_rfl) (by kernel_rfl) (fun _ _ _ h => h) (Or.inl ⟨by rfl, ?yi⟩) ?ha ?_
        case yi => intro w; go_simp; try omega
        case ha => go_simp; try exact rfl
        refine wpAny_to (i := 8) (v := .pointer (some ⟨B, 0, none⟩)) (a' := ?ax8q54) rfl (by kernel_rfl) (by kernel_rfl) (by kernel_rfl) (fun _ _ _ h => h) (Or.inl ⟨by rfl, ?yi⟩) ?ha ?_
        case yi => intro w; go_simp; try omega
        case ha => go_simp; try exact rfl
        refine wpAny_ready (rs := [5, 9]) (by kernel_rfl) (by simp) ?_
        refine AllReady.cons rfl (fun K hK => ?_) (AllReady.cons rfl (fun K hK => ?_) AllReady.nil)
        · go_simp
          go_wp2_with fail
          refine wpAny_ready (rs := [9]) (by kernel_rfl) (by simp) ?_
          refine AllReady.cons rfl (fun K hK => ?_) AllReady.nil
          go_simp
          go_wp2_with fail
          refine wpAny_to (i := 10) (v := .int .i64 ((l.length : Int) + 1)) (a' := ?ax10q55) rfl (by kernel_rfl) (by kernel_rfl) (by kernel_rfl) (fun _ _ _ h => h) (Or.inl ⟨by rfl, ?yi⟩) ?ha ?_
          case yi => intro w; go_simp; try omega
          case ha => go_simp; try exact rfl
          refine wpAny_to (i := 11) (v := .int .i64 (l.length : Int)) (a' := ?ax11q56) rfl (by kernel_rfl) (by kernel_rfl) (by kernel_rfl) (fun _ _ _ h => h) (Or.inl ⟨by rfl, ?yi⟩) ?ha ?_
          case yi => intro w; go_simp; try exact IntWalk.i64_in _ (by omega)
          case ha => go_simp; try exact rfl
          refine wpAny_ready (rs := [12]) (by kernel_rfl) (by simp) ?_
          refine AllReady.cons rfl (fun K hK => ?_) AllReady.nil
          go_simp
          go_wp2_with fail
          refine wpAny_to (i := 13) (v := .pointer (some ⟨B, 0, none⟩)) (a' := ?ax13q57) rfl (by kernel_rfl) (by kernel_rfl) (by kernel_rfl) (fun _ _ _ h => h) (Or.inl ⟨by rfl, ?yi⟩) ?ha ?_
          case yi => intro w; go_simp; try omega
          case ha => go_simp; try exact rfl
          refine wpAny_to (i := 14) (v := .pointer (some ⟨B, 3, none⟩)) (a' := ?ax14q58) rfl (by kernel_rfl) (by kernel_rfl) (by kernel_rfl) (fun _ _ _ h => h) (Or.inl ⟨by rfl, ?yi⟩) ?ha ?_
          case yi => intro w; go_simp; try omega
          case ha => go_simp; try exact rfl
          refine wpAny_to (i := 15) (v := .pointer (some ⟨B, 3, none⟩)) (a' := ?ax15q59) rfl (by kernel_rfl) (by kernel_rfl) (by kernel_rfl) (fun _ _ _ h => h) (Or.inl ⟨by rfl, ?yi⟩) ?ha ?_
          case yi => intro w; go_simp; try omega
          case ha => go_simp; try exact rfl
          refine wpAny_ready (rs := [16]) (by kernel_rfl) (by simp) ?_
          refine AllReady.cons rfl (fun K hK => ?_) AllReady.nil
          go_simp
          go_wp2_with fail
          refine wpAny_done (by kernel_rfl) ?_ _
          go_wp2_with fail
          go_end0
          have HF := HE.out (max o l.length)
          have hmx : ((max o l.length : Nat) : Int) = max (o : Int) (l.length : Int) := by omega
          rw [hmx] at HF
          have hlq : max o (q.length + 1) = max o l.length := by rw [HLL.out]
          rw [hlq]
          exact ⟨rfl, HF⟩
        · go_simp
          go_wp2_with fail
          refine wpAny_to (i := 10) (v := .int .i64 ((l.length : Int) + 1)) (a' := ?ax10q60) rfl (by kernel_rfl) (by kernel_rfl) (by kernel_rfl) (fun _ _ _ h => h) (Or.inl ⟨by rfl, ?yi⟩) ?ha ?_
          case yi => intro w; go_simp; try omega
          case ha => go_simp; try exact rfl
          refine wpAny_to (i := 11) (v := .int .i64 (l.length : Int)) (a' := ?ax11q61) rfl (by kernel_rfl) (by kernel_rfl) (by kernel_rfl) (fun _ _ _ h => h) (Or.inl ⟨by rfl, ?yi⟩) ?ha ?_
          case yi => intro w; go_simp; try exact IntWalk.i64_in _ (by omega)
          case ha => go_simp; try exact rfl
          refine wpAny_ready (rs := [5]) (by kernel_rfl) (by simp) ?_
          refine AllReady.cons rfl (fun K hK => ?_) AllReady.nil
          go_simp
          go_wp2_with fail
          refine wpAny_ready (rs := [12]) (by kernel_rfl) (by simp) ?_
          refine AllReady.cons rfl (fun K hK => ?_) AllReady.nil
          go_simp
          go_wp2_with fail
          refine wpAny_to (i := 13) (v := .pointer (some ⟨B, 0, none⟩)) (a' := ?ax13q62) rfl (by kernel_rfl) (by kernel_rfl) (by kernel_rfl) (fun _ _ _ h => h) (Or.inl ⟨by rfl, ?yi⟩) ?ha ?_
          case yi => intro w; go_simp; try omega
          case ha => go_simp; try exact rfl
          refine wpAny_to (i := 14) (v := .pointer (some ⟨B, 3, none⟩)) (a' := ?ax14q63) rfl (by kernel_rfl) (by kernel_rfl) (by kernel_rfl) (fun _ _ _ h => h) (Or.inl ⟨by rfl, ?yi⟩) ?ha ?_
          case yi => intro w; go_simp; try omega
          case ha => go_simp; try exact rfl
          refine wpAny_to (i := 15) (v := .pointer (some ⟨B, 3, none⟩)) (a' := ?ax15q64) rfl (by kernel_rfl) (by kernel_rfl) (by kernel_rfl) (fun _ _ _ h => h) (Or.inl ⟨by rfl, ?yi⟩) ?ha ?_
          case yi => intro w; go_simp; try omega
          case ha => go_simp; try exact rfl
          refine wpAny_ready (rs := [16]) (by kernel_rfl) (by simp) ?_
          refine AllReady.cons rfl (fun K hK => ?_) AllReady.nil
          go_simp
          go_wp2_with fail
          refine wpAny_done (by kernel_rfl) ?_ _
          go_wp2_with fail
          go_end0
          have HF := HE.out (max o l.length)
          have hmx : ((max o l.length : Nat) : Int) = max (o : Int) (l.length : Int) := by omega
          rw [hmx] at HF
          have hlq : max o (q.length + 1) = max o l.length := by rw [HLL.out]
          rw [hlq]
          exact ⟨rfl, HF⟩
      · go_simp
        go_wp2_with fail
        refine wpAny_ready (rs := [9]) (by kernel_rfl) (by simp) ?_
        refine AllReady.cons rfl (fun K hK => ?_) AllReady.nil
        go_simp
        go_wp2_with fail
        refine wpAny_done (by kernel_rfl) ?_ _
        go_wp2_with fail
        obtain ⟨w8, hw8, hp⟩ := HFB.out.name
        rw [← hw8]
        have c0 : (w8.drew).cell? ⟨B, 0, none⟩ = some (.slice (some ⟨g2, 0, none⟩) (l.length + 1) c2) := tag_cell hp.1 0 _ rfl
        have c3 : (w8.drew).cell? ⟨B, 3, none⟩ = some (.int .i64 (o : Int)) := tag_cell hp.1 3 _ rfl
        have f3 : (w8.drew).frozen? ⟨B, 3, none⟩ = false := tag_free hp.1 3
        have HE := hide (HEND.out w8 _ hp)
        clear hw8 hp HFA HFB
        refine wp_region_any (by kernel_rfl) ?_
        try (change wpAny _ _ _ _ _ _ _ (World.drew _))
        refine wpAny_to (i := 0) (v := .pointer (some ⟨B, 0, none⟩)) (a' := ?ax0q65) rfl (by kernel_rfl) (by kernel_rfl) (by kernel_rfl) (fun _ _ _ h => h) (Or.inl ⟨by rfl, ?yi⟩) ?ha ?_
        case yi => intro w; go_simp; try omega
        case ha => go_simp; try exact rfl
        refine wpAny_to (i := 1) (v := .pointer (some ⟨B, 0, none⟩)) (a' := ?ax1q66) rfl (by kernel_rfl) (by kernel_rfl) (by kernel_rfl) (fun _ _ _ h => h) (Or.inl ⟨by rfl, ?yi⟩) ?ha ?_
        case yi => intro w; go_simp; try omega
        case ha => go_simp; try exact rfl
        refine wpAny_to (i := 2) (v := .pointer (some ⟨B, 0, none⟩)) (a' := ?ax2q67) rfl (by kernel_rfl) (by kernel_rfl) (by kernel_rfl) (fun _ _ _ h => h) (Or.inl ⟨by rfl, ?yi⟩) ?ha ?_
        case yi => intro w; go_simp; try omega
        case ha => go_simp; try exact rfl
        refine wpAny_to (i := 3) (v := .pointer (some ⟨B, 3, none⟩)) (a' := ?ax3q68) rfl (by kernel_rfl) (by kernel_rfl) (by kernel_rfl) (fun _ _ _ h => h) (Or.inl ⟨by rfl, ?yi⟩) ?ha ?_
        case yi => intro w; go_simp; try omega
        case ha => go_simp; try exact rfl
        refine wpAny_to (i := 4) (v := .pointer (some ⟨B, 3, none⟩)) (a' := ?ax4q69) rfl (by kernel_rfl) (by kernel_rfl) (by kernel_rfl) (fun _ _ _ h => h) (Or.inl ⟨by rfl, ?yi⟩) ?ha ?_
        case yi => intro w; go_simp; try omega
        case ha => go_simp; try exact rfl
        refine wpAny_to (i := 6) (v := .pointer (some ⟨B, 0, none⟩)) (a' := ?ax6q70) rfl (by kernel_rfl) (by kernel_rfl) (by kernel_rfl) (fun _ _ _ h => h) (Or.inl ⟨by rfl, ?yi⟩) ?ha ?_
        case yi => intro w; go_simp; try omega
        case ha => go_simp; try exact rfl
        refine wpAny_to (i := 7) (v := .pointer (some ⟨B, 0, none⟩)) (a' := ?ax7q71) rfl (by kernel_rfl) (by kernel_rfl) (by kernel_rfl) (fun _ _ _ h => h) (Or.inl ⟨by rfl, ?yi⟩) ?ha ?_
        case yi => intro w; go_simp; try omega
        case ha => go_simp; try exact rfl
        refine wpAny_to (i := 8) (v := .pointer (some ⟨B, 0, none⟩)) (a' := ?ax8q72) rfl (by kernel_rfl) (by kernel_rfl) (by kernel_rfl) (fun _ _ _ h => h) (Or.inl ⟨by rfl, ?yi⟩) ?ha ?_
        case yi => intro w; go_simp; try omega
        case ha => go_simp; try exact rfl
        refine wpAny_ready (rs := [5, 9]) (by kernel_rfl) (by simp) ?_
        refine AllReady.cons rfl (fun K hK => ?_) (AllReady.cons rfl (fun K hK => ?_) AllReady.nil)
        · go_simp
          go_wp2_with fail
          refine wpAny_ready (rs := [9]) (by kernel_rfl) (by simp) ?_
          refine AllReady.cons rfl (fun K hK => ?_) AllReady.nil
          go_simp
          go_wp2_with fail
          refine wpAny_to (i := 10) (v := .int .i64 ((l.length : Int) + 1)) (a' := ?ax10q73) rfl (by kernel_rfl) (by kernel_rfl) (by kernel_rfl) (fun _ _ _ h => h) (Or.inl ⟨by rfl, ?yi⟩) ?ha ?_
          case yi => intro w; go_simp; try omega
          case ha => go_simp; try exact rfl
          refine wpAny_to (i := 11) (v := .int .i64 (l.length : Int)) (a' := ?ax11q74) rfl (by kernel_rfl) (by kernel_rfl) (by kernel_rfl) (fun _ _ _ h => h) (Or.inl ⟨by rfl, ?yi⟩) ?ha ?_
          case yi => intro w; go_simp; try exact IntWalk.i64_in _ (by omega)
          case ha => go_simp; try exact rfl
          refine wpAny_ready (rs := [12]) (by kernel_rfl) (by simp) ?_
          refine AllReady.cons rfl (fun K hK => ?_) AllReady.nil
          go_simp
          go_wp2_with fail
          refine wpAny_to (i := 13) (v := .pointer (some ⟨B, 0, none⟩)) (a' := ?ax13q75) rfl (by kernel_rfl) (by kernel_rfl) (by kernel_rfl) (fun _ _ _ h => h) (Or.inl ⟨by rfl, ?yi⟩) ?ha ?_
          case yi => intro w; go_simp; try omega
          case ha => go_simp; try exact rfl
          refine wpAny_to (i := 14) (v := .pointer (some ⟨B, 3, none⟩)) (a' := ?ax14q76) rfl (by kernel_rfl) (by kernel_rfl) (by kernel_rfl) (fun _ _ _ h => h) (Or.inl ⟨by rfl, ?yi⟩) ?ha ?_
          case yi => intro w; go_simp; try omega
          case ha => go_simp; try exact rfl
          refine wpAny_to (i := 15) (v := .pointer (some ⟨B, 3, none⟩)) (a' := ?ax15q77) rfl (by kernel_rfl) (by kernel_rfl) (by kernel_rfl) (fun _ _ _ h => h) (Or.inl ⟨by rfl, ?yi⟩) ?ha ?_
          case yi => intro w; go_simp; try omega
          case ha => go_simp; try exact rfl
          refine wpAny_ready (rs := [16]) (by kernel_rfl) (by simp) ?_
          refine AllReady.cons rfl (fun K hK => ?_) AllReady.nil
          go_simp
          go_wp2_with fail
          refine wpAny_done (by kernel_rfl) ?_ _
          go_wp2_with fail
          go_end0
          have HF := HE.out (max o l.length)
          have hmx : ((max o l.length : Nat) : Int) = max (o : Int) (l.length : Int) := by omega
          rw [hmx] at HF
          have hlq : max o (q.length + 1) = max o l.length := by rw [HLL.out]
          rw [hlq]
          exact ⟨rfl, HF⟩
        · go_simp
          go_wp2_with fail
          refine wpAny_to (i := 10) (v := .int .i64 ((l.length : Int) + 1)) (a' := ?ax10q78) rfl (by kernel_rfl) (by kernel_rfl) (by kernel_rfl) (fun _ _ _ h => h) (Or.inl ⟨by rfl, ?yi⟩) ?ha ?_
          case yi => intro w; go_simp; try omega
          case ha => go_simp; try exact rfl
          refine wpAny_to (i := 11) (v := .int .i64 (l.length : Int)) (a' := ?ax11q79) rfl (by kernel_rfl) (by kernel_rfl) (by kernel_rfl) (fun _ _ _ h => h) (Or.inl ⟨by rfl, ?yi⟩) ?ha ?_
          case yi => intro w; go_simp; try exact IntWalk.i64_in _ (by omega)
          case ha => go_simp; try exact rfl
          refine wpAny_ready (rs := [5]) (by kernel_rfl) (by simp) ?_
          refine AllReady.cons rfl (fun K hK => ?_) AllReady.nil
          go_simp
          go_wp2_with fail
          refine wpAny_ready (rs := [12]) (by kernel_rfl) (by simp) ?_
          refine AllReady.cons rfl (fun K hK => ?_) AllReady.nil
          go_simp
          go_wp2_with fail
          refine wpAny_to (i := 13) (v := .pointer (some ⟨B, 0, none⟩)) (a' := ?ax13q80) rfl (by kernel_rfl) (by kernel_rfl) (by kernel_rfl) (fun _ _ _ h => h) (Or.inl ⟨by rfl, ?yi⟩) ?ha ?_
          case yi => intro w; go_simp; try omega
          case ha => go_simp; try exact rfl
          refine wpAny_to (i := 14) (v := .pointer (some ⟨B, 3, none⟩)) (a' := ?ax14q81) rfl (by kernel_rfl) (by kernel_rfl) (by kernel_rfl) (fun _ _ _ h => h) (Or.inl ⟨by rfl, ?yi⟩) ?ha ?_
          case yi => intro w; go_simp; try omega
          case ha => go_simp; try exact rfl
          refine wpAny_to (i := 15) (v := .pointer (some ⟨B, 3, none⟩)) (a' := ?ax15q82) rfl (by kernel_rfl) (by kernel_rfl) (by kernel_rfl) (fun _ _ _ h => h) (Or.inl ⟨by rfl, ?yi⟩) ?ha ?_
          case yi => intro w; go_simp; try omega
          case ha => go_simp; try exact rfl
          refine wpAny_ready (rs := [16]) (by kernel_rfl) (by simp) ?_
          refine AllReady.cons rfl (fun K hK => ?_) AllReady.nil
          go_simp
          go_wp2_with fail
          refine wpAny_done (by kernel_rfl) ?_ _
          go_wp2_with fail
          go_end0
          have HF := HE.out (max o l.length)
          have hmx : ((max o l.length : Nat) : Int) = max (o : Int) (l.length : Int) := by omega
          rw [hmx] at HF
          have hlq : max o (q.length + 1) = max o l.length := by rw [HLL.out]
          rw [hlq]
          exact ⟨rfl, HF⟩
  · go_simp
    go_wp2_with fail
    refine wpAny_ready (rs := [3, 6]) (by kernel_rfl) (by simp) ?_
    refine AllReady.cons rfl (fun K hK => ?_) (AllReady.cons rfl (fun K hK => ?_) AllReady.nil)
    · go_simp
      go_wp2_with fail
      refine wpAny_to (i := 5) (v := .int .i64 (l.length : Int)) (a' := ?ax5q83) rfl (by kernel_rfl) (by kernel_rfl) (by kernel_rfl) (fun _ _ _ h => h) (Or.inl ⟨by rfl, ?yi⟩) ?ha ?_
      case yi => intro w; go_simp; try omega
      case ha => go_simp; try exact rfl
      refine wpAny_ready (rs := [6]) (by kernel_rfl) (by simp) ?_
      refine AllReady.cons rfl (fun K hK => ?_) AllReady.nil
      go_simp
      go_wp2_with fail
      rw [← HWZ.out]
      refine wpAny_ready (rs := [7]) (by kernel_rfl) (by simp) ?_
      refine AllReady.cons rfl (fun K hK => ?_) AllReady.nil
      rw [if_pos (by rfl)]
      refine wp_append_new (.tmp 36) (.tmp 39) 22 rfl base 42 i0 _ 4 80 Tryz.underlying22 hi hz0 hz1 hz2 rfl (by decide) (.slice op l.length oc) l.length (ndCells l) rfl HRZ.out.1 ⟨wd.heap.size, 0, none⟩ 1 1 [.string ⟨#[]⟩, .slice none 0 0, .string ⟨#[]⟩, .slice none 0 0] rfl rfl HNZ.out zero_one (by unfold maxLen; omega) (by omega) (by have := HSZ.out; omega) (by decide) ?_
      intro v' w5 hown5 hgr5 hfr5
      obtain ⟨g2, c2, rfl, HP⟩ := push_facts hbB HSZ.out HRZ.out.2 HRZ.out.1 hown5 hgr5 hfr5 name ⟨#[]⟩ ap am ac none 0 0
      obtain ⟨hgg, q0, q1, q2, q3, r0, r1, r2, r3, q4, r4, hfa, hfb⟩ := HP
      have HFA := hide hfa
      have HFB := hide hfb
      have hgg2 : B ≠ g2 := Ne.symm hgg
      clear hown5 hgr5 hfr5 hfa hfb
      refine hK _ _ ?_
      clear hK K
      refine wpAny_to (i := 8) (v := .pointer (some ⟨g2, l.length * 4, none⟩)) (a' := ?ax8q84) rfl (by kernel_rfl) (by kernel_rfl) (by kernel_rfl) (fun _ _ _ h => h) (Or.inl ⟨by rfl, ?yi⟩) ?ha ?_
      case yi => intro w; go_simp; try omega
      case ha => go_simp; try exact rfl
      refine wpAny_to (i := 10) (v := .pointer (some ⟨B, 0, none⟩)) (a' := ?ax10q85) rfl (by kernel_rfl) (by kernel_rfl) (by kernel_rfl) (fun _ _ _ h => h) (Or.inl ⟨by rfl, ?yi⟩) ?ha ?_
      case yi => intro w; go_simp; try omega
      case ha => go_simp; try exact rfl
      refine wpAny_to (i := 11) (v := .pointer (some ⟨B, 0, none⟩)) (a' := ?ax11q86) rfl (by kernel_rfl) (by kernel_rfl) (by kernel_rfl) (fun _ _ _ h => h) (Or.inl ⟨by rfl, ?yi⟩) ?ha ?_
      case yi => intro w; go_simp; try omega
      case ha => go_simp; try exact rfl
      refine wpAny_ready (rs := [9, 12]) (by kernel_rfl) (by simp) ?_
      refine AllReady.cons rfl (fun K hK => ?_) (AllReady.cons rfl (fun K hK => ?_) AllReady.nil)
      · go_simp
        go_wp2_with fail
        refine wpAny_ready (rs := [12]) (by kernel_rfl) (by simp) ?_
        refine AllReady.cons rfl (fun K hK => ?_) AllReady.nil
        go_simp
        go_wp2_with fail
        refine wpAny_done (by kernel_rfl) ?_ _
        go_wp2_with fail
        obtain ⟨w8, hw8, hp⟩ := HFA.out.name
        rw [← hw8]
        have c0 : (w8.drew).cell? ⟨B, 0, none⟩ = some (.slice (some ⟨g2, 0, none⟩) (l.length + 1) c2) := tag_cell hp.1 0 _ rfl
        have c3 : (w8.drew).cell? ⟨B, 3, none⟩ = some (.int .i64 (o : Int)) := tag_cell hp.1 3 _ rfl
        have f3 : (w8.drew).frozen? ⟨B, 3, none⟩ = false := tag_free hp.1 3
        have HE := hide (HEND.out w8 _ hp)
        clear hw8 hp HFA HFB
        refine wp_region_any (by kernel_rfl) ?_
        try (change wpAny _ _ _ _ _ _ _ (World.drew _))
        refine wpAny_to (i := 0) (v := .pointer (some ⟨B, 0, none⟩)) (a' := ?ax0q87) rfl (by kernel_rfl) (by kernel_rfl) (by kernel_rfl) (fun _ _ _ h => h) (Or.inl ⟨by rfl, ?yi⟩) ?ha ?_
        case yi => intro w; go_simp; try omega
        case ha => go_simp; try exact rfl
        refine wpAny_to (i := 1) (v := .pointer (some ⟨B, 0, none⟩)) (a' := ?ax1q88) rfl (by kernel_rfl) (by kernel_rfl) (by kernel_rfl) (fun _ _ _ h => h) (Or.inl ⟨by rfl, ?yi⟩) ?ha ?_
        case yi => intro w; go_simp; try omega
        case ha => go_simp; try exact rfl
        refine wpAny_to (i := 2) (v := .pointer (some ⟨B, 0, none⟩)) (a' := ?ax2q89) rfl (by kernel_rfl) (by kernel_rfl) (by kernel_rfl) (fun _ _ _ h => h) (Or.inl ⟨by rfl, ?yi⟩) ?ha ?_
        case yi => intro w; go_simp; try omega
        case ha => go_simp; try exact rfl
        refine wpAny_to (i := 3) (v := .pointer (some ⟨B, 3, none⟩)) (a' := ?ax3q90) rfl (by kernel_rfl) (by kernel_rfl) (by kernel_rfl) (fun _ _ _ h => h) (Or.inl ⟨by rfl, ?yi⟩) ?ha ?_
        case yi => intro w; go_simp; try omega
        case ha => go_simp; try exact rfl
        refine wpAny_to (i := 4) (v := .pointer (some ⟨B, 3, none⟩)) (a' := ?ax4q91) rfl (by kernel_rfl) (by kernel_rfl) (by kernel_rfl) (fun _ _ _ h => h) (Or.inl ⟨by rfl, ?yi⟩) ?ha ?_
        case yi => intro w; go_simp; try omega
        case ha => go_simp; try exact rfl
        refine wpAny_to (i := 6) (v := .pointer (some ⟨B, 0, none⟩)) (a' := ?ax6q92) rfl (by kernel_rfl) (by kernel_rfl) (by kernel_rfl) (fun _ _ _ h => h) (Or.inl ⟨by rfl, ?yi⟩) ?ha ?_
        case yi => intro w; go_simp; try omega
        case ha => go_simp; try exact rfl
        refine wpAny_to (i := 7) (v := .pointer (some ⟨B, 0, none⟩)) (a' := ?ax7q93) rfl (by kernel_rfl) (by kernel_rfl) (by kernel_rfl) (fun _ _ _ h => h) (Or.inl ⟨by rfl, ?yi⟩) ?ha ?_
        case yi => intro w; go_simp; try omega
        case ha => go_simp; try exact rfl
        refine wpAny_to (i := 8) (v := .pointer (some ⟨B, 0, none⟩)) (a' := ?ax8q94) rfl (by kernel_rfl) (by kernel_rfl) (by kernel_rfl) (fun _ _ _ h => h) (Or.inl ⟨by rfl, ?yi⟩) ?ha ?_
        case yi => intro w; go_simp; try omega
        case ha => go_simp; try exact rfl
        refine wpAny_ready (rs := [5, 9]) (by kernel_rfl) (by simp) ?_
        refine AllReady.cons rfl (fun K hK => ?_) (AllReady.cons rfl (fun K hK => ?_) AllReady.nil)
        · go_simp
          go_wp2_with fail
          refine wpAny_ready (rs := [9]) (by kernel_rfl) (by simp) ?_
          refine AllReady.cons rfl (fun K hK => ?_) AllReady.nil
          go_simp
          go_wp2_with fail
          refine wpAny_to (i := 10) (v := .int .i64 ((l.length : Int) + 1)) (a' := ?ax10q95) rfl (by kernel_rfl) (by kernel_rfl) (by kernel_rfl) (fun _ _ _ h => h) (Or.inl ⟨by rfl, ?yi⟩) ?ha ?_
          case yi => intro w; go_simp; try omega
          case ha => go_simp; try exact rfl
          refine wpAny_to (i := 11) (v := .int .i64 (l.length : Int)) (a' := ?ax11q96) rfl (by kernel_rfl) (by kernel_rfl) (by kernel_rfl) (fun _ _ _ h => h) (Or.inl ⟨by rfl, ?yi⟩) ?ha ?_
          case yi => intro w; go_simp; try exact IntWalk.i64_in _ (by omega)
          case ha => go_simp; try exact rfl
          refine wpAny_ready (rs := [12]) (by kernel_rfl) (by simp) ?_
          refine AllReady.cons rfl (fun K hK => ?_) AllReady.nil
          go_simp
          go_wp2_with fail
          refine wpAny_to (i := 13) (v := .pointer (some ⟨B, 0, none⟩)) (a' := ?ax13q97) rfl (by kernel_rfl) (by kernel_rfl) (by kernel_rfl) (fun _ _ _ h => h) (Or.inl ⟨by rfl, ?yi⟩) ?ha ?_
          case yi => intro w; go_simp; try omega
          case ha => go_simp; try exact rfl
          refine wpAny_to (i := 14) (v := .pointer (some ⟨B, 3, none⟩)) (a' := ?ax14q98) rfl (by kernel_rfl) (by kernel_rfl) (by kernel_rfl) (fun _ _ _ h => h) (Or.inl ⟨by rfl, ?yi⟩) ?ha ?_
          case yi => intro w; go_simp; try omega
          case ha => go_simp; try exact rfl
          refine wpAny_to (i := 15) (v := .pointer (some ⟨B, 3, none⟩)) (a' := ?ax15q99) rfl (by kernel_rfl) (by kernel_rfl) (by kernel_rfl) (fun _ _ _ h => h) (Or.inl ⟨by rfl, ?yi⟩) ?ha ?_
          case yi => intro w; go_simp; try omega
          case ha => go_simp; try exact rfl
          refine wpAny_ready (rs := [16]) (by kernel_rfl) (by simp) ?_
          refine AllReady.cons rfl (fun K hK => ?_) AllReady.nil
          go_simp
          go_wp2_with fail
          refine wpAny_done (by kernel_rfl) ?_ _
          go_wp2_with fail
          go_end0
          have HF := HE.out (max o l.length)
          have hmx : ((max o l.length : Nat) : Int) = max (o : Int) (l.length : Int) := by omega
          rw [hmx] at HF
          have hlq : max o (q.length + 1) = max o l.length := by rw [HLL.out]
          rw [hlq]
          exact ⟨rfl, HF⟩
        · go_simp
          go_wp2_with fail
          refine wpAny_to (i := 10) (v := .int .i64 ((l.length : Int) + 1)) (a' := ?ax10q100) rfl (by kernel_rfl) (by kernel_rfl) (by kernel_rfl) (fun _ _ _ h => h) (Or.inl ⟨by rfl, ?yi⟩) ?ha ?_
          case yi => intro w; go_simp; try omega
          case ha => go_simp; try exact rfl
          refine wpAny_to (i := 11) (v := .int .i64 (l.length : Int)) (a' := ?ax11q101) rfl (by kernel_rfl) (by kernel_rfl) (by kernel_rfl) (fun _ _ _ h => h) (Or.inl ⟨by rfl, ?yi⟩) ?ha ?_
          case yi => intro w; go_simp; try exact IntWalk.i64_in _ (by omega)
          case ha => go_simp; try exact rfl
          refine wpAny_ready (rs := [5]) (by kernel_rfl) (by simp) ?_
          refine AllReady.cons rfl (fun K hK => ?_) AllReady.nil
          go_simp
          go_wp2_with fail
          refine wpAny_ready (rs := [12]) (by kernel_rfl) (by simp) ?_
          refine AllReady.cons rfl (fun K hK => ?_) AllReady.nil
          go_simp
          go_wp2_with fail
          refine wpAny_to (i := 13) (v := .pointer (some ⟨B, 0, none⟩)) (a' := ?ax13q102) rfl (by kernel_rfl) (by kernel_rfl) (by kernel_rfl) (fun _ _ _ h => h) (Or.inl ⟨by rfl, ?yi⟩) ?ha ?_
          case yi => intro w; go_simp; try omega
          case ha => go_simp; try exact rfl
          refine wpAny_to (i := 14) (v := .pointer (some ⟨B, 3, none⟩)) (a' := ?ax14q103) rfl (by kernel_rfl) (by kernel_rfl) (by kernel_rfl) (fun _ _ _ h => h) (Or.inl ⟨by rfl, ?yi⟩) ?ha ?_
          case yi => intro w; go_simp; try omega
          case ha => go_simp; try exact rfl
          refine wpAny_to (i := 15) (v := .pointer (some ⟨B, 3, none⟩)) (a' := ?ax15q104) rfl (by kernel_rfl) (by kernel_rfl) (by kernel_rfl) (fun _ _ _ h => h) (Or.inl ⟨by rfl, ?yi⟩) ?ha ?_
          case yi => intro w; go_simp; try omega
          case ha => go_simp; try exact rfl
          refine wpAny_ready (rs := [16]) (by kernel_rfl) (by simp) ?_
          refine AllReady.cons rfl (fun K hK => ?_) AllReady.nil
          go_simp
          go_wp2_with fail
          refine wpAny_done (by kernel_rfl) ?_ _
          go_wp2_with fail
          go_end0
          have HF := HE.out (max o l.length)
          have hmx : ((max o l.length : Nat) : Int) = max (o : Int) (l.length : Int) := by omega
          rw [hmx] at HF
          have hlq : max o (q.length + 1) = max o l.length := by rw [HLL.out]
          rw [hlq]
          exact ⟨rfl, HF⟩
      · go_simp
        go_wp2_with fail
        refine wpAny_ready (rs := [9]) (by kernel_rfl) (by simp) ?_
        refine AllReady.cons rfl (fun K hK => ?_) AllReady.nil
        go_simp
        go_wp2_with fail
        refine wpAny_done (by kernel_rfl) ?_ _
        go_wp2_with fail
        obtain ⟨w8, hw8, hp⟩ := HFB.out.name
        rw [← hw8]
        have c0 : (w8.drew).cell? ⟨B, 0, none⟩ = some (.slice (some ⟨g2, 0, none⟩) (l.length + 1) c2) := tag_cell hp.1 0 _ rfl
        have c3 : (w8.drew).cell? ⟨B, 3, none⟩ = some (.int .i64 (o : Int)) := tag_cell hp.1 3 _ rfl
        have f3 : (w8.drew).frozen? ⟨B, 3, none⟩ = false := tag_free hp.1 3
        have HE := hide (HEND.out w8 _ hp)
        clear hw8 hp HFA HFB
        refine wp_region_any (by kernel_rfl) ?_
        try (change wpAny _ _ _ _ _ _ _ (World.drew _))
        refine wpAny_to (i := 0) (v := .pointer (some ⟨B, 0, none⟩)) (a' := ?ax0q105) rfl (by kernel_rfl) (by kernel_rfl) (by kernel_rfl) (fun _ _ _ h => h) (Or.inl ⟨by rfl, ?yi⟩) ?ha ?_
        case yi => intro w; go_simp; try omega
        case ha => go_simp; try exact rfl
        refine wpAny_to (i := 1) (v := .pointer (some ⟨B, 0, none⟩)) (a' := ?ax1q106) rfl (by kernel_rfl) (by kernel_rfl) (by kernel_rfl) (fun _ _ _ h => h) (Or.inl ⟨by rfl, ?yi⟩) ?ha ?_
        case yi => intro w; go_simp; try omega
        case ha => go_simp; try exact rfl
        refine wpAny_to (i := 2) (v := .pointer (some ⟨B, 0, none⟩)) (a' := ?ax2q107) rfl (by kernel_rfl) (by kernel_rfl) (by kernel_rfl) (fun _ _ _ h => h) (Or.inl ⟨by rfl, ?yi⟩) ?ha ?_
        case yi => intro w; go_simp; try omega
        case ha => go_simp; try exact rfl
        refine wpAny_to (i := 3) (v := .pointer (some ⟨B, 3, none⟩)) (a' := ?ax3q108) rfl (by kernel_rfl) (by kernel_rfl) (by kernel_rfl) (fun _ _ _ h => h) (Or.inl ⟨by rfl, ?yi⟩) ?ha ?_
        case yi => intro w; go_simp; try omega
        case ha => go_simp; try exact rfl
        refine wpAny_to (i := 4) (v := .pointer (some ⟨B, 3, none⟩)) (a' := ?ax4q109) rfl (by kernel_rfl) (by kernel_rfl) (by kernel_rfl) (fun _ _ _ h => h) (Or.inl ⟨by rfl, ?yi⟩) ?ha ?_
        case yi => intro w; go_simp; try omega
        case ha => go_simp; try exact rfl
        refine wpAny_to (i := 6) (v := .pointer (some ⟨B, 0, none⟩)) (a' := ?ax6q110) rfl (by kernel_rfl) (by kernel_rfl) (by kernel_rfl) (fun _ _ _ h => h) (Or.inl ⟨by rfl, ?yi⟩) ?ha ?_
        case yi => intro w; go_simp; try omega
        case ha => go_simp; try exact rfl
        refine wpAny_to (i := 7) (v := .pointer (some ⟨B, 0, none⟩)) (a' := ?ax7q111) rfl (by kernel_rfl) (by kernel_rfl) (by kernel_rfl) (fun _ _ _ h => h) (Or.inl ⟨by rfl, ?yi⟩) ?ha ?_
        case yi => intro w; go_simp; try omega
        case ha => go_simp; try exact rfl
        refine wpAny_to (i := 8) (v := .pointer (some ⟨B, 0, none⟩)) (a' := ?ax8q112) rfl (by kernel_rfl) (by kernel_rfl) (by kernel_rfl) (fun _ _ _ h => h) (Or.inl ⟨by rfl, ?yi⟩) ?ha ?_
        case yi => intro w; go_simp; try omega
        case ha => go_simp; try exact rfl
        refine wpAny_ready (rs := [5, 9]) (by kernel_rfl) (by simp) ?_
        refine AllReady.cons rfl (fun K hK => ?_) (AllReady.cons rfl (fun K hK => ?_) AllReady.nil)
        · go_simp
          go_wp2_with fail
          refine wpAny_ready (rs := [9]) (by kernel_rfl) (by simp) ?_
          refine AllReady.cons rfl (fun K hK => ?_) AllReady.nil
          go_simp
          go_wp2_with fail
          refine wpAny_to (i := 10) (v := .int .i64 ((l.length : Int) + 1)) (a' := ?ax10q113) rfl (by kernel_rfl) (by kernel_rfl) (by kernel_rfl) (fun _ _ _ h => h) (Or.inl ⟨by rfl, ?yi⟩) ?ha ?_
          case yi => intro w; go_simp; try omega
          case ha => go_simp; try exact rfl
          refine wpAny_to (i := 11) (v := .int .i64 (l.length : Int)) (a' := ?ax11q114) rfl (by kernel_rfl) (by kernel_rfl) (by kernel_rfl) (fun _ _ _ h => h) (Or.inl ⟨by rfl, ?yi⟩) ?ha ?_
          case yi => intro w; go_simp; try exact IntWalk.i64_in _ (by omega)
          case ha => go_simp; try exact rfl
          refine wpAny_ready (rs := [12]) (by kernel_rfl) (by simp) ?_
          refine AllReady.cons rfl (fun K hK => ?_) AllReady.nil
          go_simp
          go_wp2_with fail
          refine wpAny_to (i := 13) (v := .pointer (some ⟨B, 0, none⟩)) (a' := ?ax13q115) rfl (by kernel_rfl) (by kernel_rfl) (by kernel_rfl) (fun _ _ _ h => h) (Or.inl ⟨by rfl, ?yi⟩) ?ha ?_
          case yi => intro w; go_simp; try omega
          case ha => go_simp; try exact rfl
          refine wpAny_to (i := 14) (v := .pointer (some ⟨B, 3, none⟩)) (a' := ?ax14q116) rfl (by kernel_rfl) (by kernel_rfl) (by kernel_rfl) (fun _ _ _ h => h) (Or.inl ⟨by rfl, ?yi⟩) ?ha ?_
          case yi => intro w; go_simp; try omega
          case ha => go_simp; try exact rfl
          refine wpAny_to (i := 15) (v := .pointer (some ⟨B, 3, none⟩)) (a' := ?ax15q117) rfl (by kernel_rfl) (by kernel_rfl) (by kernel_rfl) (fun _ _ _ h => h) (Or.inl ⟨by rfl, ?yi⟩) ?ha ?_
          case yi => intro w; go_simp; try omega
          case ha => go_simp; try exact rfl
          refine wpAny_ready (rs := [16]) (by kernel_rfl) (by simp) ?_
          refine AllReady.cons rfl (fun K hK => ?_) AllReady.nil
          go_simp
          go_wp2_with fail
          refine wpAny_done (by kernel_rfl) ?_ _
          go_wp2_with fail
          go_end0
          have HF := HE.out (max o l.length)
          have hmx : ((max o l.length : Nat) : Int) = max (o : Int) (l.length : Int) := by omega
          rw [hmx] at HF
          have hlq : max o (q.length + 1) = max o l.length := by rw [HLL.out]
          rw [hlq]
          exact ⟨rfl, HF⟩
        · go_simp
          go_wp2_with fail
          refine wpAny_to (i := 10) (v := .int .i64 ((l.length : Int) + 1)) (a' := ?ax10q118) rfl (by kernel_rfl) (by kernel_rfl) (by kernel_rfl) (fun _ _ _ h => h) (Or.inl ⟨by rfl, ?yi⟩) ?ha ?_
          case yi => intro w; go_simp; try omega
          case ha => go_simp; try exact rfl
          refine wpAny_to (i := 11) (v := .int .i64 (l.length : Int)) (a' := ?ax11q119) rfl (by kernel_rfl) (by kernel_rfl) (by kernel_rfl) (fun _ _ _ h => h) (Or.inl ⟨by rfl, ?yi⟩) ?ha ?_
          case yi => intro w; go_simp; try exact IntWalk.i64_in _ (by omega)
          case ha => go_simp; try exact rfl
          refine wpAny_ready (rs := [5]) (by kernel_rfl) (by simp) ?_
          refine AllReady.cons rfl (fun K hK => ?_) AllReady.nil
          go_simp
          go_wp2_with fail
          refine wpAny_ready (rs := [12]) (by kernel_rfl) (by simp) ?_
          refine AllReady.cons rfl (fun K hK => ?_) AllReady.nil
          go_simp
          go_wp2_with fail
          refine wpAny_to (i := 13) (v := .pointer (some ⟨B, 0, none⟩)) (a' := ?ax13q120) rfl (by kernel_rfl) (by kernel_rfl) (by kernel_rfl) (fun _ _ _ h => h) (Or.inl ⟨by rfl, ?yi⟩) ?ha ?_
          case yi => intro w; go_simp; try omega
          case ha => go_simp; try exact rfl
          refine wpAny_to (i := 14) (v := .pointer (some ⟨B, 3, none⟩)) (a' := ?ax14q121) rfl (by kernel_rfl) (by kernel_rfl) (by kernel_rfl) (fun _ _ _ h => h) (Or.inl ⟨by rfl, ?yi⟩) ?ha ?_
          case yi => intro w; go_simp; try omega
          case ha => go_simp; try exact rfl
          refine wpAny_to (i := 15) (v := .pointer (some ⟨B, 3, none⟩)) (a' := ?ax15q122) rfl (by kernel_rfl) (by kernel_rfl) (by kernel_rfl) (fun _ _ _ h => h) (Or.inl ⟨by rfl, ?yi⟩) ?ha ?_
          case yi => intro w; go_simp; try omega
          case ha => go_simp; try exact rfl
          refine wpAny_ready (rs := [16]) (by kernel_rfl) (by simp) ?_
          refine AllReady.cons rfl (fun K hK => ?_) AllReady.nil
          go_simp
          go_wp2_with fail
          refine wpAny_done (by kernel_rfl) ?_ _
          go_wp2_with fail
          go_end0
          have HF := HE.out (max o l.length)
          have hmx : ((max o l.length : Nat) : Int) = max (o : Int) (l.length : Int) := by omega
          rw [hmx] at HF
          have hlq : max o (q.length + 1) = max o l.length := by rw [HLL.out]
          rw [hlq]
          exact ⟨rfl, HF⟩
    · go_simp
      go_wp2_with fail
      rw [← HWZ.out]
      refine wpAny_ready (rs := [3]) (by kernel_rfl) (by simp) ?_
      refine AllReady.cons rfl (fun K hK => ?_) AllReady.nil
      go_simp
      go_wp2_with fail
      refine wpAny_to (i := 5) (v := .int .i64 (l.length : Int)) (a' := ?ax5q123) rfl (by kernel_rfl) (by kernel_rfl) (by kernel_rfl) (fun _ _ _ h => h) (Or.inl ⟨by rfl, ?yi⟩) ?ha ?_
      case yi => intro w; go_simp; try omega
      case ha => go_simp; try exact rfl
      refine wpAny_ready (rs := [7]) (by kernel_rfl) (by simp) ?_
      refine AllReady.cons rfl (fun K hK => ?_) AllReady.nil
      rw [if_pos (by rfl)]
      refine wp_append_new (.tmp 36) (.tmp 39) 22 rfl base 42 i0 _ 4 80 Tryz.underlying22 hi hz0 hz1 hz2 rfl (by decide) (.slice op l.length oc) l.length (ndCells l) rfl HRZ.out.1 ⟨wd.heap.size, 0, none⟩ 1 1 [.string ⟨#[]⟩, .slice none 0 0, .string ⟨#[]⟩, .slice none 0 0] rfl rfl HNZ.out zero_one (by unfold maxLen; omega) (by omega) (by have := HSZ.out; omega) (by decide) ?_
      intro v' w5 hown5 hgr5 hfr5
      obtain ⟨g2, c2, rfl, HP⟩ := push_facts hbB HSZ.out HRZ.out.2 HRZ.out.1 hown5 hgr5 hfr5 name ⟨#[]⟩ ap am ac none 0 0
      obtain ⟨hgg, q0, q1, q2, q3, r0, r1, r2, r3, q4, r4, hfa, hfb⟩ := HP
      have HFA := hide hfa
      have HFB := hide hfb
      have hgg2 : B ≠ g2 := Ne.symm hgg
      clear hown5 hgr5 hfr5 hfa hfb
      refine hK _ _ ?_
      clear hK K
      refine wpAny_to (i := 8) (v := .pointer (some ⟨g2, l.length * 4, none⟩)) (a' := ?ax8q124) rfl (by kernel_rfl) (by kernel_rfl) (by kernel_rfl) (fun _ _ _ h => h) (Or.inl ⟨by rfl, ?yi⟩) ?ha ?_
      case yi => intro w; go_simp; try omega
      case ha => go_simp; try exact rfl
      refine wpAny_to (i := 10) (v := .pointer (some ⟨B, 0, none⟩)) (a' := ?ax10q125) rfl (by kernel_rfl) (by kernel_rfl) (by kernel_rfl) (fun _ _ _ h => h) (Or.inl ⟨by rfl, ?yi⟩) ?ha ?_
      case yi => intro w; go_simp; try omega
      case ha => go_simp; try exact rfl
      refine wpAny_to (i := 11) (v := .pointer (some ⟨B, 0, none⟩)) (a' := ?ax11q126) rfl (by kernel_rfl) (by kernel_rfl) (by kernel_rfl) (fun _ _ _ h => h) (Or.inl ⟨by rfl, ?yi⟩) ?ha ?_
      case yi => intro w; go_simp; try omega
      case ha => go_simp; try exact rfl
      refine wpAny_ready (rs := [9, 12]) (by kernel_rfl) (by simp) ?_
      refine AllReady.cons rfl (fun K hK => ?_) (AllReady.cons rfl (fun K hK => ?_) AllReady.nil)
      · go_simp
        go_wp2_with fail
        refine wpAny_ready (rs := [12]) (by kernel_rfl) (by simp) ?_
        refine AllReady.cons rfl (fun K hK => ?_) AllReady.nil
        go_simp
        go_wp2_with fail
        refine wpAny_done (by kernel_rfl) ?_ _
        go_wp2_with fail
        obtain ⟨w8, hw8, hp⟩ := HFA.out.name
        rw [← hw8]
        have c0 : (w8.drew).cell? ⟨B, 0, none⟩ = some (.slice (some ⟨g2, 0, none⟩) (l.length + 1) c2) := tag_cell hp.1 0 _ rfl
        have c3 : (w8.drew).cell? ⟨B, 3, none⟩ = some (.int .i64 (o : Int)) := tag_cell hp.1 3 _ rfl
        have f3 : (w8.drew).frozen? ⟨B, 3, none⟩ = false := tag_free hp.1 3
        have HE := hide (HEND.out w8 _ hp)
        clear hw8 hp HFA HFB
        refine wp_region_any (by kernel_rfl) ?_
        try (change wpAny _ _ _ _ _ _ _ (World.drew _))
        refine wpAny_to (i := 0) (v := .pointer (some ⟨B, 0, none⟩)) (a' := ?ax0q127) rfl (by kernel_rfl) (by kernel_rfl) (by kernel_rfl) (fun _ _ _ h => h) (Or.inl ⟨by rfl, ?yi⟩) ?ha ?_
        case yi => intro w; go_simp; try omega
        case ha => go_simp; try exact rfl
        refine wpAny_to (i := 1) (v := .pointer (some ⟨B, 0, none⟩)) (a' := ?ax1q128) rfl (by kernel_rfl) (by kernel_rfl) (by kernel_rfl) (fun _ _ _ h => h) (Or.inl ⟨by rfl, ?yi⟩) ?ha ?_
        case yi => intro w; go_simp; try omega
        case ha => go_simp; try exact rfl
        refine wpAny_to (i := 2) (v := .pointer (some ⟨B, 0, none⟩)) (a' := ?ax2q129) rfl (by kernel_rfl) (by kernel_rfl) (by kernel_rfl) (fun _ _ _ h => h) (Or.inl ⟨by rfl, ?yi⟩) ?ha ?_
        case yi => intro w; go_simp; try omega
        case ha => go_simp; try exact rfl
        refine wpAny_to (i := 3) (v := .pointer (some ⟨B, 3, none⟩)) (a' := ?ax3q130) rfl (by kernel_rfl) (by kernel_rfl) (by kernel_rfl) (fun _ _ _ h => h) (Or.inl ⟨by rfl, ?yi⟩) ?ha ?_
        case yi => intro w; go_simp; try omega
        case ha => go_simp; try exact rfl
        refine wpAny_to (i := 4) (v := .pointer (some ⟨B, 3, none⟩)) (a' := ?ax4q131) rfl (by kernel_rfl) (by kernel_rfl) (by kernel_rfl) (fun _ _ _ h => h) (Or.inl ⟨by rfl, ?yi⟩) ?ha ?_
        case yi => intro w; go_simp; try omega
        case ha => go_simp; try exact rfl
        refine wpAny_to (i := 6) (v := .pointer (some ⟨B, 0, none⟩)) (a' := ?ax6q132) rfl (by kernel_rfl) (by kernel_rfl) (by kernel_rfl) (fun _ _ _ h => h) (Or.inl ⟨by rfl, ?yi⟩) ?ha ?_
        case yi => intro w; go_simp; try omega
        case ha => go_simp; try exact rfl
        refine wpAny_to (i := 7) (v := .pointer (some ⟨B, 0, none⟩)) (a' := ?ax7q133) rfl (by kernel_rfl) (by kernel_rfl) (by kernel_rfl) (fun _ _ _ h => h) (Or.inl ⟨by rfl, ?yi⟩) ?ha ?_
        case yi => intro w; go_simp; try omega
        case ha => go_simp; try exact rfl
        refine wpAny_to (i := 8) (v := .pointer (some ⟨B, 0, none⟩)) (a' := ?ax8q134) rfl (by kernel_rfl) (by kernel_rfl) (by kernel_rfl) (fun _ _ _ h => h) (Or.inl ⟨by rfl, ?yi⟩) ?ha ?_
        case yi => intro w; go_simp; try omega
        case ha => go_simp; try exact rfl
        refine wpAny_ready (rs := [5, 9]) (by kernel_rfl) (by simp) ?_
        refine AllReady.cons rfl (fun K hK => ?_) (AllReady.cons rfl (fun K hK => ?_) AllReady.nil)
        · go_simp
          go_wp2_with fail
          refine wpAny_ready (rs := [9]) (by kernel_rfl) (by simp) ?_
          refine AllReady.cons rfl (fun K hK => ?_) AllReady.nil
          go_simp
          go_wp2_with fail
          refine wpAny_to (i := 10) (v := .int .i64 ((l.length : Int) + 1)) (a' := ?ax10q135) rfl (by kernel_rfl) (by kernel_rfl) (by kernel_rfl) (fun _ _ _ h => h) (Or.inl ⟨by rfl, ?yi⟩) ?ha ?_
          case yi => intro w; go_simp; try omega
          case ha => go_simp; try exact rfl
          refine wpAny_to (i := 11) (v := .int .i64 (l.length : Int)) (a' := ?ax11q136) rfl (by kernel_rfl) (by kernel_rfl) (by kernel_rfl) (fun _ _ _ h => h) (Or.inl ⟨by rfl, ?yi⟩) ?ha ?_
          case yi => intro w; go_simp; try exact IntWalk.i64_in _ (by omega)
          case ha => go_simp; try exact rfl
          refine wpAny_ready (rs := [12]) (by kernel_rfl) (by simp) ?_
          refine AllReady.cons rfl (fun K hK => ?_) AllReady.nil
          go_simp
          go_wp2_with fail
          refine wpAny_to (i := 13) (v := .pointer (some ⟨B, 0, none⟩)) (a' := ?ax13q137) rfl (by kernel_rfl) (by kernel_rfl) (by kernel_rfl) (fun _ _ _ h => h) (Or.inl ⟨by rfl, ?yi⟩) ?ha ?_
          case yi => intro w; go_simp; try omega
          case ha => go_simp; try exact rfl
          refine wpAny_to (i := 14) (v := .pointer (some ⟨B, 3, none⟩)) (a' := ?ax14q138) rfl (by kernel_rfl) (by kernel_rfl) (by kernel_rfl) (fun _ _ _ h => h) (Or.inl ⟨by rfl, ?yi⟩) ?ha ?_
          case yi => intro w; go_simp; try omega
          case ha => go_simp; try exact rfl
          refine wpAny_to (i := 15) (v := .pointer (some ⟨B, 3, none⟩)) (a' := ?ax15q139) rfl (by kernel_rfl) (by kernel_rfl) (by kernel_rfl) (fun _ _ _ h => h) (Or.inl ⟨by rfl, ?yi⟩) ?ha ?_
          case yi => intro w; go_simp; try omega
          case ha => go_simp; try exact rfl
          refine wpAny_ready (rs := [16]) (by kernel_rfl) (by simp) ?_
          refine AllReady.cons rfl (fun K hK => ?_) AllReady.nil
          go_simp
          go_wp2_with fail
          refine wpAny_done (by kernel_rfl) ?_ _
          go_wp2_with fail
          go_end0
          have HF := HE.out (max o l.length)
          have hmx : ((max o l.length : Nat) : Int) = max (o : Int) (l.length : Int) := by omega
          rw [hmx] at HF
          have hlq : max o (q.length + 1) = max o l.length := by rw [HLL.out]
          rw [hlq]
          exact ⟨rfl, HF⟩
        · go_simp
          go_wp2_with fail
          refine wpAny_to (i := 10) (v := .int .i64 ((l.length : Int) + 1)) (a' := ?ax10q140) rfl (by kernel_rfl) (by kernel_rfl) (by kernel_rfl) (fun _ _ _ h => h) (Or.inl ⟨by rfl, ?yi⟩) ?ha ?_
          case yi => intro w; go_simp; try omega
          case ha => go_simp; try exact rfl
          refine wpAny_to (i := 11) (v := .int .i64 (l.length : Int)) (a' := ?ax11q141) rfl (by kernel_rfl) (by kernel_rfl) (by kernel_rfl) (fun _ _ _ h => h) (Or.inl ⟨by rfl, ?yi⟩) ?ha ?_
          case yi => intro w; go_simp; try exact IntWalk.i64_in _ (by omega)
          case ha => go_simp; try exact rfl
          refine wpAny_ready (rs := [5]) (by kernel_rfl) (by simp) ?_
          refine AllReady.cons rfl (fun K hK => ?_) AllReady.nil
          go_simp
          go_wp2_with fail
          refine wpAny_ready (rs := [12]) (by kernel_rfl) (by simp) ?_
          refine AllReady.cons rfl (fun K hK => ?_) AllReady.nil
          go_simp
          go_wp2_with fail
          refine wpAny_to (i := 13) (v := .pointer (some ⟨B, 0, none⟩)) (a' := ?ax13q142) rfl (by kernel_rfl) (by kernel_rfl) (by kernel_rfl) (fun _ _ _ h => h) (Or.inl ⟨by rfl, ?yi⟩) ?ha ?_
          case yi => intro w; go_simp; try omega
          case ha => go_simp; try exact rfl
          refine wpAny_to (i := 14) (v := .pointer (some ⟨B, 3, none⟩)) (a' := ?ax14q143) rfl (by kernel_rfl) (by kernel_rfl) (by kernel_rfl) (fun _ _ _ h => h) (Or.inl ⟨by rfl, ?yi⟩) ?ha ?_
          case yi => intro w; go_simp; try omega
          case ha => go_simp; try exact rfl
          refine wpAny_to (i := 15) (v := .pointer (some ⟨B, 3, none⟩)) (a' := ?ax15q144) rfl (by kernel_rfl) (by kernel_rfl) (by kernel_rfl) (fun _ _ _ h => h) (Or.inl ⟨by rfl, ?yi⟩) ?ha ?_
          case yi => intro w; go_simp; try omega
          case ha => go_simp; try exact rfl
          refine wpAny_ready (rs := [16]) (by kernel_rfl) (by simp) ?_
          refine AllReady.cons rfl (fun K hK => ?_) AllReady.nil
          go_simp
          go_wp2_with fail
          refine wpAny_done (by kernel_rfl) ?_ _
          go_wp2_with fail
          go_end0
          have HF := HE.out (max o l.length)
          have hmx : ((max o l.length : Nat) : Int) = max (o : Int) (l.length : Int) := by omega
          rw [hmx] at HF
          have hlq : max o (q.length + 1) = max o l.length := by rw [HLL.out]
          rw [hlq]
          exact ⟨rfl, HF⟩
      · go_simp
        go_wp2_with fail
        refine wpAny_ready (rs := [9]) (by kernel_rfl) (by simp) ?_
        refine AllReady.cons rfl (fun K hK => ?_) AllReady.nil
        go_simp
        go_wp2_with fail
        refine wpAny_done (by kernel_rfl) ?_ _
        go_wp2_with fail
        obtain ⟨w8, hw8, hp⟩ := HFB.out.name
        rw [← hw8]
        have c0 : (w8.drew).cell? ⟨B, 0, none⟩ = some (.slice (some ⟨g2, 0, none⟩) (l.length + 1) c2) := tag_cell hp.1 0 _ rfl
        have c3 : (w8.drew).cell? ⟨B, 3, none⟩ = some (.int .i64 (o : Int)) := tag_cell hp.1 3 _ rfl
        have f3 : (w8.drew).frozen? ⟨B, 3, none⟩ = false := tag_free hp.1 3
        have HE := hide (HEND.out w8 _ hp)
        clear hw8 hp HFA HFB
        refine wp_region_any (by kernel_rfl) ?_
        try (change wpAny _ _ _ _ _ _ _ (World.drew _))
        refine wpAny_to (i := 0) (v := .pointer (some ⟨B, 0, none⟩)) (a' := ?ax0q145) rfl (by kernel_rfl) (by kernel_rfl) (by kernel_rfl) (fun _ _ _ h => h) (Or.inl ⟨by rfl, ?yi⟩) ?ha ?_
        case yi => intro w; go_simp; try omega
        case ha => go_simp; try exact rfl
        refine wpAny_to (i := 1) (v := .pointer (some ⟨B, 0, none⟩)) (a' := ?ax1q146) rfl (by kernel_rfl) (by kernel_rfl) (by kernel_rfl) (fun _ _ _ h => h) (Or.inl ⟨by rfl, ?yi⟩) ?ha ?_
        case yi => intro w; go_simp; try omega
        case ha => go_simp; try exact rfl
        refine wpAny_to (i := 2) (v := .pointer (some ⟨B, 0, none⟩)) (a' := ?ax2q147) rfl (by kernel_rfl) (by kernel_rfl) (by kernel_rfl) (fun _ _ _ h => h) (Or.inl ⟨by rfl, ?yi⟩) ?ha ?_
        case yi => intro w; go_simp; try omega
        case ha => go_simp; try exact rfl
        refine wpAny_to (i := 3) (v := .pointer (some ⟨B, 3, none⟩)) (a' := ?ax3q148) rfl (by kernel_rfl) (by kernel_rfl) (by kernel_rfl) (fun _ _ _ h => h) (Or.inl ⟨by rfl, ?yi⟩) ?ha ?_
        case yi => intro w; go_simp; try omega
        case ha => go_simp; try exact rfl
        refine wpAny_to (i := 4) (v := .pointer (some ⟨B, 3, none⟩)) (a' := ?ax4q149) rfl (by kernel_rfl) (by kernel_rfl) (by kernel_rfl) (fun _ _ _ h => h) (Or.inl ⟨by rfl, ?yi⟩) ?ha ?_
        case yi => intro w; go_simp; try omega
        case ha => go_simp; try exact rfl
        refine wpAny_to (i := 6) (v := .pointer (some ⟨B, 0, none⟩)) (a' := ?ax6q150) rfl (by kernel_rfl) (by kernel_rfl) (by kernel_rfl) (fun _ _ _ h => h) (Or.inl ⟨by rfl, ?yi⟩) ?ha ?_
        case yi => intro w; go_simp; try omega
        case ha => go_simp; try exact rfl
        refine wpAny_to (i := 7) (v := .pointer (some ⟨B, 0, none⟩)) (a' := ?ax7q151) rfl (by kernel_rfl) (by kernel_rfl) (by kernel_rfl) (fun _ _ _ h => h) (Or.inl ⟨by rfl, ?yi⟩) ?ha ?_
        case yi => intro w; go_simp; try omega
        case ha => go_simp; try exact rfl
        refine wpAny_to (i := 8) (v := .pointer (some ⟨B, 0, none⟩)) (a' := ?ax8q152) rfl (by kernel_rfl) (by kernel_rfl) (by kernel_rfl) (fun _ _ _ h => h) (Or.inl ⟨by rfl, ?yi⟩) ?ha ?_
        case yi => intro w; go_simp; try omega
        case ha => go_simp; try exact rfl
        refine wpAny_ready (rs := [5, 9]) (by kernel_rfl) (by simp) ?_
        refine AllReady.cons rfl (fun K hK => ?_) (AllReady.cons rfl (fun K hK => ?_) AllReady.nil)
        · go_simp
          go_wp2_with fail
          refine wpAny_ready (rs := [9]) (by kernel_rfl) (by simp) ?_
          refine AllReady.cons rfl (fun K hK => ?_) AllReady.nil
          go_simp
          go_wp2_with fail
          refine wpAny_to (i := 10) (v := .int .i64 ((l.length : Int) + 1)) (a' := ?ax10q153) rfl (by kernel_rfl) (by kernel_rfl) (by kernel_rfl) (fun _ _ _ h => h) (Or.inl ⟨by rfl, ?yi⟩) ?ha ?_
          case yi => intro w; go_simp; try omega
          case ha => go_simp; try exact rfl
          refine wpAny_to (i := 11) (v := .int .i64 (l.length : Int)) (a' := ?ax11q154) rfl (by kernel_rfl) (by kernel_rfl) (by kernel_rfl) (fun _ _ _ h => h) (Or.inl ⟨by rfl, ?yi⟩) ?ha ?_
          case yi => intro w; go_simp; try exact IntWalk.i64_in _ (by omega)
          case ha => go_simp; try exact rfl
          refine wpAny_ready (rs := [12]) (by kernel_rfl) (by simp) ?_
          refine AllReady.cons rfl (fun K hK => ?_) AllReady.nil
          go_simp
          go_wp2_with fail
          refine wpAny_to (i := 13) (v := .pointer (some ⟨B, 0, none⟩)) (a' := ?ax13q155) rfl (by kernel_rfl) (by kernel_rfl) (by kernel_rfl) (fun _ _ _ h => h) (Or.inl ⟨by rfl, ?yi⟩) ?ha ?_
          case yi => intro w; go_simp; try omega
          case ha => go_simp; try exact rfl
          refine wpAny_to (i := 14) (v := .pointer (some ⟨B, 3, none⟩)) (a' := ?ax14q156) rfl (by kernel_rfl) (by kernel_rfl) (by kernel_rfl) (fun _ _ _ h => h) (Or.inl ⟨by rfl, ?yi⟩) ?ha ?_
          case yi => intro w; go_simp; try omega
          case ha => go_simp; try exact rfl
          refine wpAny_to (i := 15) (v := .pointer (some ⟨B, 3, none⟩)) (a' := ?ax15q157) rfl (by kernel_rfl) (by kernel_rfl) (by kernel_rfl) (fun _ _ _ h => h) (Or.inl ⟨by rfl, ?yi⟩) ?ha ?_
          case yi => intro w; go_simp; try omega
          case ha => go_simp; try exact rfl
          refine wpAny_ready (rs := [16]) (by kernel_rfl) (by simp) ?_
          refine AllReady.cons rfl (fun K hK => ?_) AllReady.nil
          go_simp
          go_wp2_with fail
          refine wpAny_done (by kernel_rfl) ?_ _
          go_wp2_with fail
          go_end0
          have HF := HE.out (max o l.length)
          have hmx : ((max o l.length : Nat) : Int) = max (o : Int) (l.length : Int) := by omega
          rw [hmx] at HF
          have hlq : max o (q.length + 1) = max o l.length := by rw [HLL.out]
          rw [hlq]
          exact ⟨rfl, HF⟩
        · go_simp
          go_wp2_with fail
          refine wpAny_to (i := 10) (v := .int .i64 ((l.length : Int) + 1)) (a' := ?ax10q158) rfl (by kernel_rfl) (by kernel_rfl) (by kernel_rfl) (fun _ _ _ h => h) (Or.inl ⟨by rfl, ?yi⟩) ?ha ?_
          case yi => intro w; go_simp; try omega
          case ha => go_simp; try exact rfl
          refine wpAny_to (i := 11) (v := .int .i64 (l.length : Int)) (a' := ?ax11q159) rfl (by kernel_rfl) (by kernel_rfl) (by kernel_rfl) (fun _ _ _ h => h) (Or.inl ⟨by rfl, ?yi⟩) ?ha ?_
          case yi => intro w; go_simp; try exact IntWalk.i64_in _ (by omega)
          case ha => go_simp; try exact rfl
          refine wpAny_ready (rs := [5]) (by kernel_rfl) (by simp) ?_
          refine AllReady.cons rfl (fun K hK => ?_) AllReady.nil
          go_simp
          go_wp2_with fail
          refine wpAny_ready (rs := [12]) (by kernel_rfl) (by simp) ?_
          refine AllReady.cons rfl (fun K hK => ?_) AllReady.nil
          go_simp
          go_wp2_with fail
          refine wpAny_to (i := 13) (v := .pointer (some ⟨B, 0, none⟩)) (a' := ?ax13q160) rfl (by kernel_rfl) (by kernel_rfl) (by kernel_rfl) (fun _ _ _ h => h) (Or.inl ⟨by rfl, ?yi⟩) ?ha ?_
          case yi => intro w; go_simp; try omega
          case ha => go_simp; try exact rfl
          refine wpAny_to (i := 14) (v := .pointer (some ⟨B, 3, none⟩)) (a' := ?ax14q161) rfl (by kernel_rfl) (by kernel_rfl) (by kernel_rfl) (fun _ _ _ h => h) (Or.inl ⟨by rfl, ?yi⟩) ?ha ?_
          case yi => intro w; go_simp; try omega
          case ha => go_simp; try exact rfl
          refine wpAny_to (i := 15) (v := .pointer (some ⟨B, 3, none⟩)) (a' := ?ax15q162) rfl (by kernel_rfl) (by kernel_rfl) (by kernel_rfl) (fun _ _ _ h => h) (Or.inl ⟨by rfl, ?yi⟩) ?ha ?_
          case yi => intro w; go_simp; try omega
          case ha => go_simp; try exact rfl
          refine wpAny_ready (rs := [16]) (by kernel_rfl) (by simp) ?_
          refine AllReady.cons rfl (fun K hK => ?_) AllReady.nil
          go_simp
          go_wp2_with fail
          refine wpAny_done (by kernel_rfl) ?_ _
          go_wp2_with fail
          go_end0
          have HF := HE.out (max o l.length)
          have hmx : ((max o l.length : Nat) : Int) = max (o : Int) (l.length : Int) := by omega
          rw [hmx] at HF
          have hlq : max o (q.length + 1) = max o l.length := by rw [HLL.out]
          rw [hlq]
          exact ⟨rfl, HF⟩
  · go_simp
    go_wp2_with fail
    rw [← HWZ.out]
    refine wpAny_ready (rs := [3, 4]) (by kernel_rfl) (by simp) ?_
    refine AllReady.cons rfl (fun K hK => ?_) (AllReady.cons rfl (fun K hK => ?_) AllReady.nil)
    · go_simp
      go_wp2_with fail
      refine wpAny_to (i := 5) (v := .int .i64 (l.length : Int)) (a' := ?ax5q163) rfl (by kernel_rfl) (by kernel_rfl) (by kernel_rfl) (fun _ _ _ h => h) (Or.inl ⟨by rfl, ?yi⟩) ?ha ?_
      case yi => intro w; go_simp; try omega
      case ha => go_simp; try exact rfl
      refine wpAny_ready (rs := [4]) (by kernel_rfl) (by simp) ?_
      refine AllReady.cons rfl (fun K hK => ?_) AllReady.nil
      go_simp
      go_wp2_with fail
      refine wpAny_ready (rs := [7]) (by kernel_rfl) (by simp) ?_
      refine AllReady.cons rfl (fun K hK => ?_) AllReady.nil
      rw [if_pos (by rfl)]
      refine wp_append_new (.tmp 36) (.tmp 39) 22 rfl base 42 i0 _ 4 80 Tryz.underlying22 hi hz0 hz1 hz2 rfl (by decide) (.slice op l.length oc) l.length (ndCells l) rfl HRZ.out.1 ⟨wd.heap.size, 0, none⟩ 1 1 [.string ⟨#[]⟩, .slice none 0 0, .string ⟨#[]⟩, .slice none 0 0] rfl rfl HNZ.out zero_one (by unfold maxLen; omega) (by omega) (by have := HSZ.out; omega) (by decide) ?_
      intro v' w5 hown5 hgr5 hfr5
      obtain ⟨g2, c2, rfl, HP⟩ := push_facts hbB HSZ.out HRZ.out.2 HRZ.out.1 hown5 hgr5 hfr5 name ⟨#[]⟩ ap am ac none 0 0
      obtain ⟨hgg, q0, q1, q2, q3, r0, r1, r2, r3, q4, r4, hfa, hfb⟩ := HP
      have HFA := hide hfa
      have HFB := hide hfb
      have hgg2 : B ≠ g2 := Ne.symm hgg
      clear hown5 hgr5 hfr5 hfa hfb
      refine hK _ _ ?_
      clear hK K
      refine wpAny_to (i := 8) (v := .pointer (some ⟨g2, l.length * 4, none⟩)) (a' := ?ax8q164) rfl (by kernel_rfl) (by kernel_rfl) (by kernel_rfl) (fun _ _ _ h => h) (Or.inl ⟨by rfl, ?yi⟩) ?ha ?_
      case yi => intro w; go_simp; try omega
      case ha => go_simp; try exact rfl
      refine wpAny_to (i := 10) (v := .pointer (some ⟨B, 0, none⟩)) (a' := ?ax10q165) rfl (by kernel_rfl) (by kernel_rfl) (by kernel_rfl) (fun _ _ _ h => h) (Or.inl ⟨by rfl, ?yi⟩) ?ha ?_
      case yi => intro w; go_simp; try omega
      case ha => go_simp; try exact rfl
      refine wpAny_to (i := 11) (v := .pointer (some ⟨B, 0, none⟩)) (a' := ?ax11q166) rfl (by kernel_rfl) (by kernel_rfl) (by kernel_rfl) (fun _ _ _ h => h) (Or.inl ⟨by rfl, ?yi⟩) ?ha ?_
      case yi => intro w; go_simp; try omega
      case ha => go_simp; try exact rfl
      refine wpAny_ready (rs := [9, 12]) (by kernel_rfl) (by simp) ?_
      refine AllReady.cons rfl (fun K hK => ?_) (AllReady.cons rfl (fun K hK => ?_) AllReady.nil)
      · go_simp
        go_wp2_with fail
        refine wpAny_ready (rs := [12]) (by kernel_rfl) (by simp) ?_
        refine AllReady.cons rfl (fun K hK => ?_) AllReady.nil
        go_simp
        go_wp2_with fail
        refine wpAny_done (by kernel_rfl) ?_ _
        go_wp2_with fail
        obtain ⟨w8, hw8, hp⟩ := HFA.out.name
        rw [← hw8]
        have c0 : (w8.drew).cell? ⟨B, 0, none⟩ = some (.slice (some ⟨g2, 0, none⟩) (l.length + 1) c2) := tag_cell hp.1 0 _ rfl
        have c3 : (w8.drew).cell? ⟨B, 3, none⟩ = some (.int .i64 (o : Int)) := tag_cell hp.1 3 _ rfl
        have f3 : (w8.drew).frozen? ⟨B, 3, none⟩ = false := tag_free hp.1 3
        have HE := hide (HEND.out w8 _ hp)
        clear hw8 hp HFA HFB
        refine wp_region_any (by kernel_rfl) ?_
        try (change wpAny _ _ _ _ _ _ _ (World.drew _))
        refine wpAny_to (i := 0) (v := .pointer (some ⟨B, 0, none⟩)) (a' := ?ax0q167) rfl (by kernel_rfl) (by kernel_rfl) (by kernel_rfl) (fun _ _ _ h => h) (Or.inl ⟨by rfl, ?yi⟩) ?ha ?_
        case yi => intro w; go_simp; try omega
        case ha => go_simp; try exact rfl
        refine wpAny_to (i := 1) (v := .pointer (some ⟨B, 0, none⟩)) (a' := ?ax1q168) rfl (by kernel_rfl) (by kernel_rfl) (by kernel_rfl) (fun _ _ _ h => h) (Or.inl ⟨by rfl, ?yi⟩) ?ha ?_
        case yi => intro w; go_simp; try omega
        case ha => go_simp; try exact rfl
        refine wpAny_to (i := 2) (v := .pointer (some ⟨B, 0, none⟩)) (a' := ?ax2q169) rfl (by kernel_rfl) (by kernel_rfl) (by kernel_rfl) (fun _ _ _ h => h) (Or.inl ⟨by rfl, ?yi⟩) ?ha ?_
        case yi => intro w; go_simp; try omega
        case ha => go_simp; try exact rfl
        refine wpAny_to (i := 3) (v := .pointer (some ⟨B, 3, none⟩)) (a' := ?ax3q170) rfl (by kernel_rfl) (by kernel_rfl) (by kernel_rfl) (fun _ _ _ h => h) (Or.inl ⟨by rfl, ?yi⟩) ?ha ?_
        case yi => intro w; go_simp; try omega
        case ha => go_simp; try exact rfl
        refine wpAny_to (i := 4) (v := .pointer (some ⟨B, 3, none⟩)) (a' := ?ax4q171) rfl (by kernel_rfl) (by kernel_rfl) (by kernel_rfl) (fun _ _ _ h => h) (Or.inl ⟨by rfl, ?yi⟩) ?ha ?_
        case yi => intro w; go_simp; try omega
        case ha => go_simp; try exact rfl
        refine wpAny_to (i := 6) (v := .pointer (some ⟨B, 0, none⟩)) (a' := ?ax6q172) rfl (by kernel_rfl) (by kernel_rfl) (by kernel_rfl) (fun _ _ _ h => h) (Or.inl ⟨by rfl, ?yi⟩) ?ha ?_
        case yi => intro w; go_simp; try omega
        case ha => go_simp; try exact rfl
        refine wpAny_to (i := 7) (v := .pointer (some ⟨B, 0, none⟩)) (a' := ?ax7q173) rfl (by kernel_rfl) (by kernel_rfl) (by kernel_rfl) (fun _ _ _ h => h) (Or.inl ⟨by rfl, ?yi⟩) ?ha ?_
        case yi => intro w; go_simp; try omega
        case ha => go_simp; try exact rfl
        refine wpAny_to (i := 8) (v := .pointer (some ⟨B, 0, none⟩)) (a' := ?ax8q174) rfl (by kernel_rfl) (by kernel_rfl) (by kernel_rfl) (fun _ _ _ h => h) (Or.inl ⟨by rfl, ?yi⟩) ?ha ?_
        case yi => intro w; go_simp; try omega
        case ha => go_simp; try exact rfl
        refine wpAny_ready (rs := [5, 9]) (by kernel_rfl) (by simp) ?_
        refine AllReady.cons rfl (fun K hK => ?_) (AllReady.cons rfl (fun K hK => ?_) AllReady.nil)
        · go_simp
          go_wp2_with fail
          refine wpAny_ready (rs := [9]) (by kernel_rfl) (by simp) ?_
          refine AllReady.cons rfl (fun K hK => ?_) AllReady.nil
          go_simp
          go_wp2_with fail
          refine wpAny_to (i := 10) (v := .int .i64 ((l.length : Int) + 1)) (a' := ?ax10q175) rfl (by kernel_rfl) (by kernel_rfl) (by kernel_rfl) (fun _ _ _ h => h) (Or.inl ⟨by rfl, ?yi⟩) ?ha ?_
          case yi => intro w; go_simp; try omega
          case ha => go_simp; try exact rfl
          refine wpAny_to (i := 11) (v := .int .i64 (l.length : Int)) (a' := ?ax11q176) rfl (by kernel_rfl) (by kernel_rfl) (by kernel_rfl) (fun _ _ _ h => h) (Or.inl ⟨by rfl, ?yi⟩) ?ha ?_
          case yi => intro w; go_simp; try exact IntWalk.i64_in _ (by omega)
          case ha => go_simp; try exact rfl
          refine wpAny_ready (rs := [12]) (by kernel_rfl) (by simp) ?_
          refine AllReady.cons rfl (fun K hK => ?_) AllReady.nil
          go_simp
          go_wp2_with fail
          refine wpAny_to (i := 13) (v := .pointer (some ⟨B, 0, none⟩)) (a' := ?ax13q177) rfl (by kernel_rfl) (by kernel_rfl) (by kernel_rfl) (fun _ _ _ h => h) (Or.inl ⟨by rfl, ?yi⟩) ?ha ?_
          case yi => intro w; go_simp; try omega
          case ha => go_simp; try exact rfl
          refine wpAny_to (i := 14) (v := .pointer (some ⟨B, 3, none⟩)) (a' := ?ax14q178) rfl (by kernel_rfl) (by kernel_rfl) (by kernel_rfl) (fun _ _ _ h => h) (Or.inl ⟨by rfl, ?yi⟩) ?ha ?_
          case yi => intro w; go_simp; try omega
          case ha => go_simp; try exact rfl
          refine wpAny_to (i := 15) (v := .pointer (some ⟨B, 3, none⟩)) (a' := ?ax15q179) rfl (by kernel_rfl) (by kernel_rfl) (by kernel_rfl) (fun _ _ _ h => h) (Or.inl ⟨by rfl, ?yi⟩) ?ha ?_
          case yi => intro w; go_simp; try omega
          case ha => go_simp; try exact rfl
          refine wpAny_ready (rs := [16]) (by kernel_rfl) (by simp) ?_
          refine AllReady.cons rfl (fun K hK => ?_) AllReady.nil
          go_simp
          go_wp2_with fail
          refine wpAny_done (by kernel_rfl) ?_ _
          go_wp2_with fail
          go_end0
          have HF := HE.out (max o l.length)
          have hmx : ((max o l.length : Nat) : Int) = max (o : Int) (l.length : Int) := by omega
          rw [hmx] at HF
          have hlq : max o (q.length + 1) = max o l.length := by rw [HLL.out]
          rw [hlq]
          exact ⟨rfl, HF⟩
        · go_simp
          go_wp2_with fail
          refine wpAny_to (i := 10) (v := .int .i64 ((l.length : Int) + 1)) (a' := ?ax10q180) rfl (by kernel_rfl) (by kernel_rfl) (by kernel_rfl) (fun _ _ _ h => h) (Or.inl ⟨by rfl, ?yi⟩) ?ha ?_
          case yi => intro w; go_simp; try omega
          case ha => go_simp; try exact rfl
          refine wpAny_to (i := 11) (v := .int .i64 (l.length : Int)) (a' := ?ax11q181) rfl (by kernel_rfl) (by kernel_rfl) (by kernel_rfl) (fun _ _ _ h => h) (Or.inl ⟨by rfl, ?yi⟩) ?ha ?_
          case yi => intro w; go_simp; try exact IntWalk.i64_in _ (by omega)
          case ha => go_simp; try exact rfl
          refine wpAny_ready (rs := [5]) (by kernel_rfl) (by simp) ?_
          refine AllReady.cons rfl (fun K hK => ?_) AllReady.nil
          go_simp
          go_wp2_with fail
          refine wpAny_ready (rs := [12]) (by kernel_rfl) (by simp) ?_
          refine AllReady.cons rfl (fun K hK => ?_) AllReady.nil
          go_simp
          go_wp2_with fail
          refine wpAny_to (i := 13) (v := .pointer (some ⟨B, 0, none⟩)) (a' := ?ax13q182) rfl (by kernel_rfl) (by kernel_rfl) (by kernel_rfl) (fun _ _ _ h => h) (Or.inl ⟨by rfl, ?yi⟩) ?ha ?_
          case yi => intro w; go_simp; try omega
          case ha => go_simp; try exact rfl
          refine wpAny_to (i := 14) (v := .pointer (some ⟨B, 3, none⟩)) (a' := ?ax14q183) rfl (by kernel_rfl) (by kernel_rfl) (by kernel_rfl) (fun _ _ _ h => h) (Or.inl ⟨by rfl, ?yi⟩) ?ha ?_
          case yi => intro w; go_simp; try omega
          case ha => go_simp; try exact rfl
          refine wpAny_to (i := 15) (v := .pointer (some ⟨B, 3, none⟩)) (a' := ?ax15q184) rfl (by kernel_rfl) (by kernel_rfl) (by kernel_rfl) (fun _ _ _ h => h) (Or.inl ⟨by rfl, ?yi⟩) ?ha ?_
          case yi => intro w; go_simp; try omega
          case ha => go_simp; try exact rfl
          refine wpAny_ready (rs := [16]) (by kernel_rfl) (by simp) ?_
          refine AllReady.cons rfl (fun K hK => ?_) AllReady.nil
          go_simp
          go_wp2_with fail
          refine wpAny_done (by kernel_rfl) ?_ _
          go_wp2_with fail
          go_end0
          have HF := HE.out (max o l.length)
          have hmx : ((max o l.length : Nat) : Int) = max (o : Int) (l.length : Int) := by omega
          rw [hmx] at HF
          have hlq : max o (q.length + 1) = max o l.length := by rw [HLL.out]
          rw [hlq]
          exact ⟨rfl, HF⟩
      · go_simp
        go_wp2_with fail
        refine wpAny_ready (rs := [9]) (by kernel_rfl) (by simp) ?_
        refine AllReady.cons rfl (fun K hK => ?_) AllReady.nil
        go_simp
        go_wp2_with fail
        refine wpAny_done (by kernel_rfl) ?_ _
        go_wp2_with fail
        obtain ⟨w8, hw8, hp⟩ := HFB.out.name
        rw [← hw8]
        have c0 : (w8.drew).cell? ⟨B, 0, none⟩ = some (.slice (some ⟨g2, 0, none⟩) (l.length + 1) c2) := tag_cell hp.1 0 _ rfl
        have c3 : (w8.drew).cell? ⟨B, 3, none⟩ = some (.int .i64 (o : Int)) := tag_cell hp.1 3 _ rfl
        have f3 : (w8.drew).frozen? ⟨B, 3, none⟩ = false := tag_free hp.1 3
        have HE := hide (HEND.out w8 _ hp)
        clear hw8 hp HFA HFB
        refine wp_region_any (by kernel_rfl) ?_
        try (change wpAny _ _ _ _ _ _ _ (World.drew _))
        refine wpAny_to (i := 0) (v := .pointer (some ⟨B, 0, none⟩)) (a' := ?ax0q185) rfl (by kernel_rfl) (by kernel_rfl) (by kernel_rfl) (fun _ _ _ h => h) (Or.inl ⟨by rfl, ?yi⟩) ?ha ?_
        case yi => intro w; go_simp; try omega
        case ha => go_simp; try exact rfl
        refine wpAny_to (i := 1) (v := .pointer (some ⟨B, 0, none⟩)) (a' := ?ax1q186) rfl (by kernel_rfl) (by kernel_rfl) (by kernel_rfl) (fun _ _ _ h => h) (Or.inl ⟨by rfl, ?yi⟩) ?ha ?_
        case yi => intro w; go_simp; try omega
        case ha => go_simp; try exact rfl
        refine wpAny_to (i := 2) (v := .pointer (some ⟨B, 0, none⟩)) (a' := ?ax2q187) rfl (by kernel_rfl) (by kernel_rfl) (by kernel_rfl) (fun _ _ _ h => h) (Or.inl ⟨by rfl, ?yi⟩) ?ha ?_
        case yi => intro w; go_simp; try omega
        case ha => go_simp; try exact rfl
        refine wpAny_to (i := 3) (v := .pointer (some ⟨B, 3, none⟩)) (a' := ?ax3q188) rfl (by kernel_rfl) (by kernel_rfl) (by kernel_rfl) (fun _ _ _ h => h) (Or.inl ⟨by rfl, ?yi⟩) ?ha ?_
        case yi => intro w; go_simp; try omega
        case ha => go_simp; try exact rfl
        refine wpAny_to (i := 4) (v := .pointer (some ⟨B, 3, none⟩)) (a' := ?ax4q189) rfl (by kernel_rfl) (by kernel_rfl) (by kernel_rfl) (fun _ _ _ h => h) (Or.inl ⟨by rfl, ?yi⟩) ?ha ?_
        case yi => intro w; go_simp; try omega
        case ha => go_simp; try exact rfl
        refine wpAny_to (i := 6) (v := .pointer (some ⟨B, 0, none⟩)) (a' := ?ax6q190) rfl (by kernel_rfl) (by kernel_rfl) (by kernel_rfl) (fun _ _ _ h => h) (Or.inl ⟨by rfl, ?yi⟩) ?ha ?_
        case yi => intro w; go_simp; try omega
        case ha => go_simp; try exact rfl
        refine wpAny_to (i := 7) (v := .pointer (some ⟨B, 0, none⟩)) (a' := ?ax7q191) rfl (by kernel_rfl) (by kernel_rfl) (by kernel_rfl) (fun _ _ _ h => h) (Or.inl ⟨by rfl, ?yi⟩) ?ha ?_
        case yi => intro w; go_simp; try omega
        case ha => go_simp; try exact rfl
        refine wpAny_to (i := 8) (v := .pointer (some ⟨B, 0, none⟩)) (a' := ?ax8q192) rfl (by kernel_rfl) (by kernel_rfl) (by kernel_rfl) (fun _ _ _ h => h) (Or.inl ⟨by rfl, ?yi⟩) ?ha ?_
        case yi => intro w; go_simp; try omega
        case ha => go_simp; try exact rfl
        refine wpAny_ready (rs := [5, 9]) (by kernel_rfl) (by simp) ?_
        refine AllReady.cons rfl (fun K hK => ?_) (AllReady.cons rfl (fun K hK => ?_) AllReady.nil)
        · go_simp
          go_wp2_with fail
          refine wpAny_ready (rs := [9]) (by kernel_rfl) (by simp) ?_
          refine AllReady.cons rfl (fun K hK => ?_) AllReady.nil
          go_simp
          go_wp2_with fail
          refine wpAny_to (i := 10) (v := .int .i64 ((l.length : Int) + 1)) (a' := ?ax10q193) rfl (by kernel_rfl) (by kernel_rfl) (by kernel_rfl) (fun _ _ _ h => h) (Or.inl ⟨by rfl, ?yi⟩) ?ha ?_
          case yi => intro w; go_simp; try omega
          case ha => go_simp; try exact rfl
          refine wpAny_to (i := 11) (v := .int .i64 (l.length : Int)) (a' := ?ax11q194) rfl (by kernel_rfl) (by kernel_rfl) (by kernel_rfl) (fun _ _ _ h => h) (Or.inl ⟨by rfl, ?yi⟩) ?ha ?_
          case yi => intro w; go_simp; try exact IntWalk.i64_in _ (by omega)
          case ha => go_simp; try exact rfl
          refine wpAny_ready (rs := [12]) (by kernel_rfl) (by simp) ?_
          refine AllReady.cons rfl (fun K hK => ?_) AllReady.nil
          go_simp
          go_wp2_with fail
          refine wpAny_to (i := 13) (v := .pointer (some ⟨B, 0, none⟩)) (a' := ?ax13q195) rfl (by kernel_rfl) (by kernel_rfl) (by kernel_rfl) (fun _ _ _ h => h) (Or.inl ⟨by rfl, ?yi⟩) ?ha ?_
          case yi => intro w; go_simp; try omega
          case ha => go_simp; try exact rfl
          refine wpAny_to (i := 14) (v := .pointer (some ⟨B, 3, none⟩)) (a' := ?ax14q196) rfl (by kernel_rfl) (by kernel_rfl) (by kernel_rfl) (fun _ _ _ h => h) (Or.inl ⟨by rfl, ?yi⟩) ?ha ?_
          case yi => intro w; go_simp; try omega
          case ha => go_simp; try exact rfl
          refine wpAny_to (i := 15) (v := .pointer (some ⟨B, 3, none⟩)) (a' := ?ax15q197) rfl (by kernel_rfl) (by kernel_rfl) (by kernel_rfl) (fun _ _ _ h => h) (Or.inl ⟨by rfl, ?yi⟩) ?ha ?_
          case yi => intro w; go_simp; try omega
          case ha => go_simp; try exact rfl
          refine wpAny_ready (rs := [16]) (by kernel_rfl) (by simp) ?_
          refine AllReady.cons rfl (fun K hK => ?_) AllReady.nil
          go_simp
          go_wp2_with fail
          refine wpAny_done (by kernel_rfl) ?_ _
          go_wp2_with fail
          go_end0
          have HF := HE.out (max o l.length)
          have hmx : ((max o l.length : Nat) : Int) = max (o : Int) (l.length : Int) := by omega
          rw [hmx] at HF
          have hlq : max o (q.length + 1) = max o l.length := by rw [HLL.out]
          rw [hlq]
          exact ⟨rfl, HF⟩
        · go_simp
          go_wp2_with fail
          refine wpAny_to (i := 10) (v := .int .i64 ((l.length : Int) + 1)) (a' := ?ax10q198) rfl (by kernel_rfl) (by kernel_rfl) (by kernel_rfl) (fun _ _ _ h => h) (Or.inl ⟨by rfl, ?yi⟩) ?ha ?_
          case yi => intro w; go_simp; try omega
          case ha => go_simp; try exact rfl
          refine wpAny_to (i := 11) (v := .int .i64 (l.length : Int)) (a' := ?ax11q199) rfl (by kernel_rfl) (by kernel_rfl) (by kernel_rfl) (fun _ _ _ h => h) (Or.inl ⟨by rfl, ?yi⟩) ?ha ?_
          case yi => intro w; go_simp; try exact IntWalk.i64_in _ (by omega)
          case ha => go_simp; try exact rfl
          refine wpAny_ready (rs := [5]) (by kernel_rfl) (by simp) ?_
          refine AllReady.cons rfl (fun K hK => ?_) AllReady.nil
          go_simp
          go_wp2_with fail
          refine wpAny_ready (rs := [12]) (by kernel_rfl) (by simp) ?_
          refine AllReady.cons rfl (fun K hK => ?_) AllReady.nil
          go_simp
          go_wp2_with fail
          refine wpAny_to (i := 13) (v := .pointer (some ⟨B, 0, none⟩)) (a' := ?ax13q200) rfl (by kernel_rfl) (by kernel_rfl) (by kernel_rfl) (fun _ _ _ h => h) (Or.inl ⟨by rfl, ?yi⟩) ?ha ?_
          case yi => intro w; go_simp; try omega
          case ha => go_simp; try exact rfl
          refine wpAny_to (i := 14) (v := .pointer (some ⟨B, 3, none⟩)) (a' := ?ax14q201) rfl (by kernel_rfl) (by kernel_rfl) (by kernel_rfl) (fun _ _ _ h => h) (Or.inl ⟨by rfl, ?yi⟩) ?ha ?_
          case yi => intro w; go_simp; try omega
          case ha => go_simp; try exact rfl
          refine wpAny_to (i := 15) (v := .pointer (some ⟨B, 3, none⟩)) (a' := ?ax15q202) rfl (by kernel_rfl) (by kernel_rfl) (by kernel_rfl) (fun _ _ _ h => h) (Or.inl ⟨by rfl, ?yi⟩) ?ha ?_
          case yi => intro w; go_simp; try omega
          case ha => go_simp; try exact rfl
          refine wpAny_ready (rs := [16]) (by kernel_rfl) (by simp) ?_
          refine AllReady.cons rfl (fun K hK => ?_) AllReady.nil
          go_simp
          go_wp2_with fail
          refine wpAny_done (by kernel_rfl) ?_ _
          go_wp2_with fail
          go_end0
          have HF := HE.out (max o l.length)
          have hmx : ((max o l.length : Nat) : Int) = max (o : Int) (l.length : Int) := by omega
          rw [hmx] at HF
          have hlq : max o (q.length + 1) = max o l.length := by rw [HLL.out]
          rw [hlq]
          exact ⟨rfl, HF⟩
    · go_simp
      go_wp2_with fail
      refine wpAny_ready (rs := [3]) (by kernel_rfl) (by simp) ?_
      refine AllReady.cons rfl (fun K hK => ?_) AllReady.nil
      go_simp
      go_wp2_with fail
      refine wpAny_to (i := 5) (v := .int .i64 (l.length : Int)) (a' := ?ax5q203) rfl (by kernel_rfl) (by kernel_rfl) (by kernel_rfl) (fun _ _ _ h => h) (Or.inl ⟨by rfl, ?yi⟩) ?ha ?_
      case yi => intro w; go_simp; try omega
      case ha => go_simp; try exact rfl
      refine wpAny_ready (rs := [7]) (by kernel_rfl) (by simp) ?_
      refine AllReady.cons rfl (fun K hK => ?_) AllReady.nil
      rw [if_pos (by rfl)]
      refine wp_append_new (.tmp 36) (.tmp 39) 22 rfl base 42 i0 _ 4 80 Tryz.underlying22 hi hz0 hz1 hz2 rfl (by decide) (.slice op l.length oc) l.length (ndCells l) rfl HRZ.out.1 ⟨wd.heap.size, 0, none⟩ 1 1 [.string ⟨#[]⟩, .slice none 0 0, .string ⟨#[]⟩, .slice none 0 0] rfl rfl HNZ.out zero_one (by unfold maxLen; omega) (by omega) (by have := HSZ.out; omega) (by decide) ?_
      intro v' w5 hown5 hgr5 hfr5
      obtain ⟨g2, c2, rfl, HP⟩ := push_facts hbB HSZ.out HRZ.out.2 HRZ.out.1 hown5 hgr5 hfr5 name ⟨#[]⟩ ap am ac none 0 0
      obtain ⟨hgg, q0, q1, q2, q3, r0, r1, r2, r3, q4, r4, hfa, hfb⟩ := HP
      have HFA := hide hfa
      have HFB := hide hfb
      have hgg2 : B ≠ g2 := Ne.symm hgg
      clear hown5 hgr5 hfr5 hfa hfb
      refine hK _ _ ?_
      clear hK K
      refine wpAny_to (i := 8) (v := .pointer (some ⟨g2, l.length * 4, none⟩)) (a' := ?ax8q204) rfl (by kernel_rfl) (by kernel_rfl) (by kernel_rfl) (fun _ _ _ h => h) (Or.inl ⟨by rfl, ?yi⟩) ?ha ?_
      case yi => intro w; go_simp; try omega
      case ha => go_simp; try exact rfl
      refine wpAny_to (i := 10) (v := .pointer (some ⟨B, 0, none⟩)) (a' := ?ax10q205) rfl (by kernel_rfl) (by kernel_rfl) (by kernel_rfl) (fun _ _ _ h => h) (Or.inl ⟨by rfl, ?yi⟩) ?ha ?_
      case yi => intro w; go_simp; try omega
      case ha => go_simp; try exact rfl
      refine wpAny_to (i := 11) (v := .pointer (some ⟨B, 0, none⟩)) (a' := ?ax11q206) rfl (by kernel_rfl) (by kernel_rfl) (by kernel_rfl) (fun _ _ _ h => h) (Or.inl ⟨by rfl, ?yi⟩) ?ha ?_
      case yi => intro w; go_simp; try omega
      case ha => go_simp; try exact rfl
      refine wpAny_ready (rs := [9, 12]) (by kernel_rfl) (by simp) ?_
      refine AllReady.cons rfl (fun K hK => ?_) (AllReady.cons rfl (fun K hK => ?_) AllReady.nil)
      · go_simp
        go_wp2_with fail
        refine wpAny_ready (rs := [12]) (by kernel_rfl) (by simp) ?_
        refine AllReady.cons rfl (fun K hK => ?_) AllReady.nil
        go_simp
        go_wp2_with fail
        refine wpAny_done (by kernel_rfl) ?_ _
        go_wp2_with fail
        obtain ⟨w8, hw8, hp⟩ := HFA.out.name
        rw [← hw8]
        have c0 : (w8.drew).cell? ⟨B, 0, none⟩ = some (.slice (some ⟨g2, 0, none⟩) (l.length + 1) c2) := tag_cell hp.1 0 _ rfl
        have c3 : (w8.drew).cell? ⟨B, 3, none⟩ = some (.int .i64 (o : Int)) := tag_cell hp.1 3 _ rfl
        have f3 : (w8.drew).frozen? ⟨B, 3, none⟩ = false := tag_free hp.1 3
        have HE := hide (HEND.out w8 _ hp)
        clear hw8 hp HFA HFB
        refine wp_region_any (by kernel_rfl) ?_
        try (change wpAny _ _ _ _ _ _ _ (World.drew _))
        refine wpAny_to (i := 0) (v := .pointer (some ⟨B, 0, none⟩)) (a' := ?ax0q207) rfl (by kernel_rfl) (by kernel_rfl) (by kernel_rfl) (fun _ _ _ h => h) (Or.inl ⟨by rfl, ?yi⟩) ?ha ?_
        case yi => intro w; go_simp; try omega
        case ha => go_simp; try exact rfl
        refine wpAny_to (i := 1) (v := .pointer (some ⟨B, 0, none⟩)) (a' := ?ax1q208) rfl (by kernel_rfl) (by kernel_rfl) (by kernel_rfl) (fun _ _ _ h => h) (Or.inl ⟨by rfl, ?yi⟩) ?ha ?_
        case yi => intro w; go_simp; try omega
        case ha => go_simp; try exact rfl
        refine wpAny_to (i := 2) (v := .pointer (some ⟨B, 0, none⟩)) (a' := ?ax2q209) rfl (by kernel_rfl) (by kernel_rfl) (by kernel_rfl) (fun _ _ _ h => h) (Or.inl ⟨by rfl, ?yi⟩) ?ha ?_
        case yi => intro w; go_simp; try omega
        case ha => go_simp; try exact rfl
        refine wpAny_to (i := 3) (v := .pointer (some ⟨B, 3, none⟩)) (a' := ?ax3q210) rfl (by kernel_rfl) (by kernel_rfl) (by kernel_rfl) (fun _ _ _ h => h) (Or.inl ⟨by rfl, ?yi⟩) ?ha ?_
        case yi => intro w; go_simp; try omega
        case ha => go_simp; try exact rfl
        refine wpAny_to (i := 4) (v := .pointer (some ⟨B, 3, none⟩)) (a' := ?ax4q211) rfl (by kernel_rfl) (by kernel_rfl) (by kernel_rfl) (fun _ _ _ h => h) (Or.inl ⟨by rfl, ?yi⟩) ?ha ?_
        case yi => intro w; go_simp; try omega
        case ha => go_simp; try exact rfl
        refine wpAny_to (i := 6) (v := .pointer (some ⟨B, 0, none⟩)) (a' := ?ax6q212) rfl (by kernel_rfl) (by kernel_rfl) (by kernel_rfl) (fun _ _ _ h => h) (Or.inl ⟨by rfl, ?yi⟩) ?ha ?_
        case yi => intro w; go_simp; try omega
        case ha => go_simp; try exact rfl
        refine wpAny_to (i := 7) (v := .pointer (some ⟨B, 0, none⟩)) (a' := ?ax7q213) rfl (by kernel_rfl) (by kernel_rfl) (by kernel_rfl) (fun _ _ _ h => h) (Or.inl ⟨by rfl, ?yi⟩) ?ha ?_
        case yi => intro w; go_simp; try omega
        case ha => go_simp; try exact rfl
        refine wpAny_to (i := 8) (v := .pointer (some ⟨B, 0, none⟩)) (a' := ?ax8q214) rfl (by kernel_rfl) (by kernel_rfl) (by kernel_rfl) (fun _ _ _ h => h) (Or.inl ⟨by rfl, ?yi⟩) ?ha ?_
        case yi => intro w; go_simp; try omega
        case ha => go_simp; try exact rfl
        refine wpAny_ready (rs := [5, 9]) (by kernel_rfl) (by simp) ?_
        refine AllReady.cons rfl (fun K hK => ?_) (AllReady.cons rfl (fun K hK => ?_) AllReady.nil)
        · go_simp
          go_wp2_with fail
          refine wpAny_ready (rs := [9]) (by kernel_rfl) (by simp) ?_
          refine AllReady.cons rfl (fun K hK => ?_) AllReady.nil
          go_simp
          go_wp2_with fail
          refine wpAny_to (i := 10) (v := .int .i64 ((l.length : Int) + 1)) (a' := ?ax10q215) rfl (by kernel_rfl) (by kernel_rfl) (by kernel_rfl) (fun _ _ _ h => h) (Or.inl ⟨by rfl, ?yi⟩) ?ha ?_
          case yi => intro w; go_simp; try omega
          case ha => go_simp; try exact rfl
          refine wpAny_to (i := 11) (v := .int .i64 (l.length : Int)) (a' := ?ax11q216) rfl (by kernel_rfl) (by kernel_rfl) (by kernel_rfl) (fun _ _ _ h => h) (Or.inl ⟨by rfl, ?yi⟩) ?ha ?_
          case yi => intro w; go_simp; try exact IntWalk.i64_in _ (by omega)
          case ha => go_simp; try exact rfl
          refine wpAny_ready (rs := [12]) (by kernel_rfl) (by simp) ?_
          refine AllReady.cons rfl (fun K hK => ?_) AllReady.nil
          go_simp
          go_wp2_with fail
          refine wpAny_to (i := 13) (v := .pointer (some ⟨B, 0, none⟩)) (a' := ?ax13q217) rfl (by kernel_rfl) (by kernel_rfl) (by kernel_rfl) (fun _ _ _ h => h) (Or.inl ⟨by rfl, ?yi⟩) ?ha ?_
          case yi => intro w; go_simp; try omega
          case ha => go_simp; try exact rfl
          refine wpAny_to (i := 14) (v := .pointer (some ⟨B, 3, none⟩)) (a' := ?ax14q218) rfl (by kernel_rfl) (by kernel_rfl) (by kernel_rfl) (fun _ _ _ h => h) (Or.inl ⟨by rfl, ?yi⟩) ?ha ?_
          case yi => intro w; go_simp; try omega
          case ha => go_simp; try exact rfl
          refine wpAny_to (i := 15) (v := .pointer (some ⟨B, 3, none⟩)) (a' := ?ax15q219) rfl (by kernel_rfl) (by kernel_rfl) (by kernel_rfl) (fun _ _ _ h => h) (Or.inl ⟨by rfl, ?yi⟩) ?ha ?_
          case yi => intro w; go_simp; try omega
          case ha => go_simp; try exact rfl
          refine wpAny_ready (rs := [16]) (by kernel_rfl) (by simp) ?_
          refine AllReady.cons rfl (fun K hK => ?_) AllReady.nil
          go_simp
          go_wp2_with fail
          refine wpAny_done (by kernel_rfl) ?_ _
          go_wp2_with fail
          go_end0
          have HF := HE.out (max o l.length)
          have hmx : ((max o l.length : Nat) : Int) = max (o : Int) (l.length : Int) := by omega
          rw [hmx] at HF
          have hlq : max o (q.length + 1) = max o l.length := by rw [HLL.out]
          rw [hlq]
          exact ⟨rfl, HF⟩
        · go_simp
          go_wp2_with fail
          refine wpAny_to (i := 10) (v := .int .i64 ((l.length : Int) + 1)) (a' := ?ax10q220) rfl (by kernel_rfl) (by kernel_rfl) (by kernel_rfl) (fun _ _ _ h => h) (Or.inl ⟨by rfl, ?yi⟩) ?ha ?_
          case yi => intro w; go_simp; try omega
          case ha => go_simp; try exact rfl
          refine wpAny_to (i := 11) (v := .int .i64 (l.length : Int)) (a' := ?ax11q221) rfl (by kernel_rfl) (by kernel_rfl) (by kernel_rfl) (fun _ _ _ h => h) (Or.inl ⟨by rfl, ?yi⟩) ?ha ?_
          case yi => intro w; go_simp; try exact IntWalk.i64_in _ (by omega)
          case ha => go_simp; try exact rfl
          refine wpAny_ready (rs := [5]) (by kernel_rfl) (by simp) ?_
          refine AllReady.cons rfl (fun K hK => ?_) AllReady.nil
          go_simp
          go_wp2_with fail
          refine wpAny_ready (rs := [12]) (by kernel_rfl) (by simp) ?_
          refine AllReady.cons rfl (fun K hK => ?_) AllReady.nil
          go_simp
          go_wp2_with fail
          refine wpAny_to (i := 13) (v := .pointer (some ⟨B, 0, none⟩)) (a' := ?ax13q222) rfl (by kernel_rfl) (by kernel_rfl) (by kernel_rfl) (fun _ _ _ h => h) (Or.inl ⟨by rfl, ?yi⟩) ?ha ?_
          case yi => intro w; go_simp; try omega
          case ha => go_simp; try exact rfl
          refine wpAny_to (i := 14) (v := .pointer (some ⟨B, 3, none⟩)) (a' := ?ax14q223) rfl (by kernel_rfl) (by kernel_rfl) (by kernel_rfl) (fun _ _ _ h => h) (Or.inl ⟨by rfl, ?yi⟩) ?ha ?_
          case yi => intro w; go_simp; try omega
          case ha => go_simp; try exact rfl
          refine wpAny_to (i := 15) (v := .pointer (some ⟨B, 3, none⟩)) (a' := ?ax15q224) rfl (by kernel_rfl) (by kernel_rfl) (by kernel_rfl) (fun _ _ _ h => h) (Or.inl ⟨by rfl, ?yi⟩) ?ha ?_
          case yi => intro w; go_simp; try omega
          case ha => go_simp; try exact rfl
          refine wpAny_ready (rs := [16]) (by kernel_rfl) (by simp) ?_
          refine AllReady.cons rfl (fun K hK => ?_) AllReady.nil
          go_simp
          go_wp2_with fail
          refine wpAny_done (by kernel_rfl) ?_ _
          go_wp2_with fail
          go_end0
          have HF := HE.out (max o l.length)
          have hmx : ((max o l.length : Nat) : Int) = max (o : Int) (l.length : Int) := by omega
          rw [hmx] at HF
          have hlq : max o (q.length + 1) = max o l.length := by rw [HLL.out]
          rw [hlq]
          exact ⟨rfl, HF⟩
      · go_simp
        go_wp2_with fail
        refine wpAny_ready (rs := [9]) (by kernel_rfl) (by simp) ?_
        refine AllReady.cons rfl (fun K hK => ?_) AllReady.nil
        go_simp
        go_wp2_with fail
        refine wpAny_done (by kernel_rfl) ?_ _
        go_wp2_with fail
        obtain ⟨w8, hw8, hp⟩ := HFB.out.name
        rw [← hw8]
        have c0 : (w8.drew).cell? ⟨B, 0, none⟩ = some (.slice (some ⟨g2, 0, none⟩) (l.length + 1) c2) := tag_cell hp.1 0 _ rfl
        have c3 : (w8.drew).cell? ⟨B, 3, none⟩ = some (.int .i64 (o : Int)) := tag_cell hp.1 3 _ rfl
        have f3 : (w8.drew).frozen? ⟨B, 3, none⟩ = false := tag_free hp.1 3
        have HE := hide (HEND.out w8 _ hp)
        clear hw8 hp HFA HFB
        refine wp_region_any (by kernel_rfl) ?_
        try (change wpAny _ _ _ _ _ _ _ (World.drew _))
        refine wpAny_to (i := 0) (v := .pointer (some ⟨B, 0, none⟩)) (a' := ?ax0q225) rfl (by kernel_rfl) (by kernel_rfl) (by kernel_rfl) (fun _ _ _ h => h) (Or.inl ⟨by rfl, ?yi⟩) ?ha ?_
        case yi => intro w; go_simp; try omega
        case ha => go_simp; try exact rfl
        refine wpAny_to (i := 1) (v := .pointer (some ⟨B, 0, none⟩)) (a' := ?ax1q226) rfl (by kernel_rfl) (by kernel_rfl) (by kernel_rfl) (fun _ _ _ h => h) (Or.inl ⟨by rfl, ?yi⟩) ?ha ?_
        case yi => intro w; go_simp; try omega
        case ha => go_simp; try exact rfl
        refine wpAny_to (i := 2) (v := .pointer (some ⟨B, 0, none⟩)) (a' := ?ax2q227) rfl (by kernel_rfl) (by kernel_rfl) (by kernel_rfl) (fun _ _ _ h => h) (Or.inl ⟨by rfl, ?yi⟩) ?ha ?_
        case yi => intro w; go_simp; try omega
        case ha => go_simp; try exact rfl
        refine wpAny_to (i := 3) (v := .pointer (some ⟨B, 3, none⟩)) (a' := ?ax3q228) rfl (by kernel_rfl) (by kernel_rfl) (by kernel_rfl) (fun _ _ _ h => h) (Or.inl ⟨by rfl, ?yi⟩) ?ha ?_
        case yi => intro w; go_simp; try omega
        case ha => go_simp; try exact rfl
        refine wpAny_to (i := 4) (v := .pointer (some ⟨B, 3, none⟩)) (a' := ?ax4q229) rfl (by kernel_rfl) (by kernel_rfl) (by kernel_rfl) (fun _ _ _ h => h) (Or.inl ⟨by rfl, ?yi⟩) ?ha ?_
        case yi => intro w; go_simp; try omega
        case ha => go_simp; try exact rfl
        refine wpAny_to (i := 6) (v := .pointer (some ⟨B, 0, none⟩)) (a' := ?ax6q230) rfl (by kernel_rfl) (by kernel_rfl) (by kernel_rfl) (fun _ _ _ h => h) (Or.inl ⟨by rfl, ?yi⟩) ?ha ?_
        case yi => intro w; go_simp; try omega
        case ha => go_simp; try exact rfl
        refine wpAny_to (i := 7) (v := .pointer (some ⟨B, 0, none⟩)) (a' := ?ax7q231) rfl (by kernel_rfl) (by kernel_rfl) (by kernel_rfl) (fun _ _ _ h => h) (Or.inl ⟨by rfl, ?yi⟩) ?ha ?_
        case yi => intro w; go_simp; try omega
        case ha => go_simp; try exact rfl
        refine wpAny_to (i := 8) (v := .pointer (some ⟨B, 0, none⟩)) (a' := ?ax8q232) rfl (by kernel_rfl) (by kernel_rfl) (by kernel_rfl) (fun _ _ _ h => h) (Or.inl ⟨by rfl, ?yi⟩) ?ha ?_
        case yi => intro w; go_simp; try omega
        case ha => go_simp; try exact rfl
        refine wpAny_ready (rs := [5, 9]) (by kernel_rfl) (by simp) ?_
        refine AllReady.cons rfl (fun K hK => ?_) (AllReady.cons rfl (fun K hK => ?_) AllReady.nil)
        · go_simp
          go_wp2_with fail
          refine wpAny_ready (rs := [9]) (by kernel_rfl) (by simp) ?_
          refine AllReady.cons rfl (fun K hK => ?_) AllReady.nil
          go_simp
          go_wp2_with fail
          refine wpAny_to (i := 10) (v := .int .i64 ((l.length : Int) + 1)) (a' := ?ax10q233) rfl (by kernel_rfl) (by kernel_rfl) (by kernel_rfl) (fun _ _ _ h => h) (Or.inl ⟨by rfl, ?yi⟩) ?ha ?_
          case yi => intro w; go_simp; try omega
          case ha => go_simp; try exact rfl
          refine wpAny_to (i := 11) (v := .int .i64 (l.length : Int)) (a' := ?ax11q234) rfl (by kernel_rfl) (by kernel_rfl) (by kernel_rfl) (fun _ _ _ h => h) (Or.inl ⟨by rfl, ?yi⟩) ?ha ?_
          case yi => intro w; go_simp; try exact IntWalk.i64_in _ (by omega)
          case ha => go_simp; try exact rfl
          refine wpAny_ready (rs := [12]) (by kernel_rfl) (by simp) ?_
          refine AllReady.cons rfl (fun K hK => ?_) AllReady.nil
          go_simp
          go_wp2_with fail
          refine wpAny_to (i := 13) (v := .pointer (some ⟨B, 0, none⟩)) (a' := ?ax13q235) rfl (by kernel_rfl) (by kernel_rfl) (by kernel_rfl) (fun _ _ _ h => h) (Or.inl ⟨by rfl, ?yi⟩) ?ha ?_
          case yi => intro w; go_simp; try omega
          case ha => go_simp; try exact rfl
          refine wpAny_to (i := 14) (v := .pointer (some ⟨B, 3, none⟩)) (a' := ?ax14q236) rfl (by kernel_rfl) (by kernel_rfl) (by kernel_rfl) (fun _ _ _ h => h) (Or.inl ⟨by rfl, ?yi⟩) ?ha ?_
          case yi => intro w; go_simp; try omega
          case ha => go_simp; try exact rfl
          refine wpAny_to (i := 15) (v := .pointer (some ⟨B, 3, none⟩)) (a' := ?ax15q237) rfl (by kernel_rfl) (by kernel_rfl) (by kernel_rfl) (fun _ _ _ h => h) (Or.inl ⟨by rfl, ?yi⟩) ?ha ?_
          case yi => intro w; go_simp; try omega
          case ha => go_simp; try exact rfl
          refine wpAny_ready (rs := [16]) (by kernel_rfl) (by simp) ?_
          refine AllReady.cons rfl (fun K hK => ?_) AllReady.nil
          go_simp
          go_wp2_with fail
          refine wpAny_done (by kernel_rfl) ?_ _
          go_wp2_with fail
          go_end0
          have HF := HE.out (max o l.length)
          have hmx : ((max o l.length : Nat) : Int) = max (o : Int) (l.length : Int) := by omega
          rw [hmx] at HF
          have hlq : max o (q.length + 1) = max o l.length := by rw [HLL.out]
          rw [hlq]
          exact ⟨rfl, HF⟩
        · go_simp
          go_wp2_with fail
          refine wpAny_to (i := 10) (v := .int .i64 ((l.length : Int) + 1)) (a' := ?ax10q238) rfl (by kernel_rfl) (by kernel_rfl) (by kernel_rfl) (fun _ _ _ h => h) (Or.inl ⟨by rfl, ?yi⟩) ?ha ?_
          case yi => intro w; go_simp; try omega
          case ha => go_simp; try exact rfl
          refine wpAny_to (i := 11) (v := .int .i64 (l.length : Int)) (a' := ?ax11q239) rfl (by kernel_rfl) (by kernel_rfl) (by kernel_rfl) (fun _ _ _ h => h) (Or.inl ⟨by rfl, ?yi⟩) ?ha ?_
          case yi => intro w; go_simp; try exact IntWalk.i64_in _ (by omega)
          case ha => go_simp; try exact rfl
          refine wpAny_ready (rs := [5]) (by kernel_rfl) (by simp) ?_
          refine AllReady.cons rfl (fun K hK => ?_) AllReady.nil
          go_simp
          go_wp2_with fail
          refine wpAny_ready (rs := [12]) (by kernel_rfl) (by simp) ?_
          refine AllReady.cons rfl (fun K hK => ?_) AllReady.nil
          go_simp
          go_wp2_with fail
          refine wpAny_to (i := 13) (v := .pointer (some ⟨B, 0, none⟩)) (a' := ?ax13q240) rfl (by kernel_rfl) (by kernel_rfl) (by kernel_rfl) (fun _ _ _ h => h) (Or.inl ⟨by rfl, ?yi⟩) ?ha ?_
          case yi => intro w; go_simp; try omega
          case ha => go_simp; try exact rfl
          refine wpAny_to (i := 14) (v := .pointer (some ⟨B, 3, none⟩)) (a' := ?ax14q241) rfl (by kernel_rfl) (by kernel_rfl) (by kernel_rfl) (fun _ _ _ h => h) (Or.inl ⟨by rfl, ?yi⟩) ?ha ?_
          case yi => intro w; go_simp; try omega
          case ha => go_simp; try exact rfl
          refine wpAny_to (i := 15) (v := .pointer (some ⟨B, 3, none⟩)) (a' := ?ax15q242) rfl (by kernel_rfl) (by kernel_rfl) (by kernel_rfl) (fun _ _ _ h => h) (Or.inl ⟨by rfl, ?yi⟩) ?ha ?_
          case yi => intro w; go_simp; try omega
          case ha => go_simp; try exact rfl
          refine wpAny_ready (rs := [16]) (by kernel_rfl) (by simp) ?_
          refine AllReady.cons rfl (fun K hK => ?_) AllReady.nil
          go_simp
          go_wp2_with fail
          refine wpAny_done (by kernel_rfl) ?_ _
          go_wp2_with fail
          go_end0
          have HF := HE.out (max o l.length)
          have hmx : ((max o l.length : Nat) : Int) = max (o : Int) (l.length : Int) := by omega
          rw [hmx] at HF
          have hlq : max o (q.length + 1) = max o l.length := by rw [HLL.out]
          rw [hlq]
          exact ⟨rfl, HF⟩
end Go.Proofs.YtholfdfjapgfbaaGreatDoor.Dm
