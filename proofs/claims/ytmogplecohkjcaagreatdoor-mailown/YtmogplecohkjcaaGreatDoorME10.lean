/-
  The program's Decode, walked.
-/
import Derived.Test.YtmogplecohkjcaaGreatDoorME9
namespace Msg15
open Go
open Pol8 hiding text right Right
theorem dcd_right {s : L} {m : Ms} (h : MRight m) (e : textM m = s) : Dcd s m 0 := .inl ⟨h, e, rfl⟩
theorem dcd_fault {s : L} {m : Ms} {l : List L} {left : L} {z : Int} (hm : ∀ m', MRight m' → textM m' = s → m = m') (hn : ¬ (MRight m ∧ textM m = s)) (hf : Fl s l left) (hz : z = if begB left = true then 3 else 2) : Dcd s Ms.zero z :=
  .inr ⟨fun m' h e => hn (by rw [hm m' h e]; exact ⟨h, e⟩), rfl, l, left, hf, hz⟩
end Msg15
namespace Go.Proofs.YtmogplecohkjcaaGreatDoor
open Go.RowKit
open Utf1
open Pol8 hiding text right Right
open Msg15

theorem Frs.le {A B : Nat} {w : World} {ids : List ByteArray} {vi vp v1 v2 v3 v4 v5 : Value} (h : Frs B w ids vi vp v1 v2 v3 v4 v5) (hA : A ≤ B) : Frs A w ids vi vp v1 v2 v3 v4 v5 := by
  refine ⟨?_, h.np.le hA, h.n5.le hA⟩
  obtain ⟨h1, h2 | ⟨k, cap, cur, hv, hb, hk, hr⟩⟩ := h.own
  · exact ⟨h1, .inl h2⟩
  · exact ⟨h1, .inr ⟨k, cap, cur, hv, by omega, hk, hr⟩⟩
theorem Frs.keep {B : Nat} {w w' : World} {ids : List ByteArray} {vi vp v1 v2 v3 v4 v5 : Value} (h : Frs B w ids vi vp v1 v2 v3 v4 v5) (hb : Below w.heap.size w w') : Frs B w' ids vi vp v1 v2 v3 v4 v5 := by
  refine ⟨?_, h.np, h.n5⟩
  obtain ⟨h1, h2 | ⟨k, cap, cur, hv, hB, hk, hr⟩⟩ := h.own
  · exact ⟨h1, .inl h2⟩
  · exact ⟨h1, .inr ⟨k, cap, cur, hv, hB, (hb.block k (Array.getElem?_eq_some_iff.1 hk).1).trans hk, hr⟩⟩
theorem Frs.off {B g : Nat} {w w' : World} {A : Array Value} {t : TypeId} {fz : Nat × Nat} {ids : List ByteArray} {vi vp v1 v2 v3 v4 v5 : Value} (h : Frs B w ids vi vp v1 v2 v3 v4 v5) (hg : w.heap[g]? = some (.cells A t fz)) (ht : t ≠ 9) (hw : ∀ k, k ≠ g → w'.heap[k]? = w.heap[k]?) : Frs B w' ids vi vp v1 v2 v3 v4 v5 := ⟨own_off h.own hg ht hw, h.np, h.n5⟩
/-- What Decode tells. -/
def DecQ (B : Nat) (w' : World) (s : L) (e : Ending) : Prop := ∃ (m : Ms) (z : Int) (vi vp v1 v2 v3 v4 v5 : Value) (ids : List ByteArray) (ts : List (ByteArray × ByteArray)) (l1 l2 l3 l4 l5 : List ByteArray), e = .returned (.tuple #[mval m.kind m.fr m.to m.ep vi vp m.pol v1 v2 v3 v4 v5, .int .i64 z]) ∧ MV w' m vi vp v1 v2 v3 v4 v5 ids ts l1 l2 l3 l4 l5 ∧ Dcd s m z ∧ Frs B w' ids vi vp v1 v2 v3 v4 v5

set_option maxRecDepth 100000 in
set_option maxHeartbeats 64000000 in
theorem edecode_any (s : ByteArray) (hs : s.size ≤ 99999) (w : World) (hg : Glob w) (hge : GlobE w) :
    Calls Tryz.prog 42 #[.string s] w fun e w' => DecQ w.heap.size w' (bl s) e ∧ Below w.heap.size w w' := by
  have HG := hide hg
  obtain ⟨w1, hw1⟩ : ∃ w1, w1 = w.alloc (.cells zmsg 35) := ⟨_, rfl⟩
  have hb1 : Below w.heap.size w w1 := by rw [hw1]; exact bel_alloc (Below.refl _ _) _
  have HB1 := hide hb1
  have K1 : Hid (w1.heap[w.heap.size]? = some (.cells zmsg 35 (0, 0))) := hide (by rw [hw1]; exact new_block _ _ _)
  have C1 := hide (eread_any s hs w1 (hg.below hb1) (hge.below hb1))
  have HF : Hid (∀ wx, Below w.heap.size w wx → Calls Tryz.prog 63 #[.string s] wx fun e w' => (∃ (l : List L) (left : L) (z : Int), e = .returned (.int .i64 z) ∧ Fl (bl s) l left ∧ z = if begB left = true then 3 else 2) ∧ Below wx.heap.size wx w') := hide (fun wx hx => efault_any s (by omega) wx (hg.below hx) (hge.below hx))
  clear hg hge hb1
  go_enter Tryz.func42, Tryz.ntmps42
  go_upto_region 1 with fail
  rw [← hw1]
  clear hw1
  go_wp2_with fail
  refine C1.out.mono ?_
  rintro e w2 ⟨⟨m, vi, vp, v1, v2, v3, v4, v5, ids, ts, l1, l2, l3, l4, l5, rfl, hmv, hm, hfr⟩, hb2⟩
  have HFR2 : Hid (Frs w.heap.size w2 ids vi vp v1 v2 v3 v4 v5) := hide (hfr.le HB1.out.size)
  clear hfr
  have HB2 : Hid (Below w.heap.size w w2) := hide (HB1.out.trans (hb2.mono HB1.out.size))
  have K2 : Hid (w2.heap[w.heap.size]? = some (.cells zmsg 35 (0, 0))) := hide ((hb2.block _ (Array.getElem?_eq_some_iff.1 K1.out).1).trans K1.out)
  have HMV := hide hmv
  have HM := hide hm
  obtain ⟨pi, ni, ci, rfl⟩ : ∃ q n c, vi = .slice q n c := by obtain ⟨q, c, e, -, -⟩ := hmv.hi; exact ⟨_, _, _, e⟩
  obtain ⟨pp, np, cp, rfl⟩ : ∃ q n c, vp = .slice q n c := by obtain ⟨q, c, e, -, -, -⟩ := hmv.hp; exact ⟨_, _, _, e⟩
  obtain ⟨q1, n1, m1, rfl⟩ : ∃ q n c, v1 = .slice q n c := by obtain ⟨q, c, e, -, -⟩ := hmv.hv.s1; exact ⟨_, _, _, e⟩
  obtain ⟨q2, n2, m2, rfl⟩ : ∃ q n c, v2 = .slice q n c := by obtain ⟨q, c, e, -, -⟩ := hmv.hv.s2; exact ⟨_, _, _, e⟩
  obtain ⟨q3, n3, m3, rfl⟩ : ∃ q n c, v3 = .slice q n c := by obtain ⟨q, c, e, -, -⟩ := hmv.hv.s3; exact ⟨_, _, _, e⟩
  obtain ⟨q4, n4, m4, rfl⟩ : ∃ q n c, v4 = .slice q n c := by obtain ⟨q, c, e, -, -⟩ := hmv.hv.s4; exact ⟨_, _, _, e⟩
  obtain ⟨q5, n5, m5, rfl⟩ : ∃ q n c, v5 = .slice q n c := by obtain ⟨q, c, e, -, -⟩ := hmv.hv.s5; exact ⟨_, _, _, e⟩
  obtain ⟨w3, hw3⟩ : ∃ w3, w3 = w2.alloc (.cells #[.int .i64 m.kind, .int .i64 m.fr, .int .i64 m.to, .int .i64 m.ep, .slice pi ni ci, .slice pp np cp, .int .i64 m.pol.ep, .slice q1 n1 m1, .slice q2 n2 m2, .slice q3 n3 m3, .slice q4 n4 m4, .slice q5 n5 m5, .int .i64 m.pol.dp, .int .i64 m.pol.nd, .int .i64 m.pol.bt] 35) := ⟨_, rfl⟩
  have hb3 : Below w2.heap.size w2 w3 := by rw [hw3]; exact bel_alloc (Below.refl _ _) _
  have N3 : Hid (w3.heap[w2.heap.size]? = some (.cells #[.int .i64 m.kind, .int .i64 m.fr, .int .i64 m.to, .int .i64 m.ep, .slice pi ni ci, .slice pp np cp, .int .i64 m.pol.ep, .slice q1 n1 m1, .slice q2 n2 m2, .slice q3 n3 m3, .slice q4 n4 m4, .slice q5 n5 m5, .int .i64 m.pol.dp, .int .i64 m.pol.nd, .int .i64 m.pol.bt] 35 (0, 0))) := hide (by rw [hw3]; exact new_block _ _ _)
  have K3 : Hid (w3.heap[w.heap.size]? = some (.cells zmsg 35 (0, 0))) := hide ((hb3.block _ (Array.getElem?_eq_some_iff.1 K2.out).1).trans K2.out)
  have HB3 : Hid (Below w.heap.size w w3) := hide (HB2.out.trans (hb3.mono HB2.out.size))
  have HMV3 := hide (hmv.below hb3)
  have HFR3 := hide (HFR2.out.keep hb3)
  clear HFR2
  have C3 := hide (eencode_any m _ _ _ _ _ _ _ ids ts l1 l2 l3 l4 l5 w3 HMV3.out)
  have HNE : Hid (w.heap.size ≠ w2.heap.size) := hide (by have := (Array.getElem?_eq_some_iff.1 K2.out).1; omega)
  clear hmv hm hb2 hb3 C1 HB1 K1 HB2 K2 HMV
  go_upto_region 2 with fail
  rw [← hw3]
  clear hw3
  have y0 := tag_cell N3.out 0 _ rfl
  have y1 := tag_cell N3.out 1 _ rfl
  have y2 := tag_cell N3.out 2 _ rfl
  have y3 := tag_cell N3.out 3 _ rfl
  have y4 := tag_cell N3.out 4 _ rfl
  have y5 := tag_cell N3.out 5 _ rfl
  have y6 := tag_cell N3.out 6 _ rfl
  have y7 := tag_cell N3.out 7 _ rfl
  have y8 := tag_cell N3.out 8 _ rfl
  have y9 := tag_cell N3.out 9 _ rfl
  have y10 := tag_cell N3.out 10 _ rfl
  have y11 := tag_cell N3.out 11 _ rfl
  have y12 := tag_cell N3.out 12 _ rfl
  have y13 := tag_cell N3.out 13 _ rfl
  have y14 := tag_cell N3.out 14 _ rfl
  go_wp2_with fail
  refine C3.out.mono ?_
  rintro e w4 ⟨hq, hb4⟩
  have N4 : Hid (w4.heap[w2.heap.size]? = some (.cells #[.int .i64 m.kind, .int .i64 m.fr, .int .i64 m.to, .int .i64 m.ep, .slice pi ni ci, .slice pp np cp, .int .i64 m.pol.ep, .slice q1 n1 m1, .slice q2 n2 m2, .slice q3 n3 m3, .slice q4 n4 m4, .slice q5 n5 m5, .int .i64 m.pol.dp, .int .i64 m.pol.nd, .int .i64 m.pol.bt] 35 (0, 0))) := hide ((hb4.block _ (Array.getElem?_eq_some_iff.1 N3.out).1).trans N3.out)
  have K4 : Hid (w4.heap[w.heap.size]? = some (.cells zmsg 35 (0, 0))) := hide ((hb4.block _ (Array.getElem?_eq_some_iff.1 K3.out).1).trans K3.out)
  have HB4 : Hid (Below w.heap.size w w4) := hide (HB3.out.trans (hb4.mono HB3.out.size))
  have HMV4 := hide (HMV3.out.below hb4)
  have HFR4 := hide (HFR3.out.keep hb4)
  clear HFR3
  clear y0 y1 y2 y3 y4 y5 y6 y7 y8 y9 y10 y11 y12 y13 y14 C3 N3 K3 HB3 HMV3 hb4
  -- the message isn't the text's
  have HBAD : Hid (¬ (MRight m ∧ textM m = bl s) → ∀ (l : List L) (left : L) (z : Int), Fl (bl s) l left → z = (if begB left = true then 3 else 2) → Dcd (bl s) Ms.zero z) := hide (fun hn l left z hf hz => dcd_fault HM.out hn hf hz)
  have CF := hide (HF.out w4 HB4.out)
  rcases hq with ⟨hR, rfl⟩ | ⟨hR, rfl⟩
  · obtain ⟨T, hT⟩ : ∃ T : ByteArray, T = ⟨(textM m).toArray⟩ := ⟨_, rfl⟩
    have hTb : bl T = textM m := by rw [hT]
    rw [← hT]
    by_cases he : bl T = bl s
    · have q1' := beq_same he
      have HD : Hid (Dcd (bl s) m 0) := hide (dcd_right hR (by rw [← hTb, he]))
      clear he hTb hT hR HBAD CF HM HF
      go_upto_region 4 with fail
      go_step
      refine wpList_load_row rfl 35 _ rfl w2.heap.size rfl 35 #[.int .i64 m.kind, .int .i64 m.fr, .int .i64 m.to, .int .i64 m.ep, .slice pi ni ci, .slice pp np cp, .int .i64 m.pol.ep, .slice q1 n1 m1, .slice q2 n2 m2, .slice q3 n3 m3, .slice q4 n4 m4, .slice q5 n5 m5, .int .i64 m.pol.dp, .int .i64 m.pol.nd, .int .i64 m.pol.bt] (0, 0) _ N4.out Tryz.underlying35 rfl (by kernel_rfl) ?_
      refine wpList_store_row rfl 35 _ _ rfl w.heap.size #[.int .i64 m.kind, .int .i64 m.fr, .int .i64 m.to, .int .i64 m.ep, .slice pi ni ci, .slice pp np cp, .int .i64 m.pol.ep, .slice q1 n1 m1, .slice q2 n2 m2, .slice q3 n3 m3, .slice q4 n4 m4, .slice q5 n5 m5, .int .i64 m.pol.dp, .int .i64 m.pol.nd, .int .i64 m.pol.bt] rfl rfl 35 _ K4.out (by kernel_rfl) rfl (by simp [Value.oneCell']) ?_
      obtain ⟨w5, hw5⟩ : ∃ w5, w5 = w4.setRow w.heap.size #[.int .i64 m.kind, .int .i64 m.fr, .int .i64 m.to, .int .i64 m.ep, .slice pi ni ci, .slice pp np cp, .int .i64 m.pol.ep, .slice q1 n1 m1, .slice q2 n2 m2, .slice q3 n3 m3, .slice q4 n4 m4, .slice q5 n5 m5, .int .i64 m.pol.dp, .int .i64 m.pol.nd, .int .i64 m.pol.bt] := ⟨_, rfl⟩
      have K5 : Hid (w5.heap[w.heap.size]? = some (.cells #[.int .i64 m.kind, .int .i64 m.fr, .int .i64 m.to, .int .i64 m.ep, .slice pi ni ci, .slice pp np cp, .int .i64 m.pol.ep, .slice q1 n1 m1, .slice q2 n2 m2, .slice q3 n3 m3, .slice q4 n4 m4, .slice q5 n5 m5, .int .i64 m.pol.dp, .int .i64 m.pol.nd, .int .i64 m.pol.bt] 35 (0, 0))) := hide (by rw [hw5]; exact setRow_heap _ _ _ _ _ _ K4.out)
      have B5 : Hid (Below w.heap.size w w5) := hide (by rw [hw5]; exact below_row HB4.out (Nat.le_refl _) _)
      have F5 := hide (HFR4.out.off (w' := w5) K4.out (by decide) (fun j hj => by rw [hw5]; exact setRow_other _ _ _ _ hj))
      have M5 := hide (HMV4.out.at' (w' := w5) K4.out noS_zmsg (fun j hj => by rw [hw5]; exact setRow_other _ _ _ _ hj) (HG.out.below B5.out))
      rw [← hw5]
      clear hw5 K4 N4 HMV4 HB4 q1'
      go_wp2_with fail
      refine bodyPost_ret (results_row_tmp rfl _ _ w.heap.size 35 #[.int .i64 m.kind, .int .i64 m.fr, .int .i64 m.to, .int .i64 m.ep, .slice pi ni ci, .slice pp np cp, .int .i64 m.pol.ep, .slice q1 n1 m1, .slice q2 n2 m2, .slice q3 n3 m3, .slice q4 n4 m4, .slice q5 n5 m5, .int .i64 m.pol.dp, .int .i64 m.pol.nd, .int .i64 m.pol.bt] (0, 0) _ rfl K5.out Tryz.underlying35 rfl (by kernel_rfl)) rfl ?_
      exact ⟨⟨m, 0, _, _, _, _, _, _, _, ids, ts, l1, l2, l3, l4, l5, rfl, M5.out, HD.out, F5.out⟩, B5.out⟩
    · have q1' := beq_ne he
      have HB : Hid (∀ (l : List L) (left : L) (z : Int), Fl (bl s) l left → z = (if begB left = true then 3 else 2) → Dcd (bl s) Ms.zero z) := hide (HBAD.out (fun h => he (by rw [hTb, h.2])))
      clear he hTb hT hR HBAD HM HF HMV4 N4
      go_upto_region 5 with fail
      go_wp2_with fail
      rename_i kk
      refine CF.out.mono ?_
      rintro e w5 ⟨⟨l, left, z, rfl, hfl, hz⟩, hb5⟩
      have HD := hide (HB.out l left z hfl hz)
      have K5 : Hid (w5.heap[w.heap.size]? = some (.cells zmsg 35 (0, 0))) := hide ((hb5.block _ (Array.getElem?_eq_some_iff.1 K4.out).1).trans K4.out)
      have B5 : Hid (Below w.heap.size w w5) := hide (HB4.out.trans (hb5.mono HB4.out.size))
      clear hfl hz hb5 K4 HB4 CF HB q1'
      refine kk _ _ ?_
      clear kk
      refine wpList_store_row rfl 35 _ _ rfl w.heap.size zmsg rfl rfl 35 _ K5.out (by kernel_rfl) rfl (by simp [Value.oneCell']) ?_
      obtain ⟨w6, hw6⟩ : ∃ w6, w6 = w5.setRow w.heap.size zmsg := ⟨_, rfl⟩
      have K6 : Hid (w6.heap[w.heap.size]? = some (.cells zmsg 35 (0, 0))) := hide (by rw [hw6]; exact setRow_heap _ _ _ _ _ _ K5.out)
      have B6 : Hid (Below w.heap.size w w6) := hide (by rw [hw6]; exact below_row B5.out (Nat.le_refl _) _)
      rw [← hw6]
      clear hw6 K5 B5
      go_wp2_with fail
      refine bodyPost_ret (results_row_tmp rfl _ _ w.heap.size 35 zmsg (0, 0) _ rfl K6.out Tryz.underlying35 rfl (by kernel_rfl)) rfl ?_
      exact ⟨⟨Ms.zero, z, _, _, _, _, _, _, _, [], [], [], [], [], [], [], rfl, MV.bare 0 0 0 0 (HG.out.below B6.out), HD.out, Frs.nil _ _⟩, B6.out⟩
  · have HB : Hid (∀ (l : List L) (left : L) (z : Int), Fl (bl s) l left → z = (if begB left = true then 3 else 2) → Dcd (bl s) Ms.zero z) := hide (HBAD.out (fun h => hR h.1))
    clear hR HBAD HM HF HMV4 N4
    go_upto_region 5 with fail
    go_wp2_with fail
    rename_i kk
    refine CF.out.mono ?_
    rintro e w5 ⟨⟨l, left, z, rfl, hfl, hz⟩, hb5⟩
    have HD := hide (HB.out l left z hfl hz)
    have K5 : Hid (w5.heap[w.heap.size]? = some (.cells zmsg 35 (0, 0))) := hide ((hb5.block _ (Array.getElem?_eq_some_iff.1 K4.out).1).trans K4.out)
    have B5 : Hid (Below w.heap.size w w5) := hide (HB4.out.trans (hb5.mono HB4.out.size))
    clear hfl hz hb5 K4 HB4 CF HB
    refine kk _ _ ?_
    clear kk
    refine wpList_store_row rfl 35 _ _ rfl w.heap.size zmsg rfl rfl 35 _ K5.out (by kernel_rfl) rfl (by simp [Value.oneCell']) ?_
    obtain ⟨w6, hw6⟩ : ∃ w6, w6 = w5.setRow w.heap.size zmsg := ⟨_, rfl⟩
    have K6 : Hid (w6.heap[w.heap.size]? = some (.cells zmsg 35 (0, 0))) := hide (by rw [hw6]; exact setRow_heap _ _ _ _ _ _ K5.out)
    have B6 : Hid (Below w.heap.size w w6) := hide (by rw [hw6]; exact below_row B5.out (Nat.le_refl _) _)
    rw [← hw6]
    clear hw6 K5 B5
    go_wp2_with fail
    refine bodyPost_ret (results_row_tmp rfl _ _ w.heap.size 35 zmsg (0, 0) _ rfl K6.out Tryz.underlying35 rfl (by kernel_rfl)) rfl ?_
    exact ⟨⟨Ms.zero, z, _, _, _, _, _, _, _, [], [], [], [], [], [], [], rfl, MV.bare 0 0 0 0 (HG.out.below B6.out), HD.out, Frs.nil _ _⟩, B6.out⟩
end Go.Proofs.YtmogplecohkjcaaGreatDoor
