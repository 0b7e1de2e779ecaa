/-
  The document's device, walked: Restart.
-/
import Derived.Test.YtipebinjdicnfaaDR5
import Derived.Test.YtipebinjdicnfaaDU
namespace Go.Proofs.Ytipebinjdicnfaa
open Go.RowKit

def Rv.restart (s : Rv) (n : Int) : Rv := ⟨s.la ++ s.wa.take (min n.toNat s.wa.length), [], -1, false⟩

set_option maxHeartbeats 4000000 in
theorem rrestart_any (w : World) (B : Nat) (s : Rv) (F : List Nat) (n : Int) (h : RefIn w B s F) (hn : -9223372036854775808 ≤ n ∧ n ≤ 9223372036854775807) :
    Calls Try.prog 18 #[.pointer (some ⟨B, 0, none⟩), .int .i64 n] w fun e w' => e = .returned (.tuple #[]) ∧ RLeft w w' B (s.restart n) F := by
  have HD := hide h
  obtain ⟨lv, wv, hb, hl, hw, _, hk, _⟩ := h
  have h6 := hk.1
  obtain ⟨lp, lc, rfl⟩ := own_len hl
  obtain ⟨wp, wc, rfl⟩ := own_len hw
  have hwc := own_cap hw
  have hwci : (s.wa.length : Int) ≤ (wc : Int) := by omega
  have c0 : w.cell? ⟨B, 0, none⟩ = some (.slice lp s.la.length lc) := tag_cell hb 0 _ rfl
  have c1 : w.cell? ⟨B, 1, none⟩ = some (.slice wp s.wa.length wc) := tag_cell hb 1 _ rfl
  have SK : Hid (∀ wx, Below w.heap.size w wx → wx.cell? ⟨B, 0, none⟩ = some (.slice lp s.la.length lc) ∧ wx.cell? ⟨B, 1, none⟩ = some (.slice wp s.wa.length wc)) := hide (fun wx h => ⟨cell_keep c0 h, cell_keep c1 h⟩)
  have HB0 : Hid (Below w.heap.size w (w.drew.alloc (.cells #[] 5))) := hide ((bel_one w).trans ((Below.refl _ w.drew).alloc (Nat.le_refl _) _))
  have HL := hide hl
  have HW := hide hw
  have HRB := hide hb
  clear hb hl hw hk
  rcases Int.lt_or_le n 0 with h0 | h0
  · have HR : Hid (s.restart n = ⟨s.la ++ s.wa.take 0, [], -1, false⟩) := hide (by unfold Rv.restart; rw [show min n.toNat s.wa.length = 0 by omega])
    have HWK : Hid (∀ wx : World, wx.ownsRow 0 5 1 (.slice wp s.wa.length wc) s.wa.length (Lib.byteCells s.wa) → wx.ownsRow 0 5 1 (.slice wp 0 wc) (s.wa.take 0).length (Lib.byteCells (s.wa.take 0))) := hide (fun wx h => own_cut h 0 (by omega))
    have HWL : Hid ((s.wa.take 0).length = 0) := hide (by rw [List.length_take]; omega)
    go_enter Try.func18, Try.ntmps18
    go_wp2_with fail
    refine wp_region_until (m := 23) (S := (fun wx => wx.cell? ⟨B, 0, none⟩ = some (.slice lp s.la.length lc) ∧ wx.cell? ⟨B, 1, none⟩ = some (.slice wp s.wa.length wc))) (by kernel_rfl) (SK.out _ (bel_one w)) (fun hHeld => ?_)
    refine wpU_at (i := 0) (v := ?va0) (a1 := ?xa0) rfl (by kernel_rfl) (by kernel_rfl) (by kernel_rfl) (by kernel_rfl) (fun _ _ _ h => h) (Or.inl ⟨by rfl, ?ya0⟩) (by assumption) ?ha0 ?za0
    case ya0 => (intro w hSw; (try dsimp only at hSw); go_simp; try (with_reducible rfl))
    case ha0 => (go_simp; exact rfl)
    case za0 =>
    refine wpU_at (i := 2) (v := ?va2) (a1 := ?xa2) rfl (by kernel_rfl) (by kernel_rfl) (by kernel_rfl) (by kernel_rfl) (fun _ _ _ h => h) (Or.inl ⟨by rfl, ?ya2⟩) (by assumption) ?ha2 ?za2
    case ya2 => (intro w hSw; (try dsimp only at hSw); go_simp; try (with_reducible rfl))
    case ha2 => (go_simp; exact rfl)
    case za2 =>
    refine wpU_at (i := 3) (v := ?va3) (a1 := ?xa3) rfl (by kernel_rfl) (by kernel_rfl) (by kernel_rfl) (by kernel_rfl) (fun _ _ _ h => h) (Or.inl ⟨by rfl, ?ya3⟩) (by assumption) ?ha3 ?za3
    case ya3 => (intro w hSw; (try dsimp only at hSw); go_simp; try (with_reducible rfl))
    case ha3 => (go_simp; exact rfl)
    case za3 =>
    refine wpU_at (i := 4) (v := ?va4) (a1 := ?xa4) rfl (by kernel_rfl) (by kernel_rfl) (by kernel_rfl) (by kernel_rfl) (fun _ _ _ h => h) (Or.inl ⟨by rfl, ?ya4⟩) (by assumption) ?ha4 ?za4
    case ya4 => (intro w hSw; (try dsimp only at hSw); go_simp; try (with_reducible rfl))
    case ha4 => (go_simp; exact rfl)
    case za4 =>
    refine wpU_at (i := 5) (v := ?va5) (a1 := ?xa5) rfl (by kernel_rfl) (by kernel_rfl) (by kernel_rfl) (by kernel_rfl) (fun _ _ _ h => h) (Or.inl ⟨by rfl, ?ya5⟩) (by assumption) ?ha5 ?za5
    case ya5 => (intro w hSw; (try dsimp only at hSw); go_simp; try (with_reducible rfl))
    case ha5 => (go_simp; exact rfl)
    case za5 =>
    refine wpU_at (i := 7) (v := ?va7) (a1 := ?xa7) rfl (by kernel_rfl) (by kernel_rfl) (by kernel_rfl) (by kernel_rfl) (fun _ _ _ h => h) (Or.inl ⟨by rfl, ?ya7⟩) (by assumption) ?ha7 ?za7
    case ya7 => (intro w hSw; (try dsimp only at hSw); go_simp; try (with_reducible rfl))
    case ha7 => (go_simp; exact rfl)
    case za7 =>
    refine wpU_at (i := 8) (v := ?va8) (a1 := ?xa8) rfl (by kernel_rfl) (by kernel_rfl) (by kernel_rfl) (by kernel_rfl) (fun _ _ _ h => h) (Or.inl ⟨by rfl, ?ya8⟩) (by assumption) ?ha8 ?za8
    case ya8 => (intro w hSw; (try dsimp only at hSw); go_simp; try (with_reducible rfl))
    case ha8 => (go_simp; exact rfl)
    case za8 =>
    refine wpU_at (i := 9) (v := ?va9) (a1 := ?xa9) rfl (by kernel_rfl) (by kernel_rfl) (by kernel_rfl) (by kernel_rfl) (fun _ _ _ h => h) (Or.inl ⟨by rfl, ?ya9⟩) (by assumption) ?ha9 ?za9
    case ya9 => (intro w hSw; (try dsimp only at hSw); go_simp; try (with_reducible rfl))
    case ha9 => (go_simp; exact rfl)
    case za9 =>
    refine wpU_at (i := 10) (v := ?va10) (a1 := ?xa10) rfl (by kernel_rfl) (by kernel_rfl) (by kernel_rfl) (by kernel_rfl) (fun _ _ _ h => h) (Or.inl ⟨by rfl, ?ya10⟩) (by assumption) ?ha10 ?za10
    case ya10 => (intro w hSw; (try dsimp only at hSw); go_simp; try (with_reducible rfl))
    case ha10 => (go_simp; exact rfl)
    case za10 =>
    refine wpU_at (i := 11) (v := ?va11) (a1 := ?xa11) rfl (by kernel_rfl) (by kernel_rfl) (by kernel_rfl) (by kernel_rfl) (fun _ _ _ h => h) (Or.inl ⟨by rfl, ?ya11⟩) (by assumption) ?ha11 ?za11
    case ya11 => (intro w hSw; (try dsimp only at hSw); go_simp; try (with_reducible rfl))
    case ha11 => (go_simp; exact rfl)
    case za11 =>
    refine wpU_at (i := 12) (v := .int .i64 0) (a1 := ?xa12) rfl (by kernel_rfl) (by kernel_rfl) (by kernel_rfl) (by kernel_rfl) (fun _ _ _ h => h) (Or.inl ⟨by rfl, ?ya12⟩) (by assumption) ?ha12 ?za12
    case ya12 => (intro w hSw; (try dsimp only at hSw); go_simp; try (intro hq; exfalso; omega))
    case ha12 => (go_simp; exact rfl)
    case za12 =>
    refine wpU_at (i := 13) (v := ?va13) (a1 := ?xa13) rfl (by kernel_rfl) (by kernel_rfl) (by kernel_rfl) (by kernel_rfl) (fun _ _ _ h => h) (Or.inl ⟨by rfl, ?ya13⟩) (by assumption) ?ha13 ?za13
    case ya13 => (intro w hSw; (try dsimp only at hSw); go_simp; try (with_reducible rfl))
    case ha13 => (go_simp; exact rfl)
    case za13 =>
    refine wpU_at (i := 14) (v := ?va14) (a1 := ?xa14) rfl (by kernel_rfl) (by kernel_rfl) (by kernel_rfl) (by kernel_rfl) (fun _ _ _ h => h) (Or.inl ⟨by rfl, ?ya14⟩) (by assumption) ?ha14 ?za14
    case ya14 => (intro w hSw; (try dsimp only at hSw); go_simp; try (with_reducible rfl))
    case ha14 => (go_simp; exact rfl)
    case za14 =>
    refine wpU_at (i := 15) (v := ?va15) (a1 := ?xa15) rfl (by kernel_rfl) (by kernel_rfl) (by kernel_rfl) (by kernel_rfl) (fun _ _ _ h => h) (Or.inl ⟨by rfl, ?ya15⟩) (by assumption) ?ha15 ?za15
    case ya15 => (intro w hSw; (try dsimp only at hSw); go_simp; try (with_reducible rfl))
    case ha15 => (go_simp; exact rfl)
    case za15 =>
    refine wpU_at (i := 16) (v := ?va16) (a1 := ?xa16) rfl (by kernel_rfl) (by kernel_rfl) (by kernel_rfl) (by kernel_rfl) (fun _ _ _ h => h) (Or.inl ⟨by rfl, ?ya16⟩) (by assumption) ?ha16 ?za16
    case ya16 => (intro w hSw; (try dsimp only at hSw); go_simp; try (with_reducible rfl))
    case ha16 => (go_simp; exact rfl)
    case za16 =>
    refine wpU_at (i := 17) (v := ?va17) (a1 := ?xa17) rfl (by kernel_rfl) (by kernel_rfl) (by kernel_rfl) (by kernel_rfl) (fun _ _ _ h => h) (Or.inl ⟨by rfl, ?ya17⟩) (by assumption) ?ha17 ?za17
    case ya17 => (intro w hSw; (try dsimp only at hSw); go_simp; try (with_reducible rfl))
    case ha17 => (go_simp; exact rfl)
    case za17 =>
    refine wpU_at (i := 18) (v := .int .i64 0) (a1 := ?xa18) rfl (by kernel_rfl) (by kernel_rfl) (by kernel_rfl) (by kernel_rfl) (fun _ _ _ h => h) (Or.inl ⟨by rfl, ?ya18⟩) (by assumption) ?ha18 ?za18
    case ya18 => (intro w hSw; (try dsimp only at hSw); go_simp; try (intro hq; exfalso; omega))
    case ha18 => (go_simp; exact rfl)
    case za18 =>
    refine wpU_at (i := 19) (v := .slice wp 0 wc) (a1 := ?xa19) rfl (by kernel_rfl) (by kernel_rfl) (by kernel_rfl) (by kernel_rfl) (fun _ _ _ h => h) (Or.inl ⟨by rfl, ?ya19⟩) (by assumption) ?ha19 ?za19
    case ya19 => (intro w hSw; (try dsimp only at hSw); go_simp; try omega)
    case ha19 => (go_simp; exact rfl)
    case za19 =>
    refine wpU_ready (rs := [1]) (by kernel_rfl) (by simp) ?_
    refine AllU.cons (by decide) rfl (fun K hK => ?_) AllU.nil
    go_simp
    try go_wp2_with fail
    refine hK.out _ _ (by first | exact SK.out _ HB2.out | exact SK.out _ HB1.out | exact SK.out _ HB0.out) (fun hHeld2 => ?_)
    clear hK K hHeld
    have hHeld := hHeld2
    clear hHeld2
    refine wpU_ready (rs := [6]) (by kernel_rfl) (by simp) ?_
    refine AllU.cons (by decide) rfl (fun K hK => ?_) AllU.nil
    refine step_append_bytes rfl _ _ rfl w.heap.size (.slice (some ⟨w.heap.size, 0, none⟩) 0 0) [] rfl (World.ownsRow_made w.drew _ 0 (Nat.le_refl _) (by decide) rfl) (.slice lp s.la.length lc) s.la rfl (own_bytes (own_below HL.out HB0.out)) (by simp; omega) HB0.out.size ?_
    intro v1 w1 ho1 hg1 _
    have HB1 : Hid (Below w.heap.size w w1) := hide (HB0.out.grown hg1 (by simp) (fun k hk => by simp [Value.ownBlock] at hk; omega))
    have HO1 := hide ho1
    have hge1 : ∀ k, v1.ownBlock = some k → w.heap.size ≤ k := fun k hk => (ho1.lt k hk).1
    have HG1 := hide hge1
    clear ho1 hg1 hge1
    try go_simp
    refine hK.out _ _ (by first | exact SK.out _ HB2.out | exact SK.out _ HB1.out | exact SK.out _ HB0.out) (fun hHeld2 => ?_)
    clear hK K hHeld
    have hHeld := hHeld2
    clear hHeld2
    refine wpU_ready (rs := [20]) (by kernel_rfl) (by simp) ?_
    refine AllU.cons (by decide) rfl (fun K hK => ?_) AllU.nil
    refine step_append_bytes rfl _ _ rfl w.heap.size v1 ([] ++ s.la) rfl (by rw [List.length_append]; exact HO1.out) (.slice wp 0 wc) (s.wa.take 0) rfl (own_bytes (HWK.out _ (own_below HW.out HB1.out))) (by rw [List.length_append, List.length_take]; simp; omega) HB1.out.size ?_
    intro v2 w2 ho2 hg2 _
    have HB2 : Hid (Below w.heap.size w w2) := hide (HB1.out.grown hg2 HB1.out.size HG1.out)
    have HO2 := hide ho2
    clear ho2 hg2
    try go_simp
    refine hK.out _ _ (by first | exact SK.out _ HB2.out | exact SK.out _ HB1.out | exact SK.out _ HB0.out) (fun hHeld2 => ?_)
    clear hK K hHeld
    have hHeld := hHeld2
    clear hHeld2
    refine wpU_ready (rs := [21]) (by kernel_rfl) (by simp) ?_
    refine AllU.cons (by decide) rfl (fun K hK => ?_) AllU.nil
    go_simp
    try go_wp2_with fail
    refine hK.out _ _ (by first | exact SK.out _ HB2.out | exact SK.out _ HB1.out | exact SK.out _ HB0.out) (fun hHeld2 => ?_)
    clear hK K hHeld
    have hHeld := hHeld2
    clear hHeld2
    refine wpU_at (i := 22) (v := ?va22) (a1 := ?xa22) rfl (by kernel_rfl) (by kernel_rfl) (by kernel_rfl) (by kernel_rfl) (fun _ _ _ h => h) (Or.inl ⟨by rfl, ?ya22⟩) (by assumption) ?ha22 ?za22
    case ya22 => (intro w hSw; (try dsimp only at hSw); go_simp; try (with_reducible rfl))
    case ha22 => (go_simp; exact rfl)
    case za22 =>
    refine wpU_ready (rs := [23]) (by kernel_rfl) (by simp) ?_
    refine AllU.last rfl (fun K hK => ?_)
    have hb2 := rb_keep HRB.out HB2.out
    have g0 := tag_free hb2 0
    have d0 := tag_cell hb2 0 _ rfl
    obtain ⟨p2, c2, rfl⟩ := own_len HO2.out
    obtain ⟨w3, hw3⟩ : ∃ w3, w3 = w2.setCell ⟨B, 0, none⟩ (.slice p2 (([] ++ s.la).length + (s.wa.take 0).length) c2) := ⟨_, rfl⟩
    have hb3 := tok_set hb2 0 (.slice p2 (([] ++ s.la).length + (s.wa.take 0).length) c2)
    rw [← hw3] at hb3
    have hk3 : Keep w2 w3 [B] := by rw [hw3]; exact (Keep.refl w2 [B]).set (p := ⟨B, 0, none⟩) (by simp) _
    obtain ⟨L, hL⟩ : ∃ L, L = ([] ++ s.la).length + (s.wa.take 0).length := ⟨_, rfl⟩
    rw [← hL] at hw3 hb3 HO2 ⊢
    have HK3 := hide hk3
    have HB3 := hide hb3
    have HLL := hide hL
    clear hb2 hk3 hb3 hL
    go_simp
    try go_wp2_with fail
    rw [← hw3]
    refine hK.out _ _ ?_
    clear hK K
    refine wpAny_done (by kernel_rfl) ?_ _
    have g1 := tag_free HB3.out 1
    have d1 := tag_cell HB3.out 1 _ rfl
    have hb4 := tok_set HB3.out 1 (.slice none 0 0)
    have g3 := tag_free hb4 3
    have d3 := tag_cell hb4 3 _ rfl
    have hb5 := tok_set hb4 3 (.bool false)
    have g2 := tag_free hb5 2
    have d2 := tag_cell hb5 2 _ rfl
    have hb6 := tok_set hb5 2 (.int .i64 (-1))
    have HB6 := hide hb6
    clear hb4 hb5 hb6 hw3 d0 g0
    go_wp2_with fail
    go_end0
    rw [HR.out]
    refine ⟨rfl, ref_put HD.out HB2.out (.slice p2 L c2) ?_ rfl ?_ HB6.out (((HK3.out.set (p := ⟨B, 1, none⟩) (by simp) _).set (p := ⟨B, 3, none⟩) (by simp) _).set (p := ⟨B, 2, none⟩) (by simp) _)⟩
    · have h := HO2.out
      rw [List.nil_append] at h
      have e : (s.la ++ s.wa.take 0).length = L := by rw [HLL.out, List.nil_append, List.length_append]
      show World.ownsRow _ _ _ _ _ (s.la ++ s.wa.take 0).length _
      rw [e]
      exact h
    · refine ⟨?_, show (-9223372036854775808 : Int) ≤ -1 by decide, show (-1 : Int) ≤ 9223372036854775807 by decide⟩
      show (s.la ++ s.wa.take 0).length + 0 ≤ 60000
      rw [List.length_append, List.length_take]
      omega
  rcases Int.lt_or_le (s.wa.length : Int) n with h1 | h1
  · have HR : Hid (s.restart n = ⟨s.la ++ s.wa.take s.wa.length, [], -1, false⟩) := hide (by unfold Rv.restart; rw [show min n.toNat s.wa.length = s.wa.length by omega])
    have HWK : Hid (∀ wx : World, wx.ownsRow 0 5 1 (.slice wp s.wa.length wc) s.wa.length (Lib.byteCells s.wa) → wx.ownsRow 0 5 1 (.slice wp s.wa.length wc) (s.wa.take s.wa.length).length (Lib.byteCells (s.wa.take s.wa.length))) := hide (fun wx h => own_cut h s.wa.length (by omega))
    have HWL : Hid ((s.wa.take s.wa.length).length = s.wa.length) := hide (by rw [List.length_take]; omega)
    go_enter Try.func18, Try.ntmps18
    go_wp2_with fail
    refine wp_region_until (m := 23) (S := (fun wx => wx.cell? ⟨B, 0, none⟩ = some (.slice lp s.la.length lc) ∧ wx.cell? ⟨B, 1, none⟩ = some (.slice wp s.wa.length wc))) (by kernel_rfl) (SK.out _ (bel_one w)) (fun hHeld => ?_)
    refine wpU_at (i := 0) (v := ?vb0) (a1 := ?xb0) rfl (by kernel_rfl) (by kernel_rfl) (by kernel_rfl) (by kernel_rfl) (fun _ _ _ h => h) (Or.inl ⟨by rfl, ?yb0⟩) (by assumption) ?hb0 ?zb0
    case yb0 => (intro w hSw; (try dsimp only at hSw); go_simp; try (with_reducible rfl))
    case hb0 => (go_simp; exact rfl)
    case zb0 =>
    refine wpU_at (i := 2) (v := ?vb2) (a1 := ?xb2) rfl (by kernel_rfl) (by kernel_rfl) (by kernel_rfl) (by kernel_rfl) (fun _ _ _ h => h) (Or.inl ⟨by rfl, ?yb2⟩) (by assumption) ?hb2 ?zb2
    case yb2 => (intro w hSw; (try dsimp only at hSw); go_simp; try (with_reducible rfl))
    case hb2 => (go_simp; exact rfl)
    case zb2 =>
    refine wpU_at (i := 3) (v := ?vb3) (a1 := ?xb3) rfl (by kernel_rfl) (by kernel_rfl) (by kernel_rfl) (by kernel_rfl) (fun _ _ _ h => h) (Or.inl ⟨by rfl, ?yb3⟩) (by assumption) ?hb3 ?zb3
    case yb3 => (intro w hSw; (try dsimp only at hSw); go_simp; try (with_reducible rfl))
    case hb3 => (go_simp; exact rfl)
    case zb3 =>
    refine wpU_at (i := 4) (v := ?vb4) (a1 := ?xb4) rfl (by kernel_rfl) (by kernel_rfl) (by kernel_rfl) (by kernel_rfl) (fun _ _ _ h => h) (Or.inl ⟨by rfl, ?yb4⟩) (by assumption) ?hb4 ?zb4
    case yb4 => (intro w hSw; (try dsimp only at hSw); go_simp; try (with_reducible rfl))
    case hb4 => (go_simp; exact rfl)
    case zb4 =>
    refine wpU_at (i := 5) (v := ?vb5) (a1 := ?xb5) rfl (by kernel_rfl) (by kernel_rfl) (by kernel_rfl) (by kernel_rfl) (fun _ _ _ h => h) (Or.inl ⟨by rfl, ?yb5⟩) (by assumption) ?hb5 ?zb5
    case yb5 => (intro w hSw; (try dsimp only at hSw); go_simp; try (with_reducible rfl))
    case hb5 => (go_simp; exact rfl)
    case zb5 =>
    refine wpU_at (i := 7) (v := ?vb7) (a1 := ?xb7) rfl (by kernel_rfl) (by kernel_rfl) (by kernel_rfl) (by kernel_rfl) (fun _ _ _ h => h) (Or.inl ⟨by rfl, ?yb7⟩) (by assumption) ?hb7 ?zb7
    case yb7 => (intro w hSw; (try dsimp only at hSw); go_simp; try (with_reducible rfl))
    case hb7 => (go_simp; exact rfl)
    case zb7 =>
    refine wpU_at (i := 8) (v := ?vb8) (a1 := ?xb8) rfl (by kernel_rfl) (by kernel_rfl) (by kernel_rfl) (by kernel_rfl) (fun _ _ _ h => h) (Or.inl ⟨by rfl, ?yb8⟩) (by assumption) ?hb8 ?zb8
    case yb8 => (intro w hSw; (try dsimp only at hSw); go_simp; try (with_reducible rfl))
    case hb8 => (go_simp; exact rfl)
    case zb8 =>
    refine wpU_at (i := 9) (v := ?vb9) (a1 := ?xb9) rfl (by kernel_rfl) (by kernel_rfl) (by kernel_rfl) (by kernel_rfl) (fun _ _ _ h => h) (Or.inl ⟨by rfl, ?yb9⟩) (by assumption) ?hb9 ?zb9
    case yb9 => (intro w hSw; (try dsimp only at hSw); go_simp; try (with_reducible rfl))
    case hb9 => (go_simp; exact rfl)
    case zb9 =>
    refine wpU_at (i := 10) (v := ?vb10) (a1 := ?xb10) rfl (by kernel_rfl) (by kernel_rfl) (by kernel_rfl) (by kernel_rfl) (fun _ _ _ h => h) (Or.inl ⟨by rfl, ?yb10⟩) (by assumption) ?hb10 ?zb10
    case yb10 => (intro w hSw; (try dsimp only at hSw); go_simp; try (with_reducible rfl))
    case hb10 => (go_simp; exact rfl)
    case zb10 =>
    refine wpU_at (i := 11) (v := ?vb11) (a1 := ?xb11) rfl (by kernel_rfl) (by kernel_rfl) (by kernel_rfl) (by kernel_rfl) (fun _ _ _ h => h) (Or.inl ⟨by rfl, ?yb11⟩) (by assumption) ?hb11 ?zb11
    case yb11 => (intro w hSw; (try dsimp only at hSw); go_simp; try (with_reducible rfl))
    case hb11 => (go_simp; exact rfl)
    case zb11 =>
    refine wpU_at (i := 12) (v := .int .i64 n) (a1 := ?xb12) rfl (by kernel_rfl) (by kernel_rfl) (by kernel_rfl) (by kernel_rfl) (fun _ _ _ h => h) (Or.inl ⟨by rfl, ?yb12⟩) (by assumption) ?hb12 ?zb12
    case yb12 => (intro w hSw; (try dsimp only at hSw); go_simp; try (intro hq; exfalso; omega))
    case hb12 => (go_simp; exact rfl)
    case zb12 =>
    refine wpU_at (i := 13) (v := ?vb13) (a1 := ?xb13) rfl (by kernel_rfl) (by kernel_rfl) (by kernel_rfl) (by kernel_rfl) (fun _ _ _ h => h) (Or.inl ⟨by rfl, ?yb13⟩) (by assumption) ?hb13 ?zb13
    case yb13 => (intro w hSw; (try dsimp only at hSw); go_simp; try (with_reducible rfl))
    case hb13 => (go_simp; exact rfl)
    case zb13 =>
    refine wpU_at (i := 14) (v := ?vb14) (a1 := ?xb14) rfl (by kernel_rfl) (by kernel_rfl) (by kernel_rfl) (by kernel_rfl) (fun _ _ _ h => h) (Or.inl ⟨by rfl, ?yb14⟩) (by assumption) ?hb14 ?zb14
    case yb14 => (intro w hSw; (try dsimp only at hSw); go_simp; try (with_reducible rfl))
    case hb14 => (go_simp; exact rfl)
    case zb14 =>
    refine wpU_at (i := 15) (v := ?vb15) (a1 := ?xb15) rfl (by kernel_rfl) (by kernel_rfl) (by kernel_rfl) (by kernel_rfl) (fun _ _ _ h => h) (Or.inl ⟨by rfl, ?yb15⟩) (by assumption) ?hb15 ?zb15
    case yb15 => (intro w hSw; (try dsimp only at hSw); go_simp; try (with_reducible rfl))
    case hb15 => (go_simp; exact rfl)
    case zb15 =>
    refine wpU_at (i := 16) (v := ?vb16) (a1 := ?xb16) rfl (by kernel_rfl) (by kernel_rfl) (by kernel_rfl) (by kernel_rfl) (fun _ _ _ h => h) (Or.inl ⟨by rfl, ?yb16⟩) (by assumption) ?hb16 ?zb16
    case yb16 => (intro w hSw; (try dsimp only at hSw); go_simp; try (with_reducible rfl))
    case hb16 => (go_simp; exact rfl)
    case zb16 =>
    refine wpU_at (i := 17) (v := ?vb17) (a1 := ?xb17) rfl (by kernel_rfl) (by kernel_rfl) (by kernel_rfl) (by kernel_rfl) (fun _ _ _ h => h) (Or.inl ⟨by rfl, ?yb17⟩) (by assumption) ?hb17 ?zb17
    case yb17 => (intro w hSw; (try dsimp only at hSw); go_simp; try (with_reducible rfl))
    case hb17 => (go_simp; exact rfl)
    case zb17 =>
    refine wpU_at (i := 18) (v := .int .i64 (s.wa.length : Int)) (a1 := ?xb18) rfl (by kernel_rfl) (by kernel_rfl) (by kernel_rfl) (by kernel_rfl) (fun _ _ _ h => h) (Or.inl ⟨by rfl, ?yb18⟩) (by assumption) ?hb18 ?zb18
    case yb18 => (intro w hSw; (try dsimp only at hSw); go_simp; try (intro hq; exfalso; omega))
    case hb18 => (go_simp; exact rfl)
    case zb18 =>
    refine wpU_at (i := 19) (v := .slice wp s.wa.length wc) (a1 := ?xb19) rfl (by kernel_rfl) (by kernel_rfl) (by kernel_rfl) (by kernel_rfl) (fun _ _ _ h => h) (Or.inl ⟨by rfl, ?yb19⟩) (by assumption) ?hb19 ?zb19
    case yb19 => (intro w hSw; (try dsimp only at hSw); go_simp; try omega)
    case hb19 => (go_simp; exact rfl)
    case zb19 =>
    refine wpU_ready (rs := [1]) (by kernel_rfl) (by simp) ?_
    refine AllU.cons (by decide) rfl (fun K hK => ?_) AllU.nil
    go_simp
    try go_wp2_with fail
    refine hK.out _ _ (by first | exact SK.out _ HB2.out | exact SK.out _ HB1.out | exact SK.out _ HB0.out) (fun hHeld2 => ?_)
    clear hK K hHeld
    have hHeld := hHeld2
    clear hHeld2
    refine wpU_ready (rs := [6]) (by kernel_rfl) (by simp) ?_
    refine AllU.cons (by decide) rfl (fun K hK => ?_) AllU.nil
    refine step_append_bytes rfl _ _ rfl w.heap.size (.slice (some ⟨w.heap.size, 0, none⟩) 0 0) [] rfl (World.ownsRow_made w.drew _ 0 (Nat.le_refl _) (by decide) rfl) (.slice lp s.la.length lc) s.la rfl (own_bytes (own_below HL.out HB0.out)) (by simp; omega) HB0.out.size ?_
    intro v1 w1 ho1 hg1 _
    have HB1 : Hid (Below w.heap.size w w1) := hide (HB0.out.grown hg1 (by simp) (fun k hk => by simp [Value.ownBlock] at hk; omega))
    have HO1 := hide ho1
    have hge1 : ∀ k, v1.ownBlock = some k → w.heap.size ≤ k := fun k hk => (ho1.lt k hk).1
    have HG1 := hide hge1
    clear ho1 hg1 hge1
    try go_simp
    refine hK.out _ _ (by first | exact SK.out _ HB2.out | exact SK.out _ HB1.out | exact SK.out _ HB0.out) (fun hHeld2 => ?_)
    clear hK K hHeld
    have hHeld := hHeld2
    clear hHeld2
    refine wpU_ready (rs := [20]) (by kernel_rfl) (by simp) ?_
    refine AllU.cons (by decide) rfl (fun K hK => ?_) AllU.nil
    refine step_append_bytes rfl _ _ rfl w.heap.size v1 ([] ++ s.la) rfl (by rw [List.length_append]; exact HO1.out) (.slice wp s.wa.length wc) (s.wa.take s.wa.length) rfl (own_bytes (HWK.out _ (own_below HW.out HB1.out))) (by rw [List.length_append, List.length_take]; simp; omega) HB1.out.size ?_
    intro v2 w2 ho2 hg2 _
    have HB2 : Hid (Below w.heap.size w w2) := hide (HB1.out.grown hg2 HB1.out.size HG1.out)
    have HO2 := hide ho2
    clear ho2 hg2
    try go_simp
    refine hK.out _ _ (by first | exact SK.out _ HB2.out | exact SK.out _ HB1.out | exact SK.out _ HB0.out) (fun hHeld2 => ?_)
    clear hK K hHeld
    have hHeld := hHeld2
    clear hHeld2
    refine wpU_ready (rs := [21]) (by kernel_rfl) (by simp) ?_
    refine AllU.cons (by decide) rfl (fun K hK => ?_) AllU.nil
    go_simp
    try go_wp2_with fail
    refine hK.out _ _ (by first | exact SK.out _ HB2.out | exact SK.out _ HB1.out | exact SK.out _ HB0.out) (fun hHeld2 => ?_)
    clear hK K hHeld
    have hHeld := hHeld2
    clear hHeld2
    refine wpU_at (i := 22) (v := ?vb22) (a1 := ?xb22) rfl (by kernel_rfl) (by kernel_rfl) (by kernel_rfl) (by kernel_rfl) (fun _ _ _ h => h) (Or.inl ⟨by rfl, ?yb22⟩) (by assumption) ?hb22 ?zb22
    case yb22 => (intro w hSw; (try dsimp only at hSw); go_simp; try (with_reducible rfl))
    case hb22 => (go_simp; exact rfl)
    case zb22 =>
    refine wpU_ready (rs := [23]) (by kernel_rfl) (by simp) ?_
    refine AllU.last rfl (fun K hK => ?_)
    have hb2 := rb_keep HRB.out HB2.out
    have g0 := tag_free hb2 0
    have d0 := tag_cell hb2 0 _ rfl
    obtain ⟨p2, c2, rfl⟩ := own_len HO2.out
    obtain ⟨w3, hw3⟩ : ∃ w3, w3 = w2.setCell ⟨B, 0, none⟩ (.slice p2 (([] ++ s.la).length + (s.wa.take s.wa.length).length) c2) := ⟨_, rfl⟩
    have hb3 := tok_set hb2 0 (.slice p2 (([] ++ s.la).length + (s.wa.take s.wa.length).length) c2)
    rw [← hw3] at hb3
    have hk3 : Keep w2 w3 [B] := by rw [hw3]; exact (Keep.refl w2 [B]).set (p := ⟨B, 0, none⟩) (by simp) _
    obtain ⟨L, hL⟩ : ∃ L, L = ([] ++ s.la).length + (s.wa.take s.wa.length).length := ⟨_, rfl⟩
    rw [← hL] at hw3 hb3 HO2 ⊢
    have HK3 := hide hk3
    have HB3 := hide hb3
    have HLL := hide hL
    clear hb2 hk3 hb3 hL
    go_simp
    try go_wp2_with fail
    rw [← hw3]
    refine hK.out _ _ ?_
    clear hK K
    refine wpAny_done (by kernel_rfl) ?_ _
    have g1 := tag_free HB3.out 1
    have d1 := tag_cell HB3.out 1 _ rfl
    have hb4 := tok_set HB3.out 1 (.slice none 0 0)
    have g3 := tag_free hb4 3
    have d3 := tag_cell hb4 3 _ rfl
    have hb5 := tok_set hb4 3 (.bool false)
    have g2 := tag_free hb5 2
    have d2 := tag_cell hb5 2 _ rfl
    have hb6 := tok_set hb5 2 (.int .i64 (-1))
    have HB6 := hide hb6
    clear hb4 hb5 hb6 hw3 d0 g0
    go_wp2_with fail
    go_end0
    rw [HR.out]
    refine ⟨rfl, ref_put HD.out HB2.out (.slice p2 L c2) ?_ rfl ?_ HB6.out (((HK3.out.set (p := ⟨B, 1, none⟩) (by simp) _).set (p := ⟨B, 3, none⟩) (by simp) _).set (p := ⟨B, 2, none⟩) (by simp) _)⟩
    · have h := HO2.out
      rw [List.nil_append] at h
      have e : (s.la ++ s.wa.take s.wa.length).length = L := by rw [HLL.out, List.nil_append, List.length_append]
      show World.ownsRow _ _ _ _ _ (s.la ++ s.wa.take s.wa.length).length _
      rw [e]
      exact h
    · refine ⟨?_, show (-9223372036854775808 : Int) ≤ -1 by decide, show (-1 : Int) ≤ 9223372036854775807 by decide⟩
      show (s.la ++ s.wa.take s.wa.length).length + 0 ≤ 60000
      rw [List.length_append, List.length_take]
      omega
  · obtain ⟨m, rfl⟩ : ∃ m : Nat, n = (m : Int) := ⟨n.toNat, by omega⟩
    have hmw : m ≤ s.wa.length := by omega
    have hmc : (m : Int) ≤ (wc : Int) := by omega
    have HR : Hid (s.restart (m : Int) = ⟨s.la ++ s.wa.take m, [], -1, false⟩) := hide (by unfold Rv.restart; rw [show min (m : Int).toNat s.wa.length = m by omega])
    have HWK : Hid (∀ wx : World, wx.ownsRow 0 5 1 (.slice wp s.wa.length wc) s.wa.length (Lib.byteCells s.wa) → wx.ownsRow 0 5 1 (.slice wp m wc) (s.wa.take m).length (Lib.byteCells (s.wa.take m))) := hide (fun wx h => own_cut h m (by omega))
    have HWL : Hid ((s.wa.take m).length = m) := hide (by rw [List.length_take]; omega)
    go_enter Try.func18, Try.ntmps18
    go_wp2_with fail
    refine wp_region_until (m := 23) (S := (fun wx => wx.cell? ⟨B, 0, none⟩ = some (.slice lp s.la.length lc) ∧ wx.cell? ⟨B, 1, none⟩ = some (.slice wp s.wa.length wc))) (by kernel_rfl) (SK.out _ (bel_one w)) (fun hHeld => ?_)
    refine wpU_at (i := 0) (v := ?vc0) (a1 := ?xc0) rfl (by kernel_rfl) (by kernel_rfl) (by kernel_rfl) (by kernel_rfl) (fun _ _ _ h => h) (Or.inl ⟨by rfl, ?yc0⟩) (by assumption) ?hc0 ?zc0
    case yc0 => (intro w hSw; (try dsimp only at hSw); go_simp; try (with_reducible rfl))
    case hc0 => (go_simp; exact rfl)
    case zc0 =>
    refine wpU_at (i := 2) (v := ?vc2) (a1 := ?xc2) rfl (by kernel_rfl) (by kernel_rfl) (by kernel_rfl) (by kernel_rfl) (fun _ _ _ h => h) (Or.inl ⟨by rfl, ?yc2⟩) (by assumption) ?hc2 ?zc2
    case yc2 => (intro w hSw; (try dsimp only at hSw); go_simp; try (with_reducible rfl))
    case hc2 => (go_simp; exact rfl)
    case zc2 =>
    refine wpU_at (i := 3) (v := ?vc3) (a1 := ?xc3) rfl (by kernel_rfl) (by kernel_rfl) (by kernel_rfl) (by kernel_rfl) (fun _ _ _ h => h) (Or.inl ⟨by rfl, ?yc3⟩) (by assumption) ?hc3 ?zc3
    case yc3 => (intro w hSw; (try dsimp only at hSw); go_simp; try (with_reducible rfl))
    case hc3 => (go_simp; exact rfl)
    case zc3 =>
    refine wpU_at (i := 4) (v := ?vc4) (a1 := ?xc4) rfl (by kernel_rfl) (by kernel_rfl) (by kernel_rfl) (by kernel_rfl) (fun _ _ _ h => h) (Or.inl ⟨by rfl, ?yc4⟩) (by assumption) ?hc4 ?zc4
    case yc4 => (intro w hSw; (try dsimp only at hSw); go_simp; try (with_reducible rfl))
    case hc4 => (go_simp; exact rfl)
    case zc4 =>
    refine wpU_at (i := 5) (v := ?vc5) (a1 := ?xc5) rfl (by kernel_rfl) (by kernel_rfl) (by kernel_rfl) (by kernel_rfl) (fun _ _ _ h => h) (Or.inl ⟨by rfl, ?yc5⟩) (by assumption) ?hc5 ?zc5
    case yc5 => (intro w hSw; (try dsimp only at hSw); go_simp; try (with_reducible rfl))
    case hc5 => (go_simp; exact rfl)
    case zc5 =>
    refine wpU_at (i := 7) (v := ?vc7) (a1 := ?xc7) rfl (by kernel_rfl) (by kernel_rfl) (by kernel_rfl) (by kernel_rfl) (fun _ _ _ h => h) (Or.inl ⟨by rfl, ?yc7⟩) (by assumption) ?hc7 ?zc7
    case yc7 => (intro w hSw; (try dsimp only at hSw); go_simp; try (with_reducible rfl))
    case hc7 => (go_simp; exact rfl)
    case zc7 =>
    refine wpU_at (i := 8) (v := ?vc8) (a1 := ?xc8) rfl (by kernel_rfl) (by kernel_rfl) (by kernel_rfl) (by kernel_rfl) (fun _ _ _ h => h) (Or.inl ⟨by rfl, ?yc8⟩) (by assumption) ?hc8 ?zc8
    case yc8 => (intro w hSw; (try dsimp only at hSw); go_simp; try (with_reducible rfl))
    case hc8 => (go_simp; exact rfl)
    case zc8 =>
    refine wpU_at (i := 9) (v := ?vc9) (a1 := ?xc9) rfl (by kernel_rfl) (by kernel_rfl) (by kernel_rfl) (by kernel_rfl) (fun _ _ _ h => h) (Or.inl ⟨by rfl, ?yc9⟩) (by assumption) ?hc9 ?zc9
    case yc9 => (intro w hSw; (try dsimp only at hSw); go_simp; try (with_reducible rfl))
    case hc9 => (go_simp; exact rfl)
    case zc9 =>
    refine wpU_at (i := 10) (v := ?vc10) (a1 := ?xc10) rfl (by kernel_rfl) (by kernel_rfl) (by kernel_rfl) (by kernel_rfl) (fun _ _ _ h => h) (Or.inl ⟨by rfl, ?yc10⟩) (by assumption) ?hc10 ?zc10
    case yc10 => (intro w hSw; (try dsimp only at hSw); go_simp; try (with_reducible rfl))
    case hc10 => (go_simp; exact rfl)
    case zc10 =>
    refine wpU_at (i := 11) (v := ?vc11) (a1 := ?xc11) rfl (by kernel_rfl) (by kernel_rfl) (by kernel_rfl) (by kernel_rfl) (fun _ _ _ h => h) (Or.inl ⟨by rfl, ?yc11⟩) (by assumption) ?hc11 ?zc11
    case yc11 => (intro w hSw; (try dsimp only at hSw); go_simp; try (with_reducible rfl))
    case hc11 => (go_simp; exact rfl)
    case zc11 =>
    refine wpU_at (i := 12) (v := .int .i64 (m : Int)) (a1 := ?xc12) rfl (by kernel_rfl) (by kernel_rfl) (by kernel_rfl) (by kernel_rfl) (fun _ _ _ h => h) (Or.inl ⟨by rfl, ?yc12⟩) (by assumption) ?hc12 ?zc12
    case yc12 => (intro w hSw; (try dsimp only at hSw); go_simp; try (intro hq; exfalso; omega))
    case hc12 => (go_simp; exact rfl)
    case zc12 =>
    refine wpU_at (i := 13) (v := ?vc13) (a1 := ?xc13) rfl (by kernel_rfl) (by kernel_rfl) (by kernel_rfl) (by kernel_rfl) (fun _ _ _ h => h) (Or.inl ⟨by rfl, ?yc13⟩) (by assumption) ?hc13 ?zc13
    case yc13 => (intro w hSw; (try dsimp only at hSw); go_simp; try (with_reducible rfl))
    case hc13 => (go_simp; exact rfl)
    case zc13 =>
    refine wpU_at (i := 14) (v := ?vc14) (a1 := ?xc14) rfl (by kernel_rfl) (by kernel_rfl) (by kernel_rfl) (by kernel_rfl) (fun _ _ _ h => h) (Or.inl ⟨by rfl, ?yc14⟩) (by assumption) ?hc14 ?zc14
    case yc14 => (intro w hSw; (try dsimp only at hSw); go_simp; try (with_reducible rfl))
    case hc14 => (go_simp; exact rfl)
    case zc14 =>
    refine wpU_at (i := 15) (v := ?vc15) (a1 := ?xc15) rfl (by kernel_rfl) (by kernel_rfl) (by kernel_rfl) (by kernel_rfl) (fun _ _ _ h => h) (Or.inl ⟨by rfl, ?yc15⟩) (by assumption) ?hc15 ?zc15
    case yc15 => (intro w hSw; (try dsimp only at hSw); go_simp; try (with_reducible rfl))
    case hc15 => (go_simp; exact rfl)
    case zc15 =>
    refine wpU_at (i := 16) (v := ?vc16) (a1 := ?xc16) rfl (by kernel_rfl) (by kernel_rfl) (by kernel_rfl) (by kernel_rfl) (fun _ _ _ h => h) (Or.inl ⟨by rfl, ?yc16⟩) (by assumption) ?hc16 ?zc16
    case yc16 => (intro w hSw; (try dsimp only at hSw); go_simp; try (with_reducible rfl))
    case hc16 => (go_simp; exact rfl)
    case zc16 =>
    refine wpU_at (i := 17) (v := ?vc17) (a1 := ?xc17) rfl (by kernel_rfl) (by kernel_rfl) (by kernel_rfl) (by kernel_rfl) (fun _ _ _ h => h) (Or.inl ⟨by rfl, ?yc17⟩) (by assumption) ?hc17 ?zc17
    case yc17 => (intro w hSw; (try dsimp only at hSw); go_simp; try (with_reducible rfl))
    case hc17 => (go_simp; exact rfl)
    case zc17 =>
    refine wpU_at (i := 18) (v := .int .i64 (m : Int)) (a1 := ?xc18) rfl (by kernel_rfl) (by kernel_rfl) (by kernel_rfl) (by kernel_rfl) (fun _ _ _ h => h) (Or.inl ⟨by rfl, ?yc18⟩) (by assumption) ?hc18 ?zc18
    case yc18 => (intro w hSw; (try dsimp only at hSw); go_simp; try (intro hq; exfalso; omega))
    case hc18 => (go_simp; exact rfl)
    case zc18 =>
    refine wpU_at (i := 19) (v := .slice wp m wc) (a1 := ?xc19) rfl (by kernel_rfl) (by kernel_rfl) (by kernel_rfl) (by kernel_rfl) (fun _ _ _ h => h) (Or.inl ⟨by rfl, ?yc19⟩) (by assumption) ?hc19 ?zc19
    case yc19 => (intro w hSw; (try dsimp only at hSw); go_simp; try omega)
    case hc19 => (go_simp; exact rfl)
    case zc19 =>
    refine wpU_ready (rs := [1]) (by kernel_rfl) (by simp) ?_
    refine AllU.cons (by decide) rfl (fun K hK => ?_) AllU.nil
    go_simp
    try go_wp2_with fail
    refine hK.out _ _ (by first | exact SK.out _ HB2.out | exact SK.out _ HB1.out | exact SK.out _ HB0.out) (fun hHeld2 => ?_)
    clear hK K hHeld
    have hHeld := hHeld2
    clear hHeld2
    refine wpU_ready (rs := [6]) (by kernel_rfl) (by simp) ?_
    refine AllU.cons (by decide) rfl (fun K hK => ?_) AllU.nil
    refine step_append_bytes rfl _ _ rfl w.heap.size (.slice (some ⟨w.heap.size, 0, none⟩) 0 0) [] rfl (World.ownsRow_made w.drew _ 0 (Nat.le_refl _) (by decide) rfl) (.slice lp s.la.length lc) s.la rfl (own_bytes (own_below HL.out HB0.out)) (by simp; omega) HB0.out.size ?_
    intro v1 w1 ho1 hg1 _
    have HB1 : Hid (Below w.heap.size w w1) := hide (HB0.out.grown hg1 (by simp) (fun k hk => by simp [Value.ownBlock] at hk; omega))
    have HO1 := hide ho1
    have hge1 : ∀ k, v1.ownBlock = some k → w.heap.size ≤ k := fun k hk => (ho1.lt k hk).1
    have HG1 := hide hge1
    clear ho1 hg1 hge1
    try go_simp
    refine hK.out _ _ (by first | exact SK.out _ HB2.out | exact SK.out _ HB1.out | exact SK.out _ HB0.out) (fun hHeld2 => ?_)
    clear hK K hHeld
    have hHeld := hHeld2
    clear hHeld2
    refine wpU_ready (rs := [20]) (by kernel_rfl) (by simp) ?_
    refine AllU.cons (by decide) rfl (fun K hK => ?_) AllU.nil
    refine step_append_bytes rfl _ _ rfl w.heap.size v1 ([] ++ s.la) rfl (by rw [List.length_append]; exact HO1.out) (.slice wp m wc) (s.wa.take m) rfl (own_bytes (HWK.out _ (own_below HW.out HB1.out))) (by rw [List.length_append, List.length_take]; simp; omega) HB1.out.size ?_
    intro v2 w2 ho2 hg2 _
    have HB2 : Hid (Below w.heap.size w w2) := hide (HB1.out.grown hg2 HB1.out.size HG1.out)
    have HO2 := hide ho2
    clear ho2 hg2
    try go_simp
    refine hK.out _ _ (by first | exact SK.out _ HB2.out | exact SK.out _ HB1.out | exact SK.out _ HB0.out) (fun hHeld2 => ?_)
    clear hK K hHeld
    have hHeld := hHeld2
    clear hHeld2
    refine wpU_ready (rs := [21]) (by kernel_rfl) (by simp) ?_
    refine AllU.cons (by decide) rfl (fun K hK => ?_) AllU.nil
    go_simp
    try go_wp2_with fail
    refine hK.out _ _ (by first | exact SK.out _ HB2.out | exact SK.out _ HB1.out | exact SK.out _ HB0.out) (fun hHeld2 => ?_)
    clear hK K hHeld
    have hHeld := hHeld2
    clear hHeld2
    refine wpU_at (i := 22) (v := ?vc22) (a1 := ?xc22) rfl (by kernel_rfl) (by kernel_rfl) (by kernel_rfl) (by kernel_rfl) (fun _ _ _ h => h) (Or.inl ⟨by rfl, ?yc22⟩) (by assumption) ?hc22 ?zc22
    case yc22 => (intro w hSw; (try dsimp only at hSw); go_simp; try (with_reducible rfl))
    case hc22 => (go_simp; exact rfl)
    case zc22 =>
    refine wpU_ready (rs := [23]) (by kernel_rfl) (by simp) ?_
    refine AllU.last rfl (fun K hK => ?_)
    have hb2 := rb_keep HRB.out HB2.out
    have g0 := tag_free hb2 0
    have d0 := tag_cell hb2 0 _ rfl
    obtain ⟨p2, c2, rfl⟩ := own_len HO2.out
    obtain ⟨w3, hw3⟩ : ∃ w3, w3 = w2.setCell ⟨B, 0, none⟩ (.slice p2 (([] ++ s.la).length + (s.wa.take m).length) c2) := ⟨_, rfl⟩
    have hb3 := tok_set hb2 0 (.slice p2 (([] ++ s.la).length + (s.wa.take m).length) c2)
    rw [← hw3] at hb3
    have hk3 : Keep w2 w3 [B] := by rw [hw3]; exact (Keep.refl w2 [B]).set (p := ⟨B, 0, none⟩) (by simp) _
    obtain ⟨L, hL⟩ : ∃ L, L = ([] ++ s.la).length + (s.wa.take m).length := ⟨_, rfl⟩
    rw [← hL] at hw3 hb3 HO2 ⊢
    have HK3 := hide hk3
    have HB3 := hide hb3
    have HLL := hide hL
    clear hb2 hk3 hb3 hL
    go_simp
    try go_wp2_with fail
    rw [← hw3]
    refine hK.out _ _ ?_
    clear hK K
    refine wpAny_done (by kernel_rfl) ?_ _
    have g1 := tag_free HB3.out 1
    have d1 := tag_cell HB3.out 1 _ rfl
    have hb4 := tok_set HB3.out 1 (.slice none 0 0)
    have g3 := tag_free hb4 3
    have d3 := tag_cell hb4 3 _ rfl
    have hb5 := tok_set hb4 3 (.bool false)
    have g2 := tag_free hb5 2
    have d2 := tag_cell hb5 2 _ rfl
    have hb6 := tok_set hb5 2 (.int .i64 (-1))
    have HB6 := hide hb6
    clear hb4 hb5 hb6 hw3 d0 g0
    go_wp2_with fail
    go_end0
    rw [HR.out]
    refine ⟨rfl, ref_put HD.out HB2.out (.slice p2 L c2) ?_ rfl ?_ HB6.out (((HK3.out.set (p := ⟨B, 1, none⟩) (by simp) _).set (p := ⟨B, 3, none⟩) (by simp) _).set (p := ⟨B, 2, none⟩) (by simp) _)⟩
    · have h := HO2.out
      rw [List.nil_append] at h
      have e : (s.la ++ s.wa.take m).length = L := by rw [HLL.out, List.nil_append, List.length_append]
      show World.ownsRow _ _ _ _ _ (s.la ++ s.wa.take m).length _
      rw [e]
      exact h
    · refine ⟨?_, show (-9223372036854775808 : Int) ≤ -1 by decide, show (-1 : Int) ≤ 9223372036854775807 by decide⟩
      show (s.la ++ s.wa.take m).length + 0 ≤ 60000
      rw [List.length_append, List.length_take]
      omega
end Go.Proofs.Ytipebinjdicnfaa
