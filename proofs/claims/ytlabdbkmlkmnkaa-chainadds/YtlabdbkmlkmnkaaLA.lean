/-
  The law ChainAdds.
-/
import Derived.Test.YtlabdbkmlkmnkaaLA0
namespace Go.Proofs.Ytlabdbkmlkmnkaa
open Go.RowKit
open Utf1 Pol8

set_option maxRecDepth 100000 in
set_option maxHeartbeats 32000000 in
theorem lawAdds_walk (hC : CheckC) (hA : AddC) (v : Value) (ts : List It) (x : It) (ep : Int) (w : World) (hv : PolRow w v ts) (hsz : ts.length * 152 ≤ 140737488351232) (hx : x.ok w) :
    Calls Try.prog 4 #[v, x.val, .int .i64 ep] w fun e w' => e = .returned (.bool true) ∧ Below w.heap.size w w' := by
  have HV := hide hv
  obtain ⟨p, cap, rfl, hcap, hp0, -⟩ := hv
  obtain ⟨Q, v1, v2, v3, v4, v5, l1, l2, l3, l4, l5⟩ := x
  have HX : Hid (PolV w v1 v2 v3 v4 v5 Q l1 l2 l3 l4 l5) := hide hx
  show Calls Try.prog 4 #[.slice p ts.length cap, pval Q v1 v2 v3 v4 v5, .int .i64 ep] w _
  obtain ⟨o1, k1, rfl, -, -⟩ := HX.out.s1
  obtain ⟨o2, k2, rfl, -, -⟩ := HX.out.s2
  obtain ⟨o3, k3, rfl, -, -⟩ := HX.out.s3
  obtain ⟨o4, k4, rfl, -, -⟩ := HX.out.s4
  obtain ⟨o5, k5, rfl, -, -⟩ := HX.out.s5
  clear hx
  obtain ⟨X, hX⟩ : ∃ X : It, X = ⟨Q, .slice o1 l1.length k1, .slice o2 l2.length k2, .slice o3 l3.length k3, .slice o4 l4.length k4, .slice o5 l5.length k5, l1, l2, l3, l4, l5⟩ := ⟨_, rfl⟩
  obtain ⟨N, hN⟩ : ∃ N, N = ts.length := ⟨_, rfl⟩
  have HN := hide hN
  have HXK : Hid (∀ wx, Below w.heap.size w wx → X.ok wx) := hide (fun wx h => by rw [hX]; exact HX.out.below h)
  have HXP : Hid (X.p = Q) := hide (by rw [hX])
  have HXV : Hid (X.val = .agg #[.int .i64 Q.ep, .slice o1 (List.length l1) k1, .slice o2 (List.length l2) k2, .slice o3 (List.length l3) k3, .slice o4 (List.length l4) k4, .slice o5 (List.length l5) k5, .int .i64 Q.dp, .int .i64 Q.nd, .int .i64 Q.bt]) := hide (by rw [hX])
  have HOK : Hid (∀ wx, Below w.heap.size w wx → ∀ t ∈ ts ++ [X], t.ok wx) := hide (fun wx h t ht => by
    rcases List.mem_append.1 ht with ht | ht
    · obtain ⟨j, hj⟩ := List.getElem?_of_mem ht
      obtain ⟨b, off, cp, -, -, -, hk⟩ := HV.out.at hj
      exact (hk j t hj).below h
    · rw [List.mem_singleton.1 ht]
      exact HXK.out wx h)
  have HXB : Hid (∀ (wx : World) (g : Nat), wx.heap[g]? = some (.cells #[.int .i64 Q.ep, .slice o1 (List.length l1) k1, .slice o2 (List.length l2) k2, .slice o3 (List.length l3) k3, .slice o4 (List.length l4) k4, .slice o5 (List.length l5) k5, .int .i64 Q.dp, .int .i64 Q.nd, .int .i64 Q.bt] 30 (0, 0)) → Below w.heap.size w wx → PolRow wx (.slice (some ⟨g, 0, none⟩) 1 1) [X]) := hide (fun wx g hg h => one_polRow (by rw [hX]; exact hg) (HXK.out wx h))
  obtain ⟨w1, hw1⟩ : ∃ w1, w1 = w.alloc (.cells #[.int .i64 Q.ep, .slice o1 (List.length l1) k1, .slice o2 (List.length l2) k2, .slice o3 (List.length l3) k3, .slice o4 (List.length l4) k4, .slice o5 (List.length l5) k5, .int .i64 Q.dp, .int .i64 Q.nd, .int .i64 Q.bt] 30) := ⟨_, rfl⟩
  have H1 : Hid (BoxP w #[.int .i64 Q.ep, .slice o1 (List.length l1) k1, .slice o2 (List.length l2) k2, .slice o3 (List.length l3) k3, .slice o4 (List.length l4) k4, .slice o5 (List.length l5) k5, .int .i64 Q.dp, .int .i64 Q.nd, .int .i64 Q.bt] w1) := hide (by rw [hw1]; exact ⟨new_block _ _ _, bel_alloc (Below.refl _ _) _⟩)
  have SK : Hid (∀ wx, BoxP w #[.int .i64 Q.ep, .slice o1 (List.length l1) k1, .slice o2 (List.length l2) k2, .slice o3 (List.length l3) k3, .slice o4 (List.length l4) k4, .slice o5 (List.length l5) k5, .int .i64 Q.dp, .int .i64 Q.nd, .int .i64 Q.bt] wx → wx.cell? ⟨w.heap.size, 0, none⟩ = some (.int .i64 Q.ep) ∧ wx.cell? ⟨w.heap.size, 1, none⟩ = some (.slice o1 (List.length l1) k1) ∧ wx.cell? ⟨w.heap.size, 2, none⟩ = some (.slice o2 (List.length l2) k2) ∧ wx.cell? ⟨w.heap.size, 3, none⟩ = some (.slice o3 (List.length l3) k3) ∧ wx.cell? ⟨w.heap.size, 4, none⟩ = some (.slice o4 (List.length l4) k4) ∧ wx.cell? ⟨w.heap.size, 5, none⟩ = some (.slice o5 (List.length l5) k5) ∧ wx.cell? ⟨w.heap.size, 6, none⟩ = some (.int .i64 Q.dp) ∧ wx.cell? ⟨w.heap.size, 7, none⟩ = some (.int .i64 Q.nd) ∧ wx.cell? ⟨w.heap.size, 8, none⟩ = some (.int .i64 Q.bt) ∧ Hid (BoxP w #[.int .i64 Q.ep, .slice o1 (List.length l1) k1, .slice o2 (List.length l2) k2, .slice o3 (List.length l3) k3, .slice o4 (List.length l4) k4, .slice o5 (List.length l5) k5, .int .i64 Q.dp, .int .i64 Q.nd, .int .i64 Q.bt] wx)) := hide (fun wx h => ⟨h.cell 0 _ rfl, h.cell 1 _ rfl, h.cell 2 _ rfl, h.cell 3 _ rfl, h.cell 4 _ rfl, h.cell 5 _ rfl, h.cell 6 _ rfl, h.cell 7 _ rfl, h.cell 8 _ rfl, hide h⟩)
  have CW := hide (awake_any hC hA w1)
  have HC := hide hC
  have HA := hide hA
  have HSZ := hide hsz
  rw [← hN] at HV hcap HSZ ⊢
  clear hC hA hsz hN hX
  go_enter Try.func4, Try.ntmps4
  go_upto_region 1 with fail
  rw [← hw1]
  clear hw1
  go_wp2_with fail
  refine CW.out.mono ?_
  rintro e w2 ⟨rfl, h2⟩
  have H2 := hide (H1.out.keep h2)
  clear h2 CW H1
  go_wp2_with fail
  go_cut [8] from 20 to 26 (fun v8 wx => ∃ b : Bool, v8 = .bool b ∧ Hid (BoxP w #[.int .i64 Q.ep, .slice o1 (List.length l1) k1, .slice o2 (List.length l2) k2, .slice o3 (List.length l3) k3, .slice o4 (List.length l4) k4, .slice o5 (List.length l5) k5, .int .i64 Q.dp, .int .i64 Q.nd, .int .i64 Q.bt] wx) ∧ Hid (b = true → N ≤ 11 ∧ (∀ t ∈ ts, light t.p) ∧ light Q))
  case first =>
    refine wp_region_held_drew (S := (fun wx => wx.cell? ⟨w.heap.size, 0, none⟩ = some (.int .i64 Q.ep) ∧ wx.cell? ⟨w.heap.size, 1, none⟩ = some (.slice o1 (List.length l1) k1) ∧ wx.cell? ⟨w.heap.size, 2, none⟩ = some (.slice o2 (List.length l2) k2) ∧ wx.cell? ⟨w.heap.size, 3, none⟩ = some (.slice o3 (List.length l3) k3) ∧ wx.cell? ⟨w.heap.size, 4, none⟩ = some (.slice o4 (List.length l4) k4) ∧ wx.cell? ⟨w.heap.size, 5, none⟩ = some (.slice o5 (List.length l5) k5) ∧ wx.cell? ⟨w.heap.size, 6, none⟩ = some (.int .i64 Q.dp) ∧ wx.cell? ⟨w.heap.size, 7, none⟩ = some (.int .i64 Q.nd) ∧ wx.cell? ⟨w.heap.size, 8, none⟩ = some (.int .i64 Q.bt) ∧ Hid (BoxP w #[.int .i64 Q.ep, .slice o1 (List.length l1) k1, .slice o2 (List.length l2) k2, .slice o3 (List.length l3) k3, .slice o4 (List.length l4) k4, .slice o5 (List.length l5) k5, .int .i64 Q.dp, .int .i64 Q.nd, .int .i64 Q.bt] wx))) (by kernel_rfl) (SK.out _ (H2.out.keep ((Below.refl _ _).drew))) (fun hHeld => ?_)
    obtain ⟨W0, hW0⟩ : ∃ W0, W0 = w2.drew := ⟨_, rfl⟩
    have HW0 : Hid (BoxP w #[.int .i64 Q.ep, .slice o1 (List.length l1) k1, .slice o2 (List.length l2) k2, .slice o3 (List.length l3) k3, .slice o4 (List.length l4) k4, .slice o5 (List.length l5) k5, .int .i64 Q.dp, .int .i64 Q.nd, .int .i64 Q.bt] W0) := hide (by rw [hW0]; exact H2.out.keep ((Below.refl _ _).drew))
    rw [← hW0] at hHeld ⊢
    clear hW0
    refine wpAnyH_at (i := 1) (v := ?vr1) (a1 := ?xr1) rfl (by kernel_rfl) (by kernel_rfl) (by kernel_rfl) (fun _ _ _ h => h) (Or.inl ⟨by rfl, ?yr1⟩) (by assumption) ?hr1 ?zr1
    case yr1 => (intro w hSw; (try dsimp only at hSw); go_simp; try (with_reducible rfl))
    case hr1 => (go_simp; exact rfl)
    case zr1 =>
    refine wpAnyH_at (i := 3) (v := ?vr3) (a1 := ?xr3) rfl (by kernel_rfl) (by kernel_rfl) (by kernel_rfl) (fun _ _ _ h => h) (Or.inl ⟨by rfl, ?yr3⟩) (by assumption) ?hr3 ?zr3
    case yr3 => (intro w hSw; (try dsimp only at hSw); go_simp; try (with_reducible rfl))
    case hr3 => (go_simp; exact rfl)
    case zr3 =>
    refine wpAnyH_ready (rs := [0, 4]) (by kernel_rfl) (by simp) ?_
    refine AllReadyH.cons rfl (fun K hK => ?_) (AllReadyH.cons rfl (fun K hK => ?_) AllReadyH.nil)
    focus
      go_simp
      refine hK.out _ _ (SK.out _ (HW0.out.keep (bel_alloc (Below.refl _ _) _))) (fun hHeld2 => ?_)
      clear hK K hHeld
      obtain ⟨wa, hn⟩ : ∃ wa, wa = W0.alloc (.cells #[] 30) := ⟨_, rfl⟩
      have Hwa : Hid (BoxP w #[.int .i64 Q.ep, .slice o1 (List.length l1) k1, .slice o2 (List.length l2) k2, .slice o3 (List.length l3) k3, .slice o4 (List.length l4) k4, .slice o5 (List.length l5) k5, .int .i64 Q.dp, .int .i64 Q.nd, .int .i64 Q.bt] wa) := hide (by rw [hn]; exact HW0.out.keep (bel_alloc (Below.refl _ _) _))
      have Owa : Hid (wa.ownsRow (w.heap.size + 1) 30 9 (.slice (some ⟨W0.heap.size, 0, none⟩) 0 0) 0 []) := hide (by rw [hn]; exact World.ownsRow_made W0 #[] 0 HW0.out.lt (by decide) rfl)
      rw [← hn] at hHeld2 ⊢
      clear hn
      have hHeld := hHeld2
      clear hHeld2
      refine wpAnyH_ready (rs := [2, 4]) (by kernel_rfl) (by simp) ?_
      refine AllReadyH.cons rfl (fun K hK => ?_) (AllReadyH.cons rfl (fun K hK => ?_) AllReadyH.nil)
      focus
        rw [if_pos (by rfl)]
        refine wp_append_pols _ _ rfl wa (w.heap.size + 1) (by have := Hwa.out.lt; omega) (.slice (some ⟨W0.heap.size, 0, none⟩) 0 0) (.slice p N cap) [] ts rfl rfl Owa.out (HV.out.below Hwa.out.2) (by have := HSZ.out; have := HN.out; simp only [List.length_nil]; omega) ?_
        intro u wb ho hg
        rw [List.nil_append, ← HN.out] at ho
        obtain ⟨pp, cc, rfl, -⟩ := own_shape ho
        have Hwb : Hid (BoxP w #[.int .i64 Q.ep, .slice o1 (List.length l1) k1, .slice o2 (List.length l2) k2, .slice o3 (List.length l3) k3, .slice o4 (List.length l4) k4, .slice o5 (List.length l5) k5, .int .i64 Q.dp, .int .i64 Q.nd, .int .i64 Q.bt] wb) := hide (Hwa.out.grown hg (own_row_block Owa.out))
        have Owb := hide ho
        refine hK.out _ _ (SK.out _ Hwb.out) (fun hHeld2 => ?_)
        clear hK K hHeld hg ho
        have hHeld := hHeld2
        clear hHeld2
        refine wpAnyH_ready (rs := [4]) (by kernel_rfl) (by simp) ?_
        refine AllReadyH.cons rfl (fun K hK => ?_) AllReadyH.nil
        go_simp
        refine hK.out _ _ (SK.out _ (Hwb.out.keep (bel_alloc (Below.refl _ _) _))) (fun hHeld2 => ?_)
        clear hK K hHeld
        obtain ⟨wd, hn⟩ : ∃ wd, wd = wb.alloc (.cells #[.int .i64 Q.ep, .slice o1 (List.length l1) k1, .slice o2 (List.length l2) k2, .slice o3 (List.length l3) k3, .slice o4 (List.length l4) k4, .slice o5 (List.length l5) k5, .int .i64 Q.dp, .int .i64 Q.nd, .int .i64 Q.bt] 30) := ⟨_, rfl⟩
        have Hwd : Hid (BoxP w #[.int .i64 Q.ep, .slice o1 (List.length l1) k1, .slice o2 (List.length l2) k2, .slice o3 (List.length l3) k3, .slice o4 (List.length l4) k4, .slice o5 (List.length l5) k5, .int .i64 Q.dp, .int .i64 Q.nd, .int .i64 Q.bt] wd) := hide (by rw [hn]; exact Hwb.out.keep (bel_alloc (Below.refl _ _) _))
        have Owd : Hid (wd.ownsRow (w.heap.size + 1) 30 9 (.slice pp N cc) N (flat ts)) := hide (by rw [hn]; exact Owb.out.alloc _)
        have Xwd : Hid (wd.heap[wb.heap.size]? = some (.cells #[.int .i64 Q.ep, .slice o1 (List.length l1) k1, .slice o2 (List.length l2) k2, .slice o3 (List.length l3) k3, .slice o4 (List.length l4) k4, .slice o5 (List.length l5) k5, .int .i64 Q.dp, .int .i64 Q.nd, .int .i64 Q.bt] 30 (0, 0)) ∧ True ∧ w.heap.size < wd.heap.size) := hide ⟨by rw [hn]; exact new_block _ _ _, trivial, Hwd.out.lt⟩
        rw [← hn] at hHeld2 ⊢
        clear hn
        have hHeld := hHeld2
        clear hHeld2
        refine wpAnyH_ready (rs := [5]) (by kernel_rfl) (by simp) ?_
        refine AllReadyH.cons rfl (fun K hK => ?_) AllReadyH.nil
        rw [if_pos (by rfl)]
        refine wp_append_pols _ _ rfl wd (w.heap.size + 1) (by have := Hwd.out.lt; omega) (.slice pp N cc) (.slice (some ⟨wb.heap.size, 0, none⟩) 1 1) ts [X] rfl rfl (by rw [← HN.out]; exact Owd.out) (HXB.out wd _ Xwd.out.1 Hwd.out.2) (by have := HSZ.out; have := HN.out; simp only [List.length_cons, List.length_nil]; omega) ?_
        intro u we ho hg
        obtain ⟨MM, hMM⟩ : ∃ MM, MM = (ts ++ [X]).length := ⟨_, rfl⟩
        have HMM : Hid (MM = N + 1) := hide (by rw [hMM, List.length_append, ← HN.out]; rfl)
        have Hwe : Hid (BoxP w #[.int .i64 Q.ep, .slice o1 (List.length l1) k1, .slice o2 (List.length l2) k2, .slice o3 (List.length l3) k3, .slice o4 (List.length l4) k4, .slice o5 (List.length l5) k5, .int .i64 Q.dp, .int .i64 Q.nd, .int .i64 Q.bt] we) := hide (Hwd.out.grown hg (own_row_block Owd.out))
        have HR : Hid (OwnP we (w.heap.size + 1) u (ts ++ [X])) := hide ⟨ho, HOK.out we Hwe.out.2⟩
        obtain ⟨pf, cf, hu, -⟩ := own_shape ho
        rw [← hMM, HMM.out] at hu
        subst hu
        refine hK.out _ _ (SK.out _ Hwe.out) (fun hHeld2 => ?_)
        clear hK K hHeld hg ho hMM HMM
        have hHeld := hHeld2
        clear hHeld2
        have CLI := hide (rlightl_any (.slice pf (N + 1) cf) (ts ++ [X]) we HR.out.row)
        refine wpAnyH_ready (rs := [6]) (by kernel_rfl) (by simp) ?_
        refine AllReadyH.cons rfl (fun K hK => ?_) AllReadyH.nil
        go_simp
        refine CLI.out.mono ?_
        rintro e wl ⟨⟨b, rfl, hb⟩, hbl⟩
        have HWL := hide (Hwe.out.keep hbl)
        have HBB : Hid (b = true → N ≤ 11 ∧ (∀ t ∈ ts, light t.p) ∧ light Q) := hide (fun e => by
          obtain ⟨h1, h2⟩ := hb e
          rw [List.length_append, ← HN.out] at h1
          refine ⟨by simpa using h1, fun t ht => h2 t (List.mem_append_left _ ht), ?_⟩
          have := h2 X (List.mem_append_right _ (List.mem_singleton.2 rfl))
          rwa [HXP.out] at this)
        try go_wp2_with fail
        refine hK.out _ _ (SK.out _ HWL.out) (fun hHeld2 => ?_)
        clear hK K hHeld hb hbl CLI HR
        refine wpAnyH_at (i := 7) (v := ?vra7) (a1 := ?xra7) rfl (by kernel_rfl) (by kernel_rfl) (by kernel_rfl) (fun _ _ _ h => h) (Or.inl ⟨by rfl, ?yra7⟩) (by assumption) ?hra7 ?zra7
        case yra7 => (intro w hSw; (try dsimp only at hSw); go_simp; try (with_reducible rfl))
        case hra7 => (go_simp; exact rfl)
        case zra7 =>
        refine wpAnyH_done (by kernel_rfl) ?_ _
        go_wp2_with fail
        go_meet
        exact ⟨b, rfl, HWL, HBB⟩
      focus
        go_simp
        refine hK.out _ _ (SK.out _ (Hwa.out.keep (bel_alloc (Below.refl _ _) _))) (fun hHeld2 => ?_)
        clear hK K hHeld
        obtain ⟨wb, hn⟩ : ∃ wb, wb = wa.alloc (.cells #[.int .i64 Q.ep, .slice o1 (List.length l1) k1, .slice o2 (List.length l2) k2, .slice o3 (List.length l3) k3, .slice o4 (List.length l4) k4, .slice o5 (List.length l5) k5, .int .i64 Q.dp, .int .i64 Q.nd, .int .i64 Q.bt] 30) := ⟨_, rfl⟩
        have Hwb : Hid (BoxP w #[.int .i64 Q.ep, .slice o1 (List.length l1) k1, .slice o2 (List.length l2) k2, .slice o3 (List.length l3) k3, .slice o4 (List.length l4) k4, .slice o5 (List.length l5) k5, .int .i64 Q.dp, .int .i64 Q.nd, .int .i64 Q.bt] wb) := hide (by rw [hn]; exact Hwa.out.keep (bel_alloc (Below.refl _ _) _))
        have Owb : Hid (wb.ownsRow (w.heap.size + 1) 30 9 (.slice (some ⟨W0.heap.size, 0, none⟩) 0 0) 0 []) := hide (by rw [hn]; exact Owa.out.alloc _)
        have Xwb : Hid (wb.heap[wa.heap.size]? = some (.cells #[.int .i64 Q.ep, .slice o1 (List.length l1) k1, .slice o2 (List.length l2) k2, .slice o3 (List.length l3) k3, .slice o4 (List.length l4) k4, .slice o5 (List.length l5) k5, .int .i64 Q.dp, .int .i64 Q.nd, .int .i64 Q.bt] 30 (0, 0)) ∧ wa.heap.size ≠ W0.heap.size ∧ w.heap.size < wb.heap.size) := hide ⟨by rw [hn]; exact new_block _ _ _, by have := (Owa.out.lt (W0.heap.size) rfl).2; omega, Hwb.out.lt⟩
        rw [← hn] at hHeld2 ⊢
        clear hn
        have hHeld := hHeld2
        clear hHeld2
        refine wpAnyH_ready (rs := [2]) (by kernel_rfl) (by simp) ?_
        refine AllReadyH.cons rfl (fun K hK => ?_) AllReadyH.nil
        rw [if_pos (by rfl)]
        refine wp_append_pols _ _ rfl wb (w.heap.size + 1) (by have := Hwb.out.lt; omega) (.slice (some ⟨W0.heap.size, 0, none⟩) 0 0) (.slice p N cap) [] ts rfl rfl Owb.out (HV.out.below Hwb.out.2) (by have := HSZ.out; have := HN.out; simp only [List.length_nil]; omega) ?_
        intro u wd ho hg
        rw [List.nil_append, ← HN.out] at ho
        obtain ⟨pp, cc, rfl, -⟩ := own_shape ho
        have Hwd : Hid (BoxP w #[.int .i64 Q.ep, .slice o1 (List.length l1) k1, .slice o2 (List.length l2) k2, .slice o3 (List.length l3) k3, .slice o4 (List.length l4) k4, .slice o5 (List.length l5) k5, .int .i64 Q.dp, .int .i64 Q.nd, .int .i64 Q.bt] wd) := hide (Hwb.out.grown hg (own_row_block Owb.out))
        have Owd := hide ho
        have Xwd : Hid (wd.heap[wa.heap.size]? = some (.cells #[.int .i64 Q.ep, .slice o1 (List.length l1) k1, .slice o2 (List.length l2) k2, .slice o3 (List.length l3) k3, .slice o4 (List.length l4) k4, .slice o5 (List.length l5) k5, .int .i64 Q.dp, .int .i64 Q.nd, .int .i64 Q.bt] 30 (0, 0)) ∧ True ∧ w.heap.size < wd.heap.size) := hide ⟨(hg.block _ (Array.getElem?_eq_some_iff.1 Xwb.out.1).1 (fun e => Xwb.out.2.1 (Option.some.inj e))).trans Xwb.out.1, trivial, Hwd.out.lt⟩
        refine hK.out _ _ (SK.out _ Hwd.out) (fun hHeld2 => ?_)
        clear hK K hHeld hg ho
        have hHeld := hHeld2
        clear hHeld2
        refine wpAnyH_ready (rs := [5]) (by kernel_rfl) (by simp) ?_
        refine AllReadyH.cons rfl (fun K hK => ?_) AllReadyH.nil
        rw [if_pos (by rfl)]
        refine wp_append_pols _ _ rfl wd (w.heap.size + 1) (by have := Hwd.out.lt; omega) (.slice pp N cc) (.slice (some ⟨wa.heap.size, 0, none⟩) 1 1) ts [X] rfl rfl (by rw [← HN.out]; exact Owd.out) (HXB.out wd _ Xwd.out.1 Hwd.out.2) (by have := HSZ.out; have := HN.out; simp only [List.length_cons, List.length_nil]; omega) ?_
        intro u we ho hg
        obtain ⟨MM, hMM⟩ : ∃ MM, MM = (ts ++ [X]).length := ⟨_, rfl⟩
        have HMM : Hid (MM = N + 1) := hide (by rw [hMM, List.length_append, ← HN.out]; rfl)
        have Hwe : Hid (BoxP w #[.int .i64 Q.ep, .slice o1 (List.length l1) k1, .slice o2 (List.length l2) k2, .slice o3 (List.length l3) k3, .slice o4 (List.length l4) k4, .slice o5 (List.length l5) k5, .int .i64 Q.dp, .int .i64 Q.nd, .int .i64 Q.bt] we) := hide (Hwd.out.grown hg (own_row_block Owd.out))
        have HR : Hid (OwnP we (w.heap.size + 1) u (ts ++ [X])) := hide ⟨ho, HOK.out we Hwe.out.2⟩
        obtain ⟨pf, cf, hu, -⟩ := own_shape ho
        rw [← hMM, HMM.out] at hu
        subst hu
        refine hK.out _ _ (SK.out _ Hwe.out) (fun hHeld2 => ?_)
        clear hK K hHeld hg ho hMM HMM
        have hHeld := hHeld2
        clear hHeld2
        have CLI := hide (rlightl_any (.slice pf (N + 1) cf) (ts ++ [X]) we HR.out.row)
        refine wpAnyH_ready (rs := [6]) (by kernel_rfl) (by simp) ?_
        refine AllReadyH.cons rfl (fun K hK => ?_) AllReadyH.nil
        go_simp
        refine CLI.out.mono ?_
        rintro e wl ⟨⟨b, rfl, hb⟩, hbl⟩
        have HWL := hide (Hwe.out.keep hbl)
        have HBB : Hid (b = true → N ≤ 11 ∧ (∀ t ∈ ts, light t.p) ∧ light Q) := hide (fun e => by
          obtain ⟨h1, h2⟩ := hb e
          rw [List.length_append, ← HN.out] at h1
          refine ⟨by simpa using h1, fun t ht => h2 t (List.mem_append_left _ ht), ?_⟩
          have := h2 X (List.mem_append_right _ (List.mem_singleton.2 rfl))
          rwa [HXP.out] at this)
        try go_wp2_with fail
        refine hK.out _ _ (SK.out _ HWL.out) (fun hHeld2 => ?_)
        clear hK K hHeld hb hbl CLI HR
        refine wpAnyH_at (i := 7) (v := ?vrb7) (a1 := ?xrb7) rfl (by kernel_rfl) (by kernel_rfl) (by kernel_rfl) (fun _ _ _ h => h) (Or.inl ⟨by rfl, ?yrb7⟩) (by assumption) ?hrb7 ?zrb7
        case yrb7 => (intro w hSw; (try dsimp only at hSw); go_simp; try (with_reducible rfl))
        case hrb7 => (go_simp; exact rfl)
        case zrb7 =>
        refine wpAnyH_done (by kernel_rfl) ?_ _
        go_wp2_with fail
        go_meet
        exact ⟨b, rfl, HWL, HBB⟩
    focus
      go_simp
      refine hK.out _ _ (SK.out _ (HW0.out.keep (bel_alloc (Below.refl _ _) _))) (fun hHeld2 => ?_)
      clear hK K hHeld
      obtain ⟨wa, hn⟩ : ∃ wa, wa = W0.alloc (.cells #[.int .i64 Q.ep, .slice o1 (List.length l1) k1, .slice o2 (List.length l2) k2, .slice o3 (List.length l3) k3, .slice o4 (List.length l4) k4, .slice o5 (List.length l5) k5, .int .i64 Q.dp, .int .i64 Q.nd, .int .i64 Q.bt] 30) := ⟨_, rfl⟩
      have Hwa : Hid (BoxP w #[.int .i64 Q.ep, .slice o1 (List.length l1) k1, .slice o2 (List.length l2) k2, .slice o3 (List.length l3) k3, .slice o4 (List.length l4) k4, .slice o5 (List.length l5) k5, .int .i64 Q.dp, .int .i64 Q.nd, .int .i64 Q.bt] wa) := hide (by rw [hn]; exact HW0.out.keep (bel_alloc (Below.refl _ _) _))
      have Xwa : Hid (wa.heap[W0.heap.size]? = some (.cells #[.int .i64 Q.ep, .slice o1 (List.length l1) k1, .slice o2 (List.length l2) k2, .slice o3 (List.length l3) k3, .slice o4 (List.length l4) k4, .slice o5 (List.length l5) k5, .int .i64 Q.dp, .int .i64 Q.nd, .int .i64 Q.bt] 30 (0, 0)) ∧ True ∧ w.heap.size < wa.heap.size) := hide ⟨by rw [hn]; exact new_block _ _ _, trivial, Hwa.out.lt⟩
      rw [← hn] at hHeld2 ⊢
      clear hn
      have hHeld := hHeld2
      clear hHeld2
      refine wpAnyH_ready (rs := [0]) (by kernel_rfl) (by simp) ?_
      refine AllReadyH.cons rfl (fun K hK => ?_) AllReadyH.nil
      go_simp
      refine hK.out _ _ (SK.out _ (Hwa.out.keep (bel_alloc (Below.refl _ _) _))) (fun hHeld2 => ?_)
      clear hK K hHeld
      obtain ⟨wb, hn⟩ : ∃ wb, wb = wa.alloc (.cells #[] 30) := ⟨_, rfl⟩
      have Hwb : Hid (BoxP w #[.int .i64 Q.ep, .slice o1 (List.length l1) k1, .slice o2 (List.length l2) k2, .slice o3 (List.length l3) k3, .slice o4 (List.length l4) k4, .slice o5 (List.length l5) k5, .int .i64 Q.dp, .int .i64 Q.nd, .int .i64 Q.bt] wb) := hide (by rw [hn]; exact Hwa.out.keep (bel_alloc (Below.refl _ _) _))
      have Owb : Hid (wb.ownsRow (w.heap.size + 1) 30 9 (.slice (some ⟨wa.heap.size, 0, none⟩) 0 0) 0 []) := hide (by rw [hn]; exact World.ownsRow_made wa #[] 0 Hwa.out.lt (by decide) rfl)
      have Xwb : Hid (wb.heap[W0.heap.size]? = some (.cells #[.int .i64 Q.ep, .slice o1 (List.length l1) k1, .slice o2 (List.length l2) k2, .slice o3 (List.length l3) k3, .slice o4 (List.length l4) k4, .slice o5 (List.length l5) k5, .int .i64 Q.dp, .int .i64 Q.nd, .int .i64 Q.bt] 30 (0, 0)) ∧ W0.heap.size ≠ wa.heap.size ∧ w.heap.size < wb.heap.size) := hide (by
        have hlt := (Array.getElem?_eq_some_iff.1 Xwa.out.1).1
        exact ⟨by rw [hn]; exact (heap_alloc_old wa _ hlt).trans Xwa.out.1, by omega, Hwb.out.lt⟩)
      rw [← hn] at hHeld2 ⊢
      clear hn
      have hHeld := hHeld2
      clear hHeld2
      refine wpAnyH_ready (rs := [2]) (by kernel_rfl) (by simp) ?_
      refine AllReadyH.cons rfl (fun K hK => ?_) AllReadyH.nil
      rw [if_pos (by rfl)]
      refine wp_append_pols _ _ rfl wb (w.heap.size + 1) (by have := Hwb.out.lt; omega) (.slice (some ⟨wa.heap.size, 0, none⟩) 0 0) (.slice p N cap) [] ts rfl rfl Owb.out (HV.out.below Hwb.out.2) (by have := HSZ.out; have := HN.out; simp only [List.length_nil]; omega) ?_
      intro u wd ho hg
      rw [List.nil_append, ← HN.out] at ho
      obtain ⟨pp, cc, rfl, -⟩ := own_shape ho
      have Hwd : Hid (BoxP w #[.int .i64 Q.ep, .slice o1 (List.length l1) k1, .slice o2 (List.length l2) k2, .slice o3 (List.length l3) k3, .slice o4 (List.length l4) k4, .slice o5 (List.length l5) k5, .int .i64 Q.dp, .int .i64 Q.nd, .int .i64 Q.bt] wd) := hide (Hwb.out.grown hg (own_row_block Owb.out))
      have Owd := hide ho
      have Xwd : Hid (wd.heap[W0.heap.size]? = some (.cells #[.int .i64 Q.ep, .slice o1 (List.length l1) k1, .slice o2 (List.length l2) k2, .slice o3 (List.length l3) k3, .slice o4 (List.length l4) k4, .slice o5 (List.length l5) k5, .int .i64 Q.dp, .int .i64 Q.nd, .int .i64 Q.bt] 30 (0, 0)) ∧ True ∧ w.heap.size < wd.heap.size) := hide ⟨(hg.block _ (Array.getElem?_eq_some_iff.1 Xwb.out.1).1 (fun e => Xwb.out.2.1 (Option.some.inj e))).trans Xwb.out.1, trivial, Hwd.out.lt⟩
      refine hK.out _ _ (SK.out _ Hwd.out) (fun hHeld2 => ?_)
      clear hK K hHeld hg ho
      have hHeld := hHeld2
      clear hHeld2
      refine wpAnyH_ready (rs := [5]) (by kernel_rfl) (by simp) ?_
      refine AllReadyH.cons rfl (fun K hK => ?_) AllReadyH.nil
      rw [if_pos (by rfl)]
      refine wp_append_pols _ _ rfl wd (w.heap.size + 1) (by have := Hwd.out.lt; omega) (.slice pp N cc) (.slice (some ⟨W0.heap.size, 0, none⟩) 1 1) ts [X] rfl rfl (by rw [← HN.out]; exact Owd.out) (HXB.out wd _ Xwd.out.1 Hwd.out.2) (by have := HSZ.out; have := HN.out; simp only [List.length_cons, List.length_nil]; omega) ?_
      intro u we ho hg
      obtain ⟨MM, hMM⟩ : ∃ MM, MM = (ts ++ [X]).length := ⟨_, rfl⟩
      have HMM : Hid (MM = N + 1) := hide (by rw [hMM, List.length_append, ← HN.out]; rfl)
      have Hwe : Hid (BoxP w #[.int .i64 Q.ep, .slice o1 (List.length l1) k1, .slice o2 (List.length l2) k2, .slice o3 (List.length l3) k3, .slice o4 (List.length l4) k4, .slice o5 (List.length l5) k5, .int .i64 Q.dp, .int .i64 Q.nd, .int .i64 Q.bt] we) := hide (Hwd.out.grown hg (own_row_block Owd.out))
      have HR : Hid (OwnP we (w.heap.size + 1) u (ts ++ [X])) := hide ⟨ho, HOK.out we Hwe.out.2⟩
      obtain ⟨pf, cf, hu, -⟩ := own_shape ho
      rw [← hMM, HMM.out] at hu
      subst hu
      refine hK.out _ _ (SK.out _ Hwe.out) (fun hHeld2 => ?_)
      clear hK K hHeld hg ho hMM HMM
      have hHeld := hHeld2
      clear hHeld2
      have CLI := hide (rlightl_any (.slice pf (N + 1) cf) (ts ++ [X]) we HR.out.row)
      refine wpAnyH_ready (rs := [6]) (by kernel_rfl) (by simp) ?_
      refine AllReadyH.cons rfl (fun K hK => ?_) AllReadyH.nil
      go_simp
      refine CLI.out.mono ?_
      rintro e wl ⟨⟨b, rfl, hb⟩, hbl⟩
      have HWL := hide (Hwe.out.keep hbl)
      have HBB : Hid (b = true → N ≤ 11 ∧ (∀ t ∈ ts, light t.p) ∧ light Q) := hide (fun e => by
        obtain ⟨h1, h2⟩ := hb e
        rw [List.length_append, ← HN.out] at h1
        refine ⟨by simpa using h1, fun t ht => h2 t (List.mem_append_left _ ht), ?_⟩
        have := h2 X (List.mem_append_right _ (List.mem_singleton.2 rfl))
        rwa [HXP.out] at this)
      try go_wp2_with fail
      refine hK.out _ _ (SK.out _ HWL.out) (fun hHeld2 => ?_)
      clear hK K hHeld hb hbl CLI HR
      refine wpAnyH_at (i := 7) (v := ?vrc7) (a1 := ?xrc7) rfl (by kernel_rfl) (by kernel_rfl) (by kernel_rfl) (fun _ _ _ h => h) (Or.inl ⟨by rfl, ?yrc7⟩) (by assumption) ?hrc7 ?zrc7
      case yrc7 => (intro w hSw; (try dsimp only at hSw); go_simp; try (with_reducible rfl))
      case hrc7 => (go_simp; exact rfl)
      case zrc7 =>
      refine wpAnyH_done (by kernel_rfl) ?_ _
      go_wp2_with fail
      go_meet
      exact ⟨b, rfl, HWL, HBB⟩
  case rest =>
  obtain ⟨b, rfl, H3, HB⟩ := hcut
  clear H2
  obtain ⟨w3, hw3⟩ : ∃ w3, w3 = wc := ⟨_, rfl⟩
  subst hw3
  cases b with
  | false =>
    go_wp2_with fail
    go_ret
    exact ⟨rfl, H3.out.2⟩
  | true =>
    obtain ⟨hN11, hlt, hlq⟩ := HB.out rfl
    have HL : Hid (∀ t ∈ ts, fits t.p) := hide (light_all hlt)
    have HLQ : Hid (fits X.p) := hide (by rw [HXP.out]; exact light_fits hlq)
    clear hlt hlq HB
    go_upto_region 5 with fail
    go_cut [9] from 30 to 35 (fun v9 wx => ∃ pf cf, v9 = .slice pf (N + 1) cf ∧ Hid (BoxP w #[.int .i64 Q.ep, .slice o1 (List.length l1) k1, .slice o2 (List.length l2) k2, .slice o3 (List.length l3) k3, .slice o4 (List.length l4) k4, .slice o5 (List.length l5) k5, .int .i64 Q.dp, .int .i64 Q.nd, .int .i64 Q.bt] wx) ∧ Hid (PolRow wx (.slice pf (N + 1) cf) (ts ++ [X])))
    case first =>
      refine wp_region_held_drew (S := (fun wx => wx.cell? ⟨w.heap.size, 0, none⟩ = some (.int .i64 Q.ep) ∧ wx.cell? ⟨w.heap.size, 1, none⟩ = some (.slice o1 (List.length l1) k1) ∧ wx.cell? ⟨w.heap.size, 2, none⟩ = some (.slice o2 (List.length l2) k2) ∧ wx.cell? ⟨w.heap.size, 3, none⟩ = some (.slice o3 (List.length l3) k3) ∧ wx.cell? ⟨w.heap.size, 4, none⟩ = some (.slice o4 (List.length l4) k4) ∧ wx.cell? ⟨w.heap.size, 5, none⟩ = some (.slice o5 (List.length l5) k5) ∧ wx.cell? ⟨w.heap.size, 6, none⟩ = some (.int .i64 Q.dp) ∧ wx.cell? ⟨w.heap.size, 7, none⟩ = some (.int .i64 Q.nd) ∧ wx.cell? ⟨w.heap.size, 8, none⟩ = some (.int .i64 Q.bt) ∧ Hid (BoxP w #[.int .i64 Q.ep, .slice o1 (List.length l1) k1, .slice o2 (List.length l2) k2, .slice o3 (List.length l3) k3, .slice o4 (List.length l4) k4, .slice o5 (List.length l5) k5, .int .i64 Q.dp, .int .i64 Q.nd, .int .i64 Q.bt] wx))) (by kernel_rfl) (SK.out _ (H3.out.keep ((Below.refl _ _).drew))) (fun hHeld => ?_)
      obtain ⟨W0, hW0⟩ : ∃ W0, W0 = w3.drew := ⟨_, rfl⟩
      have HW0 : Hid (BoxP w #[.int .i64 Q.ep, .slice o1 (List.length l1) k1, .slice o2 (List.length l2) k2, .slice o3 (List.length l3) k3, .slice o4 (List.length l4) k4, .slice o5 (List.length l5) k5, .int .i64 Q.dp, .int .i64 Q.nd, .int .i64 Q.bt] W0) := hide (by rw [hW0]; exact H3.out.keep ((Below.refl _ _).drew))
      rw [← hW0] at hHeld ⊢
      clear hW0
      refine wpAnyH_at (i := 1) (v := ?vs1) (a1 := ?xs1) rfl (by kernel_rfl) (by kernel_rfl) (by kernel_rfl) (fun _ _ _ h => h) (Or.inl ⟨by rfl, ?ys1⟩) (by assumption) ?hs1 ?zs1
      case ys1 => (intro w hSw; (try dsimp only at hSw); go_simp; try (with_reducible rfl))
      case hs1 => (go_simp; exact rfl)
      case zs1 =>
      refine wpAnyH_at (i := 3) (v := ?vs3) (a1 := ?xs3) rfl (by kernel_rfl) (by kernel_rfl) (by kernel_rfl) (fun _ _ _ h => h) (Or.inl ⟨by rfl, ?ys3⟩) (by assumption) ?hs3 ?zs3
      case ys3 => (intro w hSw; (try dsimp only at hSw); go_simp; try (with_reducible rfl))
      case hs3 => (go_simp; exact rfl)
      case zs3 =>
      refine wpAnyH_ready (rs := [0, 4]) (by kernel_rfl) (by simp) ?_
      refine AllReadyH.cons rfl (fun K hK => ?_) (AllReadyH.cons rfl (fun K hK => ?_) AllReadyH.nil)
      focus
        go_simp
        refine hK.out _ _ (SK.out _ (HW0.out.keep (bel_alloc (Below.refl _ _) _))) (fun hHeld2 => ?_)
        clear hK K hHeld
        obtain ⟨wa, hn⟩ : ∃ wa, wa = W0.alloc (.cells #[] 30) := ⟨_, rfl⟩
        have Hwa : Hid (BoxP w #[.int .i64 Q.ep, .slice o1 (List.length l1) k1, .slice o2 (List.length l2) k2, .slice o3 (List.length l3) k3, .slice o4 (List.length l4) k4, .slice o5 (List.length l5) k5, .int .i64 Q.dp, .int .i64 Q.nd, .int .i64 Q.bt] wa) := hide (by rw [hn]; exact HW0.out.keep (bel_alloc (Below.refl _ _) _))
        have Owa : Hid (wa.ownsRow (w.heap.size + 1) 30 9 (.slice (some ⟨W0.heap.size, 0, none⟩) 0 0) 0 []) := hide (by rw [hn]; exact World.ownsRow_made W0 #[] 0 HW0.out.lt (by decide) rfl)
        rw [← hn] at hHeld2 ⊢
        clear hn
        have hHeld := hHeld2
        clear hHeld2
        refine wpAnyH_ready (rs := [2, 4]) (by kernel_rfl) (by simp) ?_
        refine AllReadyH.cons rfl (fun K hK => ?_) (AllReadyH.cons rfl (fun K hK => ?_) AllReadyH.nil)
        focus
          rw [if_pos (by rfl)]
          refine wp_append_pols _ _ rfl wa (w.heap.size + 1) (by have := Hwa.out.lt; omega) (.slice (some ⟨W0.heap.size, 0, none⟩) 0 0) (.slice p N cap) [] ts rfl rfl Owa.out (HV.out.below Hwa.out.2) (by have := HSZ.out; have := HN.out; simp only [List.length_nil]; omega) ?_
          intro u wb ho hg
          rw [List.nil_append, ← HN.out] at ho
          obtain ⟨pp, cc, rfl, -⟩ := own_shape ho
          have Hwb : Hid (BoxP w #[.int .i64 Q.ep, .slice o1 (List.length l1) k1, .slice o2 (List.length l2) k2, .slice o3 (List.length l3) k3, .slice o4 (List.length l4) k4, .slice o5 (List.length l5) k5, .int .i64 Q.dp, .int .i64 Q.nd, .int .i64 Q.bt] wb) := hide (Hwa.out.grown hg (own_row_block Owa.out))
          have Owb := hide ho
          refine hK.out _ _ (SK.out _ Hwb.out) (fun hHeld2 => ?_)
          clear hK K hHeld hg ho
          have hHeld := hHeld2
          clear hHeld2
          refine wpAnyH_ready (rs := [4]) (by kernel_rfl) (by simp) ?_
          refine AllReadyH.cons rfl (fun K hK => ?_) AllReadyH.nil
          go_simp
          refine hK.out _ _ (SK.out _ (Hwb.out.keep (bel_alloc (Below.refl _ _) _))) (fun hHeld2 => ?_)
          clear hK K hHeld
          obtain ⟨wd, hn⟩ : ∃ wd, wd = wb.alloc (.cells #[.int .i64 Q.ep, .slice o1 (List.length l1) k1, .slice o2 (List.length l2) k2, .slice o3 (List.length l3) k3, .slice o4 (List.length l4) k4, .slice o5 (List.length l5) k5, .int .i64 Q.dp, .int .i64 Q.nd, .int .i64 Q.bt] 30) := ⟨_, rfl⟩
          have Hwd : Hid (BoxP w #[.int .i64 Q.ep, .slice o1 (List.length l1) k1, .slice o2 (List.length l2) k2, .slice o3 (List.length l3) k3, .slice o4 (List.length l4) k4, .slice o5 (List.length l5) k5, .int .i64 Q.dp, .int .i64 Q.nd, .int .i64 Q.bt] wd) := hide (by rw [hn]; exact Hwb.out.keep (bel_alloc (Below.refl _ _) _))
          have Owd : Hid (wd.ownsRow (w.heap.size + 1) 30 9 (.slice pp N cc) N (flat ts)) := hide (by rw [hn]; exact Owb.out.alloc _)
          have Xwd : Hid (wd.heap[wb.heap.size]? = some (.cells #[.int .i64 Q.ep, .slice o1 (List.length l1) k1, .slice o2 (List.length l2) k2, .slice o3 (List.length l3) k3, .slice o4 (List.length l4) k4, .slice o5 (List.length l5) k5, .int .i64 Q.dp, .int .i64 Q.nd, .int .i64 Q.bt] 30 (0, 0)) ∧ True ∧ w.heap.size < wd.heap.size) := hide ⟨by rw [hn]; exact new_block _ _ _, trivial, Hwd.out.lt⟩
          rw [← hn] at hHeld2 ⊢
          clear hn
          have hHeld := hHeld2
          clear hHeld2
          refine wpAnyH_ready (rs := [5]) (by kernel_rfl) (by simp) ?_
          refine AllReadyH.cons rfl (fun K hK => ?_) AllReadyH.nil
          rw [if_pos (by rfl)]
          refine wp_append_pols _ _ rfl wd (w.heap.size + 1) (by have := Hwd.out.lt; omega) (.slice pp N cc) (.slice (some ⟨wb.heap.size, 0, none⟩) 1 1) ts [X] rfl rfl (by rw [← HN.out]; exact Owd.out) (HXB.out wd _ Xwd.out.1 Hwd.out.2) (by have := HSZ.out; have := HN.out; simp only [List.length_cons, List.length_nil]; omega) ?_
          intro u we ho hg
          obtain ⟨MM, hMM⟩ : ∃ MM, MM = (ts ++ [X]).length := ⟨_, rfl⟩
          have HMM : Hid (MM = N + 1) := hide (by rw [hMM, List.length_append, ← HN.out]; rfl)
          have Hwe : Hid (BoxP w #[.int .i64 Q.ep, .slice o1 (List.length l1) k1, .slice o2 (List.length l2) k2, .slice o3 (List.length l3) k3, .slice o4 (List.length l4) k4, .slice o5 (List.length l5) k5, .int .i64 Q.dp, .int .i64 Q.nd, .int .i64 Q.bt] we) := hide (Hwd.out.grown hg (own_row_block Owd.out))
          have HR : Hid (OwnP we (w.heap.size + 1) u (ts ++ [X])) := hide ⟨ho, HOK.out we Hwe.out.2⟩
          obtain ⟨pf, cf, hu, -⟩ := own_shape ho
          rw [← hMM, HMM.out] at hu
          subst hu
          refine hK.out _ _ (SK.out _ Hwe.out) (fun hHeld2 => ?_)
          clear hK K hHeld hg ho hMM HMM
          have hHeld := hHeld2
          clear hHeld2
          refine wpAnyH_at (i := 6) (v := ?vsa6) (a1 := ?xsa6) rfl (by kernel_rfl) (by kernel_rfl) (by kernel_rfl) (fun _ _ _ h => h) (Or.inl ⟨by rfl, ?ysa6⟩) (by assumption) ?hsa6 ?zsa6
          case ysa6 => (intro w hSw; (try dsimp only at hSw); go_simp; try (with_reducible rfl))
          case hsa6 => (go_simp; exact rfl)
          case zsa6 =>
          refine wpAnyH_done (by kernel_rfl) ?_ _
          go_wp2_with fail
          go_meet
          exact ⟨pf, cf, rfl, Hwe, hide HR.out.row⟩
        focus
          go_simp
          refine hK.out _ _ (SK.out _ (Hwa.out.keep (bel_alloc (Below.refl _ _) _))) (fun hHeld2 => ?_)
          clear hK K hHeld
          obtain ⟨wb, hn⟩ : ∃ wb, wb = wa.alloc (.cells #[.int .i64 Q.ep, .slice o1 (List.length l1) k1, .slice o2 (List.length l2) k2, .slice o3 (List.length l3) k3, .slice o4 (List.length l4) k4, .slice o5 (List.length l5) k5, .int .i64 Q.dp, .int .i64 Q.nd, .int .i64 Q.bt] 30) := ⟨_, rfl⟩
          have Hwb : Hid (BoxP w #[.int .i64 Q.ep, .slice o1 (List.length l1) k1, .slice o2 (List.length l2) k2, .slice o3 (List.length l3) k3, .slice o4 (List.length l4) k4, .slice o5 (List.length l5) k5, .int .i64 Q.dp, .int .i64 Q.nd, .int .i64 Q.bt] wb) := hide (by rw [hn]; exact Hwa.out.keep (bel_alloc (Below.refl _ _) _))
          have Owb : Hid (wb.ownsRow (w.heap.size + 1) 30 9 (.slice (some ⟨W0.heap.size, 0, none⟩) 0 0) 0 []) := hide (by rw [hn]; exact Owa.out.alloc _)
          have Xwb : Hid (wb.heap[wa.heap.size]? = some (.cells #[.int .i64 Q.ep, .slice o1 (List.length l1) k1, .slice o2 (List.length l2) k2, .slice o3 (List.length l3) k3, .slice o4 (List.length l4) k4, .slice o5 (List.length l5) k5, .int .i64 Q.dp, .int .i64 Q.nd, .int .i64 Q.bt] 30 (0, 0)) ∧ wa.heap.size ≠ W0.heap.size ∧ w.heap.size < wb.heap.size) := hide ⟨by rw [hn]; exact new_block _ _ _, by have := (Owa.out.lt (W0.heap.size) rfl).2; omega, Hwb.out.lt⟩
          rw [← hn] at hHeld2 ⊢
          clear hn
          have hHeld := hHeld2
          clear hHeld2
          refine wpAnyH_ready (rs := [2]) (by kernel_rfl) (by simp) ?_
          refine AllReadyH.cons rfl (fun K hK => ?_) AllReadyH.nil
          rw [if_pos (by rfl)]
          refine wp_append_pols _ _ rfl wb (w.heap.size + 1) (by have := Hwb.out.lt; omega) (.slice (some ⟨W0.heap.size, 0, none⟩) 0 0) (.slice p N cap) [] ts rfl rfl Owb.out (HV.out.below Hwb.out.2) (by have := HSZ.out; have := HN.out; simp only [List.length_nil]; omega) ?_
          intro u wd ho hg
          rw [List.nil_append, ← HN.out] at ho
          obtain ⟨pp, cc, rfl, -⟩ := own_shape ho
          have Hwd : Hid (BoxP w #[.int .i64 Q.ep, .slice o1 (List.length l1) k1, .slice o2 (List.length l2) k2, .slice o3 (List.length l3) k3, .slice o4 (List.length l4) k4, .slice o5 (List.length l5) k5, .int .i64 Q.dp, .int .i64 Q.nd, .int .i64 Q.bt] wd) := hide (Hwb.out.grown hg (own_row_block Owb.out))
          have Owd := hide ho
          have Xwd : Hid (wd.heap[wa.heap.size]? = some (.cells #[.int .i64 Q.ep, .slice o1 (List.length l1) k1, .slice o2 (List.length l2) k2, .slice o3 (List.length l3) k3, .slice o4 (List.length l4) k4, .slice o5 (List.length l5) k5, .int .i64 Q.dp, .int .i64 Q.nd, .int .i64 Q.bt] 30 (0, 0)) ∧ True ∧ w.heap.size < wd.heap.size) := hide ⟨(hg.block _ (Array.getElem?_eq_some_iff.1 Xwb.out.1).1 (fun e => Xwb.out.2.1 (Option.some.inj e))).trans Xwb.out.1, trivial, Hwd.out.lt⟩
          refine hK.out _ _ (SK.out _ Hwd.out) (fun hHeld2 => ?_)
          clear hK K hHeld hg ho
          have hHeld := hHeld2
          clear hHeld2
          refine wpAnyH_ready (rs := [5]) (by kernel_rfl) (by simp) ?_
          refine AllReadyH.cons rfl (fun K hK => ?_) AllReadyH.nil
          rw [if_pos (by rfl)]
          refine wp_append_pols _ _ rfl wd (w.heap.size + 1) (by have := Hwd.out.lt; omega) (.slice pp N cc) (.slice (some ⟨wa.heap.size, 0, none⟩) 1 1) ts [X] rfl rfl (by rw [← HN.out]; exact Owd.out) (HXB.out wd _ Xwd.out.1 Hwd.out.2) (by have := HSZ.out; have := HN.out; simp only [List.length_cons, List.length_nil]; omega) ?_
          intro u we ho hg
          obtain ⟨MM, hMM⟩ : ∃ MM, MM = (ts ++ [X]).length := ⟨_, rfl⟩
          have HMM : Hid (MM = N + 1) := hide (by rw [hMM, List.length_append, ← HN.out]; rfl)
          have Hwe : Hid (BoxP w #[.int .i64 Q.ep, .slice o1 (List.length l1) k1, .slice o2 (List.length l2) k2, .slice o3 (List.length l3) k3, .slice o4 (List.length l4) k4, .slice o5 (List.length l5) k5, .int .i64 Q.dp, .int .i64 Q.nd, .int .i64 Q.bt] we) := hide (Hwd.out.grown hg (own_row_block Owd.out))
          have HR : Hid (OwnP we (w.heap.size + 1) u (ts ++ [X])) := hide ⟨ho, HOK.out we Hwe.out.2⟩
          obtain ⟨pf, cf, hu, -⟩ := own_shape ho
          rw [← hMM, HMM.out] at hu
          subst hu
          refine hK.out _ _ (SK.out _ Hwe.out) (fun hHeld2 => ?_)
          clear hK K hHeld hg ho hMM HMM
          have hHeld := hHeld2
          clear hHeld2
          refine wpAnyH_at (i := 6) (v := ?vsb6) (a1 := ?xsb6) rfl (by kernel_rfl) (by kernel_rfl) (by kernel_rfl) (fun _ _ _ h => h) (Or.inl ⟨by rfl, ?ysb6⟩) (by assumption) ?hsb6 ?zsb6
          case ysb6 => (intro w hSw; (try dsimp only at hSw); go_simp; try (with_reducible rfl))
          case hsb6 => (go_simp; exact rfl)
          case zsb6 =>
          refine wpAnyH_done (by kernel_rfl) ?_ _
          go_wp2_with fail
          go_meet
          exact ⟨pf, cf, rfl, Hwe, hide HR.out.row⟩
      focus
        go_simp
        refine hK.out _ _ (SK.out _ (HW0.out.keep (bel_alloc (Below.refl _ _) _))) (fun hHeld2 => ?_)
        clear hK K hHeld
        obtain ⟨wa, hn⟩ : ∃ wa, wa = W0.alloc (.cells #[.int .i64 Q.ep, .slice o1 (List.length l1) k1, .slice o2 (List.length l2) k2, .slice o3 (List.length l3) k3, .slice o4 (List.length l4) k4, .slice o5 (List.length l5) k5, .int .i64 Q.dp, .int .i64 Q.nd, .int .i64 Q.bt] 30) := ⟨_, rfl⟩
        have Hwa : Hid (BoxP w #[.int .i64 Q.ep, .slice o1 (List.length l1) k1, .slice o2 (List.length l2) k2, .slice o3 (List.length l3) k3, .slice o4 (List.length l4) k4, .slice o5 (List.length l5) k5, .int .i64 Q.dp, .int .i64 Q.nd, .int .i64 Q.bt] wa) := hide (by rw [hn]; exact HW0.out.keep (bel_alloc (Below.refl _ _) _))
        have Xwa : Hid (wa.heap[W0.heap.size]? = some (.cells #[.int .i64 Q.ep, .slice o1 (List.length l1) k1, .slice o2 (List.length l2) k2, .slice o3 (List.length l3) k3, .slice o4 (List.length l4) k4, .slice o5 (List.length l5) k5, .int .i64 Q.dp, .int .i64 Q.nd, .int .i64 Q.bt] 30 (0, 0)) ∧ True ∧ w.heap.size < wa.heap.size) := hide ⟨by rw [hn]; exact new_block _ _ _, trivial, Hwa.out.lt⟩
        rw [← hn] at hHeld2 ⊢
        clear hn
        have hHeld := hHeld2
        clear hHeld2
        refine wpAnyH_ready (rs := [0]) (by kernel_rfl) (by simp) ?_
        refine AllReadyH.cons rfl (fun K hK => ?_) AllReadyH.nil
        go_simp
        refine hK.out _ _ (SK.out _ (Hwa.out.keep (bel_alloc (Below.refl _ _) _))) (fun hHeld2 => ?_)
        clear hK K hHeld
        obtain ⟨wb, hn⟩ : ∃ wb, wb = wa.alloc (.cells #[] 30) := ⟨_, rfl⟩
        have Hwb : Hid (BoxP w #[.int .i64 Q.ep, .slice o1 (List.length l1) k1, .slice o2 (List.length l2) k2, .slice o3 (List.length l3) k3, .slice o4 (List.length l4) k4, .slice o5 (List.length l5) k5, .int .i64 Q.dp, .int .i64 Q.nd, .int .i64 Q.bt] wb) := hide (by rw [hn]; exact Hwa.out.keep (bel_alloc (Below.refl _ _) _))
        have Owb : Hid (wb.ownsRow (w.heap.size + 1) 30 9 (.slice (some ⟨wa.heap.size, 0, none⟩) 0 0) 0 []) := hide (by rw [hn]; exact World.ownsRow_made wa #[] 0 Hwa.out.lt (by decide) rfl)
        have Xwb : Hid (wb.heap[W0.heap.size]? = some (.cells #[.int .i64 Q.ep, .slice o1 (List.length l1) k1, .slice o2 (List.length l2) k2, .slice o3 (List.length l3) k3, .slice o4 (List.length l4) k4, .slice o5 (List.length l5) k5, .int .i64 Q.dp, .int .i64 Q.nd, .int .i64 Q.bt] 30 (0, 0)) ∧ W0.heap.size ≠ wa.heap.size ∧ w.heap.size < wb.heap.size) := hide (by
          have hlt := (Array.getElem?_eq_some_iff.1 Xwa.out.1).1
          exact ⟨by rw [hn]; exact (heap_alloc_old wa _ hlt).trans Xwa.out.1, by omega, Hwb.out.lt⟩)
        rw [← hn] at hHeld2 ⊢
        clear hn
        have hHeld := hHeld2
        clear hHeld2
        refine wpAnyH_ready (rs := [2]) (by kernel_rfl) (by simp) ?_
        refine AllReadyH.cons rfl (fun K hK => ?_) AllReadyH.nil
        rw [if_pos (by rfl)]
        refine wp_append_pols _ _ rfl wb (w.heap.size + 1) (by have := Hwb.out.lt; omega) (.slice (some ⟨wa.heap.size, 0, none⟩) 0 0) (.slice p N cap) [] ts rfl rfl Owb.out (HV.out.below Hwb.out.2) (by have := HSZ.out; have := HN.out; simp only [List.length_nil]; omega) ?_
        intro u wd ho hg
        rw [List.nil_append, ← HN.out] at ho
        obtain ⟨pp, cc, rfl, -⟩ := own_shape ho
        have Hwd : Hid (BoxP w #[.int .i64 Q.ep, .slice o1 (List.length l1) k1, .slice o2 (List.length l2) k2, .slice o3 (List.length l3) k3, .slice o4 (List.length l4) k4, .slice o5 (List.length l5) k5, .int .i64 Q.dp, .int .i64 Q.nd, .int .i64 Q.bt] wd) := hide (Hwb.out.grown hg (own_row_block Owb.out))
        have Owd := hide ho
        have Xwd : Hid (wd.heap[W0.heap.size]? = some (.cells #[.int .i64 Q.ep, .slice o1 (List.length l1) k1, .slice o2 (List.length l2) k2, .slice o3 (List.length l3) k3, .slice o4 (List.length l4) k4, .slice o5 (List.length l5) k5, .int .i64 Q.dp, .int .i64 Q.nd, .int .i64 Q.bt] 30 (0, 0)) ∧ True ∧ w.heap.size < wd.heap.size) := hide ⟨(hg.block _ (Array.getElem?_eq_some_iff.1 Xwb.out.1).1 (fun e => Xwb.out.2.1 (Option.some.inj e))).trans Xwb.out.1, trivial, Hwd.out.lt⟩
        refine hK.out _ _ (SK.out _ Hwd.out) (fun hHeld2 => ?_)
        clear hK K hHeld hg ho
        have hHeld := hHeld2
        clear hHeld2
        refine wpAnyH_ready (rs := [5]) (by kernel_rfl) (by simp) ?_
        refine AllReadyH.cons rfl (fun K hK => ?_) AllReadyH.nil
        rw [if_pos (by rfl)]
        refine wp_append_pols _ _ rfl wd (w.heap.size + 1) (by have := Hwd.out.lt; omega) (.slice pp N cc) (.slice (some ⟨W0.heap.size, 0, none⟩) 1 1) ts [X] rfl rfl (by rw [← HN.out]; exact Owd.out) (HXB.out wd _ Xwd.out.1 Hwd.out.2) (by have := HSZ.out; have := HN.out; simp only [List.length_cons, List.length_nil]; omega) ?_
        intro u we ho hg
        obtain ⟨MM, hMM⟩ : ∃ MM, MM = (ts ++ [X]).length := ⟨_, rfl⟩
        have HMM : Hid (MM = N + 1) := hide (by rw [hMM, List.length_append, ← HN.out]; rfl)
        have Hwe : Hid (BoxP w #[.int .i64 Q.ep, .slice o1 (List.length l1) k1, .slice o2 (List.length l2) k2, .slice o3 (List.length l3) k3, .slice o4 (List.length l4) k4, .slice o5 (List.length l5) k5, .int .i64 Q.dp, .int .i64 Q.nd, .int .i64 Q.bt] we) := hide (Hwd.out.grown hg (own_row_block Owd.out))
        have HR : Hid (OwnP we (w.heap.size + 1) u (ts ++ [X])) := hide ⟨ho, HOK.out we Hwe.out.2⟩
        obtain ⟨pf, cf, hu, -⟩ := own_shape ho
        rw [← hMM, HMM.out] at hu
        subst hu
        refine hK.out _ _ (SK.out _ Hwe.out) (fun hHeld2 => ?_)
        clear hK K hHeld hg ho hMM HMM
        have hHeld := hHeld2
        clear hHeld2
        refine wpAnyH_at (i := 6) (v := ?vsc6) (a1 := ?xsc6) rfl (by kernel_rfl) (by kernel_rfl) (by kernel_rfl) (fun _ _ _ h => h) (Or.inl ⟨by rfl, ?ysc6⟩) (by assumption) ?hsc6 ?zsc6
        case ysc6 => (intro w hSw; (try dsimp only at hSw); go_simp; try (with_reducible rfl))
        case hsc6 => (go_simp; exact rfl)
        case zsc6 =>
        refine wpAnyH_done (by kernel_rfl) ?_ _
        go_wp2_with fail
        go_meet
        exact ⟨pf, cf, rfl, Hwe, hide HR.out.row⟩
    case rest =>
    obtain ⟨pf, cf, rfl, H4, HR⟩ := hcut
    obtain ⟨w4, hw4⟩ : ∃ w4, w4 = wc := ⟨_, rfl⟩
    subst hw4
    clear H3 HXB HOK
    have HFA : Hid ((∀ t ∈ ts ++ [X], fits t.p) ∧ (ts ++ [X]).length ≤ 100000 ∧ ts.length ≤ 1000) := hide (by
      refine ⟨fun t ht => ?_, ?_, ?_⟩
      · rcases List.mem_append.1 ht with ht | ht
        · exact HL.out t ht
        · rw [List.mem_singleton.1 ht]
          exact HLQ.out
      · rw [List.length_append, ← HN.out]
        simp
        omega
      · have := HN.out
        omega)
    have CA : Hid (Calls Try.prog 12 #[.slice p N cap, .agg #[.int .i64 Q.ep, .slice o1 (List.length l1) k1, .slice o2 (List.length l2) k2, .slice o3 (List.length l3) k3, .slice o4 (List.length l4) k4, .slice o5 (List.length l5) k5, .int .i64 Q.dp, .int .i64 Q.nd, .int .i64 Q.bt]] w4 fun e w' => (∃ (E n : Int) (u : Value), e = .returned (.tuple #[u, .int .i64 E]) ∧ Chk (ts.map It.p ++ [X.p]) E n ∧ (E = 0 → ∃ us, OwnP w' w4.heap.size u us ∧ us.map It.p = ts.map It.p ++ [X.p]) ∧ (E ≠ 0 → u = .slice none 0 0)) ∧ Below w4.heap.size w4 w') := hide (by
      have := HA.out (.slice p N cap) ts X w4 HL.out HLQ.out HFA.out.2.2 (HV.out.below H4.out.2) (HXK.out w4 H4.out.2)
      rw [HXV.out] at this
      exact this)
    have CD : Hid (∀ wx, BoxP w #[.int .i64 Q.ep, .slice o1 (List.length l1) k1, .slice o2 (List.length l2) k2, .slice o3 (List.length l3) k3, .slice o4 (List.length l4) k4, .slice o5 (List.length l5) k5, .int .i64 Q.dp, .int .i64 Q.nd, .int .i64 Q.bt] wx → Calls Try.prog 11 #[.slice p N cap] wx fun e w' => (∃ E n, e = .returned (.tuple #[.int .i64 E, .int .i64 n]) ∧ Chk (ts.map It.p) E n) ∧ Below wx.heap.size wx w') := hide (fun wx h => rcheck_any (.slice p N cap) ts wx HL.out (by have := HFA.out.2.2; omega) (HV.out.below h.2))
    have CE : Hid (∀ wx, Below w4.heap.size w4 wx → Calls Try.prog 11 #[.slice pf (N + 1) cf] wx fun e w' => (∃ E n, e = .returned (.tuple #[.int .i64 E, .int .i64 n]) ∧ Chk (ts.map It.p ++ [X.p]) E n) ∧ Below wx.heap.size wx w') := hide (fun wx h => by
      have := rcheck_any (.slice pf (N + 1) cf) (ts ++ [X]) wx HFA.out.1 HFA.out.2.1 (HR.out.below h)
      rw [List.map_append] at this
      exact this)
    obtain ⟨y0, y1, y2, y3, y4, y5, y6, y7, y8, -⟩ := SK.out w4 H4.out
    go_wp2_with fail
    refine CA.out.mono ?_
    rintro e w5 ⟨⟨E, n, u, rfl, hc, h0, h1⟩, h5⟩
    have H5 := hide (H4.out.keep h5)
    have HB5 := hide h5
    have HC5 := hide hc
    clear CA h5 hc y0 y1 y2 y3 y4 y5 y6 y7 y8
    by_cases hE : E = 0
    · subst hE
      obtain ⟨us, ho, hm⟩ := h0 rfl
      have HO := hide ho
      have HM := hide hm
      obtain ⟨q, c, rfl, -⟩ := own_shape ho.o
      clear h0 h1 ho hm
      go_wp2_with fail
      refine (CD.out _ H5.out).mono ?_
      rintro e w6 ⟨⟨F, m, rfl, hc⟩, h6⟩
      have hF : F = 0 := by
        by_cases h : F = 0
        · exact h
        · exact absurd (chk_app hc HC5.out h).symm h
      subst hF
      have H6 := hide (H5.out.keep h6)
      have HB6 := hide (bel2 HB5.out h6)
      have HO6 := hide (HO.out.below h6)
      clear h6 hc CD HO
      go_wp2_with fail
      refine (CE.out _ HB6.out).mono ?_
      rintro e w7 ⟨⟨G, m', rfl, hc⟩, h7⟩
      obtain ⟨rfl, -⟩ := chk_unique hc HC5.out
      have H7 := hide (H6.out.keep h7)
      have HB7 := hide (bel2 HB6.out h7)
      have HO7 := hide (HO6.out.below h7)
      clear h7 hc CE HO6
      have CS := hide (rsamel_any (.slice q us.length c) (.slice pf (N + 1) cf) us (ts ++ [X]) (by rw [HM.out, List.map_append]; rfl) (fun t ht => by
        have h1 : t.p ∈ us.map It.p := List.mem_map_of_mem ht
        rw [HM.out, show ts.map It.p ++ [X.p] = (ts ++ [X]).map It.p by rw [List.map_append]; rfl] at h1
        obtain ⟨y, hy, e⟩ := List.mem_map.1 h1
        rw [← e]
        exact HFA.out.1 y hy) (by
        have := congrArg List.length HM.out
        rw [List.length_map, List.length_append, List.length_map, ← HN.out] at this
        simp at this
        omega) w7 HO7.out.row (HR.out.below HB7.out))
      generalize us.length = uL at CS
      go_wp2_with fail
      refine CS.out.mono ?_
      rintro e w8 ⟨rfl, h8⟩
      have H8 := hide (H7.out.keep h8)
      clear h8 CS
      clear HO7 HM HB7 HB6 HB5 HC5 H5 H6 H7 HR HFA HLQ H4
      go_wp2_with fail
      rename_i kk
      refine (at_any (.slice p N cap) ts ep w8 HL.out (by have := HN.out; omega) (HV.out.below H8.out.2)).mono ?_
      rintro e wA ⟨hres, hA⟩
      have HA1 := hide (bel2 H8.out.2 hA)
      have HITE : Hid (∀ i, i < N → ∃ (t : It) (b off : Nat), ts[i]? = some t ∧ p = some ⟨b, off, none⟩ ∧ ∀ wx, Below w.heap.size w wx → (wx.rangeAt b (off + i * 9) t.cells ∧ t.ok wx)) := hide (fun i hi => by
        have hil : i < ts.length := by have := HN.out; omega
        have ht := List.getElem?_eq_getElem hil
        obtain ⟨b, off, cp, e, -, hr, hk⟩ := HV.out.at ht
        injection e with e
        exact ⟨ts[i], b, off, ht, e, fun wx h => ⟨range_keep (hr _ _ ht) h, (hk _ _ ht).below h⟩⟩)
      clear hA H8 SK HXK HXP HXV HA HC
      rcases hres with ⟨i0, t0, t', ht0, he0, hfirst, rfl, hp, hok⟩ | ⟨hnone, rfl⟩
      focus
        refine kk _ _ ?_
        clear kk
        obtain ⟨R, r1, r2, r3, r4, r5, n1, n2, n3, n4, n5⟩ := t'
        have HQ : Hid (PolV wA r1 r2 r3 r4 r5 R n1 n2 n3 n4 n5) := hide hok
        obtain ⟨p1, q1, rfl, -, -⟩ := HQ.out.s1
        obtain ⟨p2, q2, rfl, -, -⟩ := HQ.out.s2
        obtain ⟨p3, q3, rfl, -, -⟩ := HQ.out.s3
        obtain ⟨p4, q4, rfl, -, -⟩ := HQ.out.s4
        obtain ⟨p5, q5, rfl, -, -⟩ := HQ.out.s5
        obtain ⟨wB, hwB⟩ : ∃ wB, wB = wA.alloc (.cells #[.int .i64 R.ep, .slice p1 (List.length n1) q1, .slice p2 (List.length n2) q2, .slice p3 (List.length n3) q3, .slice p4 (List.length n4) q4, .slice p5 (List.length n5) q5, .int .i64 R.dp, .int .i64 R.nd, .int .i64 R.bt] 30) := ⟨_, rfl⟩
        have HBX : Hid (BoxP wA #[.int .i64 R.ep, .slice p1 (List.length n1) q1, .slice p2 (List.length n2) q2, .slice p3 (List.length n3) q3, .slice p4 (List.length n4) q4, .slice p5 (List.length n5) q5, .int .i64 R.dp, .int .i64 R.nd, .int .i64 R.bt] wB) := hide (by rw [hwB]; exact ⟨new_block _ _ _, bel_alloc (Below.refl _ _) _⟩)
        have HFI := hide hfirst
        have HT0 := hide ht0
        have HE0 := hide he0
        have HRP : Hid (R = t0.p) := hide hp
        have hi0 : i0 < N := by have := (List.getElem?_eq_some_iff.1 ht0).1; have := HN.out; omega
        clear hok hfirst ht0 he0 hp
        go_upto_region 17 with fail
        rw [← hwB]
        clear hwB
        go_wp2_with fail
        go_loopg [17] N (fun g v17 wx => ∃ i : Nat, i + g = N ∧ i ≤ i0 ∧ v17 = .int .i64 (i : Int) ∧ Hid (BoxP wA #[.int .i64 R.ep, .slice p1 (List.length n1) q1, .slice p2 (List.length n2) q2, .slice p3 (List.length n3) q3, .slice p4 (List.length n4) q4, .slice p5 (List.length n5) q5, .int .i64 R.dp, .int .i64 R.nd, .int .i64 R.bt] wx))
        case atStart => exact ⟨0, by omega, by omega, rfl, HBX⟩
        case round =>
          obtain ⟨i, hi, hii, rfl, HU⟩ := hrel
          clear HBX
          obtain ⟨t, b, off, ht, rfl, hrk⟩ := HITE.out i (by omega)
          have HRK := hide hrk
          have HTI := hide ht
          have hiN : i < N := by omega
          clear hrk ht
          obtain ⟨y0, -⟩ := nine (HRK.out _ (bel2 HA1.out HU.out.2)).1
          by_cases hei : t.p.ep = ep
          · have hii0 : i = i0 := by
              by_cases h : i < i0
              · exact absurd hei (HFI.out i t h HTI.out)
              · omega
            have hRt : R = t.p := by
              have h1 := HT0.out
              rw [← hii0, HTI.out] at h1
              rw [HRP.out, Option.some.inj h1]
            have hft := HL.out t (List.mem_of_getElem? HTI.out)
            have heq : (t.p.ep == ep) = true := by simpa using hei
            have CS : Hid (∀ wx, BoxP wA #[.int .i64 R.ep, .slice p1 (List.length n1) q1, .slice p2 (List.length n2) q2, .slice p3 (List.length n3) q3, .slice p4 (List.length n4) q4, .slice p5 (List.length n5) q5, .int .i64 R.dp, .int .i64 R.nd, .int .i64 R.bt] wx → Calls Try.prog 15 #[pval R (.slice p1 n1.length q1) (.slice p2 n2.length q2) (.slice p3 n3.length q3) (.slice p4 n4.length q4) (.slice p5 n5.length q5), t.val] wx fun e w' => e = .returned (.bool true) ∧ BoxP wA #[.int .i64 R.ep, .slice p1 (List.length n1) q1, .slice p2 (List.length n2) q2, .slice p3 (List.length n3) q3, .slice p4 (List.length n4) q4, .slice p5 (List.length n5) q5, .int .i64 R.dp, .int .i64 R.nd, .int .i64 R.bt] w') := hide (fun wx h => by
              have := rsameP_any _ _ _ _ _ _ _ _ _ _ R t.p _ _ _ _ _ _ _ _ _ _ wx (HQ.out.below h.2) (HRK.out wx (bel2 HA1.out h.2)).2 (by rw [hRt]; exact hft) hft
              rw [(sameP_iff R t.p).2 hRt] at this
              exact this.mono fun e w' ⟨h1, h2⟩ => ⟨h1, h.keep h2⟩)
            obtain ⟨P, v1, v2, v3, v4, v5, j1, j2, j3, j4, j5⟩ := t
            have SK : Hid (∀ wx, BoxP wA #[.int .i64 R.ep, .slice p1 (List.length n1) q1, .slice p2 (List.length n2) q2, .slice p3 (List.length n3) q3, .slice p4 (List.length n4) q4, .slice p5 (List.length n5) q5, .int .i64 R.dp, .int .i64 R.nd, .int .i64 R.bt] wx → wx.cell? ⟨wA.heap.size, 0, none⟩ = some (.int .i64 R.ep) ∧ wx.cell? ⟨wA.heap.size, 1, none⟩ = some (.slice p1 (List.length n1) q1) ∧ wx.cell? ⟨wA.heap.size, 2, none⟩ = some (.slice p2 (List.length n2) q2) ∧ wx.cell? ⟨wA.heap.size, 3, none⟩ = some (.slice p3 (List.length n3) q3) ∧ wx.cell? ⟨wA.heap.size, 4, none⟩ = some (.slice p4 (List.length n4) q4) ∧ wx.cell? ⟨wA.heap.size, 5, none⟩ = some (.slice p5 (List.length n5) q5) ∧ wx.cell? ⟨wA.heap.size, 6, none⟩ = some (.int .i64 R.dp) ∧ wx.cell? ⟨wA.heap.size, 7, none⟩ = some (.int .i64 R.nd) ∧ wx.cell? ⟨wA.heap.size, 8, none⟩ = some (.int .i64 R.bt) ∧ wx.cell? ⟨b, off + i * 9, none⟩ = some (.int .i64 P.ep) ∧ wx.cell? ⟨b, off + i * 9 + 1, none⟩ = some (v1) ∧ wx.cell? ⟨b, off + i * 9 + 2, none⟩ = some (v2) ∧ wx.cell? ⟨b, off + i * 9 + 3, none⟩ = some (v3) ∧ wx.cell? ⟨b, off + i * 9 + 4, none⟩ = some (v4) ∧ wx.cell? ⟨b, off + i * 9 + 5, none⟩ = some (v5) ∧ wx.cell? ⟨b, off + i * 9 + 6, none⟩ = some (.int .i64 P.dp) ∧ wx.cell? ⟨b, off + i * 9 + 7, none⟩ = some (.int .i64 P.nd) ∧ wx.cell? ⟨b, off + i * 9 + 8, none⟩ = some (.int .i64 P.bt) ∧ Hid (BoxP wA #[.int .i64 R.ep, .slice p1 (List.length n1) q1, .slice p2 (List.length n2) q2, .slice p3 (List.length n3) q3, .slice p4 (List.length n4) q4, .slice p5 (List.length n5) q5, .int .i64 R.dp, .int .i64 R.nd, .int .i64 R.bt] wx)) := hide (fun wx h => by
              obtain ⟨b0, b1, b2, b3, b4, b5, b6, b7, b8⟩ := nine (HRK.out wx (bel2 HA1.out h.2)).1
              exact ⟨h.cell 0 _ rfl, h.cell 1 _ rfl, h.cell 2 _ rfl, h.cell 3 _ rfl, h.cell 4 _ rfl, h.cell 5 _ rfl, h.cell 6 _ rfl, h.cell 7 _ rfl, h.cell 8 _ rfl, b0, b1, b2, b3, b4, b5, b6, b7, b8, hide h⟩)
            have SB : Hid (∀ wx, (wx.cell? ⟨wA.heap.size, 0, none⟩ = some (.int .i64 R.ep) ∧ wx.cell? ⟨wA.heap.size, 1, none⟩ = some (.slice p1 (List.length n1) q1) ∧ wx.cell? ⟨wA.heap.size, 2, none⟩ = some (.slice p2 (List.length n2) q2) ∧ wx.cell? ⟨wA.heap.size, 3, none⟩ = some (.slice p3 (List.length n3) q3) ∧ wx.cell? ⟨wA.heap.size, 4, none⟩ = some (.slice p4 (List.length n4) q4) ∧ wx.cell? ⟨wA.heap.size, 5, none⟩ = some (.slice p5 (List.length n5) q5) ∧ wx.cell? ⟨wA.heap.size, 6, none⟩ = some (.int .i64 R.dp) ∧ wx.cell? ⟨wA.heap.size, 7, none⟩ = some (.int .i64 R.nd) ∧ wx.cell? ⟨wA.heap.size, 8, none⟩ = some (.int .i64 R.bt) ∧ wx.cell? ⟨b, off + i * 9, none⟩ = some (.int .i64 P.ep) ∧ wx.cell? ⟨b, off + i * 9 + 1, none⟩ = some (v1) ∧ wx.cell? ⟨b, off + i * 9 + 2, none⟩ = some (v2) ∧ wx.cell? ⟨b, off + i * 9 + 3, none⟩ = some (v3) ∧ wx.cell? ⟨b, off + i * 9 + 4, none⟩ = some (v4) ∧ wx.cell? ⟨b, off + i * 9 + 5, none⟩ = some (v5) ∧ wx.cell? ⟨b, off + i * 9 + 6, none⟩ = some (.int .i64 P.dp) ∧ wx.cell? ⟨b, off + i * 9 + 7, none⟩ = some (.int .i64 P.nd) ∧ wx.cell? ⟨b, off + i * 9 + 8, none⟩ = some (.int .i64 P.bt) ∧ Hid (BoxP wA #[.int .i64 R.ep, .slice p1 (List.length n1) q1, .slice p2 (List.length n2) q2, .slice p3 (List.length n3) q3, .slice p4 (List.length n4) q4, .slice p5 (List.length n5) q5, .int .i64 R.dp, .int .i64 R.nd, .int .i64 R.bt] wx)) → BoxP wA #[.int .i64 R.ep, .slice p1 (List.length n1) q1, .slice p2 (List.length n2) q2, .slice p3 (List.length n3) q3, .slice p4 (List.length n4) q4, .slice p5 (List.length n5) q5, .int .i64 R.dp, .int .i64 R.nd, .int .i64 R.bt] wx) := hide (fun wx h => h.2.2.2.2.2.2.2.2.2.2.2.2.2.2.2.2.2.2.out)
            simp only [] at y0 heq
            clear hRt hft hei hii0 HFI HT0 HE0 HRP HITE HTI
            go_wp2_with fail
            clear y0
            refine wp_region_held_drew (S := (fun wx => wx.cell? ⟨wA.heap.size, 0, none⟩ = some (.int .i64 R.ep) ∧ wx.cell? ⟨wA.heap.size, 1, none⟩ = some (.slice p1 (List.length n1) q1) ∧ wx.cell? ⟨wA.heap.size, 2, none⟩ = some (.slice p2 (List.length n2) q2) ∧ wx.cell? ⟨wA.heap.size, 3, none⟩ = some (.slice p3 (List.length n3) q3) ∧ wx.cell? ⟨wA.heap.size, 4, none⟩ = some (.slice p4 (List.length n4) q4) ∧ wx.cell? ⟨wA.heap.size, 5, none⟩ = some (.slice p5 (List.length n5) q5) ∧ wx.cell? ⟨wA.heap.size, 6, none⟩ = some (.int .i64 R.dp) ∧ wx.cell? ⟨wA.heap.size, 7, none⟩ = some (.int .i64 R.nd) ∧ wx.cell? ⟨wA.heap.size, 8, none⟩ = some (.int .i64 R.bt) ∧ wx.cell? ⟨b, off + i * 9, none⟩ = some (.int .i64 P.ep) ∧ wx.cell? ⟨b, off + i * 9 + 1, none⟩ = some (v1) ∧ wx.cell? ⟨b, off + i * 9 + 2, none⟩ = some (v2) ∧ wx.cell? ⟨b, off + i * 9 + 3, none⟩ = some (v3) ∧ wx.cell? ⟨b, off + i * 9 + 4, none⟩ = some (v4) ∧ wx.cell? ⟨b, off + i * 9 + 5, none⟩ = some (v5) ∧ wx.cell? ⟨b, off + i * 9 + 6, none⟩ = some (.int .i64 P.dp) ∧ wx.cell? ⟨b, off + i * 9 + 7, none⟩ = some (.int .i64 P.nd) ∧ wx.cell? ⟨b, off + i * 9 + 8, none⟩ = some (.int .i64 P.bt) ∧ Hid (BoxP wA #[.int .i64 R.ep, .slice p1 (List.length n1) q1, .slice p2 (List.length n2) q2, .slice p3 (List.length n3) q3, .slice p4 (List.length n4) q4, .slice p5 (List.length n5) q5, .int .i64 R.dp, .int .i64 R.nd, .int .i64 R.bt] wx))) (by kernel_rfl) (SK.out _ (HU.out.keep ((Below.refl _ _).drew))) (fun hHeld => ?_)
            refine wpAnyH_at (i := 0) (v := ?vga0) (a1 := ?xga0) rfl (by kernel_rfl) (by kernel_rfl) (by kernel_rfl) (fun _ _ _ h => h) (Or.inl ⟨by rfl, ?yga0⟩) (by assumption) ?hga0 ?zga0
            case yga0 => (intro w hSw; (try dsimp only at hSw); go_simp; try (with_reducible rfl))
            case hga0 => (go_simp; exact rfl)
            case zga0 =>
            refine wpAnyH_at (i := 1) (v := ?vga1) (a1 := ?xga1) rfl (by kernel_rfl) (by kernel_rfl) (by kernel_rfl) (fun _ _ _ h => h) (Or.inl ⟨by rfl, ?yga1⟩) (by assumption) ?hga1 ?zga1
            case yga1 => (intro w hSw; (try dsimp only at hSw); go_simp; try (with_reducible rfl))
            case hga1 => (go_simp; exact rfl)
            case zga1 =>
            refine wpAnyH_at (i := 2) (v := ?vga2) (a1 := ?xga2) rfl (by kernel_rfl) (by kernel_rfl) (by kernel_rfl) (fun _ _ _ h => h) (Or.inl ⟨by rfl, ?yga2⟩) (by assumption) ?hga2 ?zga2
            case yga2 => (intro w hSw; (try dsimp only at hSw); go_simp; try (with_reducible rfl))
            case hga2 => (go_simp; exact rfl)
            case zga2 =>
            refine wpAnyH_at (i := 3) (v := ?vga3) (a1 := ?xga3) rfl (by kernel_rfl) (by kernel_rfl) (by kernel_rfl) (fun _ _ _ h => h) (Or.inl ⟨by rfl, ?yga3⟩) (by assumption) ?hga3 ?zga3
            case yga3 => (intro w hSw; (try dsimp only at hSw); go_simp; try (with_reducible rfl))
            case hga3 => (go_simp; exact rfl)
            case zga3 =>
            refine wpAnyH_at (i := 4) (v := ?vga4) (a1 := ?xga4) rfl (by kernel_rfl) (by kernel_rfl) (by kernel_rfl) (fun _ _ _ h => h) (Or.inl ⟨by rfl, ?yga4⟩) (by assumption) ?hga4 ?zga4
            case yga4 => (intro w hSw; (try dsimp only at hSw); go_simp; try (with_reducible rfl))
            case hga4 => (go_simp; exact rfl)
            case zga4 =>
            refine wpAnyH_ready (rs := [5]) (by kernel_rfl) (by simp) ?_
            refine AllReadyH.cons rfl (fun K hK => ?_) AllReadyH.nil
            go_simp
            refine (CS.out _ (SB.out _ (by assumption))).mono ?_
            rintro e w8 ⟨rfl, h8⟩
            try go_wp2_with fail
            refine hK.out _ _ (SK.out _ (by assumption)) (fun hHeld2 => ?_)
            clear hK K hHeld
            have hHeld := hHeld2
            clear hHeld2
            refine wpAnyH_at (i := 6) (v := ?vga6) (a1 := ?xga6) rfl (by kernel_rfl) (by kernel_rfl) (by kernel_rfl) (fun _ _ _ h => h) (Or.inl ⟨by rfl, ?yga6⟩) (by assumption) ?hga6 ?zga6
            case yga6 => (intro w hSw; (try dsimp only at hSw); go_simp; try (with_reducible rfl))
            case hga6 => (go_simp; exact rfl)
            case zga6 =>
            refine wpAnyH_done (by kernel_rfl) ?_ _
            have H9 := hide (bel2 HA1.out (SB.out _ (by assumption)).2)
            clear CS SK SB HU
            go_wp2_with fail
            go_ret
            exact ⟨rfl, H9.out⟩
          · have heq : (t.p.ep == ep) = false := by simpa using hei
            have hlt' : i < i0 := by
              by_cases h : i = i0
              · subst h
                have h1 := HT0.out
                rw [HTI.out] at h1
                rw [Option.some.inj h1] at hei
                exact absurd HE0.out hei
              · omega
            clear hei
            go_wp2_with fail
            go_roundg (N - i - 1)
            case measure => omega
            case rel => exact ⟨i + 1, by omega, by omega, by first | rfl | simp, HU⟩
      focus
        refine kk _ _ ?_
        clear kk
        obtain ⟨wB, hwB⟩ : ∃ wB, wB = wA.alloc (.cells zeroP 30) := ⟨_, rfl⟩
        have HBX : Hid (Below w.heap.size w wB) := hide (by rw [hwB]; exact bel_alloc HA1.out _)
        have HNO := hide hnone
        clear hnone
        go_upto_region 17 with fail
        rw [← hwB]
        clear hwB
        go_wp2_with fail
        go_loopg [17] N (fun g v17 wx => ∃ i : Nat, i + g = N ∧ v17 = .int .i64 (i : Int) ∧ Hid (Below w.heap.size w wx))
        case atStart => exact ⟨0, by omega, rfl, HBX⟩
        case round =>
          obtain ⟨i, hi, rfl, HU⟩ := hrel
          clear HBX
          by_cases hiN : i < N
          · obtain ⟨t, b, off, ht, rfl, hrk⟩ := HITE.out i hiN
            obtain ⟨y0, -⟩ := nine (hrk _ HU.out).1
            have heq : (t.p.ep == ep) = false := beq_eq_false_iff_ne.2 (HNO.out t (List.mem_of_getElem? ht))
            clear hrk ht
            go_wp2_with fail
            go_roundg (N - i - 1)
            case measure => omega
            case rel => exact ⟨i + 1, by omega, by first | rfl | simp, HU⟩
          · go_wp2_with fail
            go_ret
            exact ⟨rfl, HU.out⟩
    · have hu := h1 hE
      subst hu
      have hne : (E != 0) = true := by simpa using hE
      have heq : (E == 0) = false := by simpa using hE
      have hse : (E != E) = false := by simp
      clear h0 h1
      go_wp2_with fail
      refine (CD.out _ H5.out).mono ?_
      rintro e w6 ⟨⟨F, m, rfl, hc⟩, h6⟩
      have H6 := hide (H5.out.keep h6)
      have HB6 := hide (bel2 HB5.out h6)
      by_cases hF : F = 0
      · subst hF
        clear h6 hc CD
        go_wp2_with fail
        refine (CE.out _ HB6.out).mono ?_
        rintro e w7 ⟨⟨G, m', rfl, hc⟩, h7⟩
        obtain ⟨rfl, -⟩ := chk_unique hc HC5.out
        have H7 := hide (H6.out.keep h7)
        clear h7 hc CE HC5 hE
        clear HB6 HB5 H5 H6 HR HFA HLQ H4
        go_wp2_with fail
        rename_i kk
        refine (at_any (.slice p N cap) ts ep w7 HL.out (by have := HN.out; omega) (HV.out.below H7.out.2)).mono ?_
        rintro e wA ⟨hres, hA⟩
        have HA1 := hide (bel2 H7.out.2 hA)
        have HITE : Hid (∀ i, i < N → ∃ (t : It) (b off : Nat), ts[i]? = some t ∧ p = some ⟨b, off, none⟩ ∧ ∀ wx, Below w.heap.size w wx → (wx.rangeAt b (off + i * 9) t.cells ∧ t.ok wx)) := hide (fun i hi => by
          have hil : i < ts.length := by have := HN.out; omega
          have ht := List.getElem?_eq_getElem hil
          obtain ⟨b, off, cp, e, -, hr, hk⟩ := HV.out.at ht
          injection e with e
          exact ⟨ts[i], b, off, ht, e, fun wx h => ⟨range_keep (hr _ _ ht) h, (hk _ _ ht).below h⟩⟩)
        clear hA H7 SK HXK HXP HXV HA HC
        rcases hres with ⟨i0, t0, t', ht0, he0, hfirst, rfl, hp, hok⟩ | ⟨hnone, rfl⟩
        focus
          refine kk _ _ ?_
          clear kk
          obtain ⟨R, r1, r2, r3, r4, r5, n1, n2, n3, n4, n5⟩ := t'
          have HQ : Hid (PolV wA r1 r2 r3 r4 r5 R n1 n2 n3 n4 n5) := hide hok
          obtain ⟨p1, q1, rfl, -, -⟩ := HQ.out.s1
          obtain ⟨p2, q2, rfl, -, -⟩ := HQ.out.s2
          obtain ⟨p3, q3, rfl, -, -⟩ := HQ.out.s3
          obtain ⟨p4, q4, rfl, -, -⟩ := HQ.out.s4
          obtain ⟨p5, q5, rfl, -, -⟩ := HQ.out.s5
          obtain ⟨wB, hwB⟩ : ∃ wB, wB = wA.alloc (.cells #[.int .i64 R.ep, .slice p1 (List.length n1) q1, .slice p2 (List.length n2) q2, .slice p3 (List.length n3) q3, .slice p4 (List.length n4) q4, .slice p5 (List.length n5) q5, .int .i64 R.dp, .int .i64 R.nd, .int .i64 R.bt] 30) := ⟨_, rfl⟩
          have HBX : Hid (BoxP wA #[.int .i64 R.ep, .slice p1 (List.length n1) q1, .slice p2 (List.length n2) q2, .slice p3 (List.length n3) q3, .slice p4 (List.length n4) q4, .slice p5 (List.length n5) q5, .int .i64 R.dp, .int .i64 R.nd, .int .i64 R.bt] wB) := hide (by rw [hwB]; exact ⟨new_block _ _ _, bel_alloc (Below.refl _ _) _⟩)
          have HFI := hide hfirst
          have HT0 := hide ht0
          have HE0 := hide he0
          have HRP : Hid (R = t0.p) := hide hp
          have hi0 : i0 < N := by have := (List.getElem?_eq_some_iff.1 ht0).1; have := HN.out; omega
          clear hok hfirst ht0 he0 hp
          go_upto_region 17 with fail
          rw [← hwB]
          clear hwB
          go_wp2_with fail
          go_loopg [17] N (fun g v17 wx => ∃ i : Nat, i + g = N ∧ i ≤ i0 ∧ v17 = .int .i64 (i : Int) ∧ Hid (BoxP wA #[.int .i64 R.ep, .slice p1 (List.length n1) q1, .slice p2 (List.length n2) q2, .slice p3 (List.length n3) q3, .slice p4 (List.length n4) q4, .slice p5 (List.length n5) q5, .int .i64 R.dp, .int .i64 R.nd, .int .i64 R.bt] wx))
          case atStart => exact ⟨0, by omega, by omega, rfl, HBX⟩
          case round =>
            obtain ⟨i, hi, hii, rfl, HU⟩ := hrel
            clear HBX
            obtain ⟨t, b, off, ht, rfl, hrk⟩ := HITE.out i (by omega)
            have HRK := hide hrk
            have HTI := hide ht
            have hiN : i < N := by omega
            clear hrk ht
            obtain ⟨y0, -⟩ := nine (HRK.out _ (bel2 HA1.out HU.out.2)).1
            by_cases hei : t.p.ep = ep
            · have hii0 : i = i0 := by
                by_cases h : i < i0
                · exact absurd hei (HFI.out i t h HTI.out)
                · omega
              have hRt : R = t.p := by
                have h1 := HT0.out
                rw [← hii0, HTI.out] at h1
                rw [HRP.out, Option.some.inj h1]
              have hft := HL.out t (List.mem_of_getElem? HTI.out)
              have heq : (t.p.ep == ep) = true := by simpa using hei
              have CS : Hid (∀ wx, BoxP wA #[.int .i64 R.ep, .slice p1 (List.length n1) q1, .slice p2 (List.length n2) q2, .slice p3 (List.length n3) q3, .slice p4 (List.length n4) q4, .slice p5 (List.length n5) q5, .int .i64 R.dp, .int .i64 R.nd, .int .i64 R.bt] wx → Calls Try.prog 15 #[pval R (.slice p1 n1.length q1) (.slice p2 n2.length q2) (.slice p3 n3.length q3) (.slice p4 n4.length q4) (.slice p5 n5.length q5), t.val] wx fun e w' => e = .returned (.bool true) ∧ BoxP wA #[.int .i64 R.ep, .slice p1 (List.length n1) q1, .slice p2 (List.length n2) q2, .slice p3 (List.length n3) q3, .slice p4 (List.length n4) q4, .slice p5 (List.length n5) q5, .int .i64 R.dp, .int .i64 R.nd, .int .i64 R.bt] w') := hide (fun wx h => by
                have := rsameP_any _ _ _ _ _ _ _ _ _ _ R t.p _ _ _ _ _ _ _ _ _ _ wx (HQ.out.below h.2) (HRK.out wx (bel2 HA1.out h.2)).2 (by rw [hRt]; exact hft) hft
                rw [(sameP_iff R t.p).2 hRt] at this
                exact this.mono fun e w' ⟨h1, h2⟩ => ⟨h1, h.keep h2⟩)
              obtain ⟨P, v1, v2, v3, v4, v5, j1, j2, j3, j4, j5⟩ := t
              have SK : Hid (∀ wx, BoxP wA #[.int .i64 R.ep, .slice p1 (List.length n1) q1, .slice p2 (List.length n2) q2, .slice p3 (List.length n3) q3, .slice p4 (List.length n4) q4, .slice p5 (List.length n5) q5, .int .i64 R.dp, .int .i64 R.nd, .int .i64 R.bt] wx → wx.cell? ⟨wA.heap.size, 0, none⟩ = some (.int .i64 R.ep) ∧ wx.cell? ⟨wA.heap.size, 1, none⟩ = some (.slice p1 (List.length n1) q1) ∧ wx.cell? ⟨wA.heap.size, 2, none⟩ = some (.slice p2 (List.length n2) q2) ∧ wx.cell? ⟨wA.heap.size, 3, none⟩ = some (.slice p3 (List.length n3) q3) ∧ wx.cell? ⟨wA.heap.size, 4, none⟩ = some (.slice p4 (List.length n4) q4) ∧ wx.cell? ⟨wA.heap.size, 5, none⟩ = some (.slice p5 (List.length n5) q5) ∧ wx.cell? ⟨wA.heap.size, 6, none⟩ = some (.int .i64 R.dp) ∧ wx.cell? ⟨wA.heap.size, 7, none⟩ = some (.int .i64 R.nd) ∧ wx.cell? ⟨wA.heap.size, 8, none⟩ = some (.int .i64 R.bt) ∧ wx.cell? ⟨b, off + i * 9, none⟩ = some (.int .i64 P.ep) ∧ wx.cell? ⟨b, off + i * 9 + 1, none⟩ = some (v1) ∧ wx.cell? ⟨b, off + i * 9 + 2, none⟩ = some (v2) ∧ wx.cell? ⟨b, off + i * 9 + 3, none⟩ = some (v3) ∧ wx.cell? ⟨b, off + i * 9 + 4, none⟩ = some (v4) ∧ wx.cell? ⟨b, off + i * 9 + 5, none⟩ = some (v5) ∧ wx.cell? ⟨b, off + i * 9 + 6, none⟩ = some (.int .i64 P.dp) ∧ wx.cell? ⟨b, off + i * 9 + 7, none⟩ = some (.int .i64 P.nd) ∧ wx.cell? ⟨b, off + i * 9 + 8, none⟩ = some (.int .i64 P.bt) ∧ Hid (BoxP wA #[.int .i64 R.ep, .slice p1 (List.length n1) q1, .slice p2 (List.length n2) q2, .slice p3 (List.length n3) q3, .slice p4 (List.length n4) q4, .slice p5 (List.length n5) q5, .int .i64 R.dp, .int .i64 R.nd, .int .i64 R.bt] wx)) := hide (fun wx h => by
                obtain ⟨b0, b1, b2, b3, b4, b5, b6, b7, b8⟩ := nine (HRK.out wx (bel2 HA1.out h.2)).1
                exact ⟨h.cell 0 _ rfl, h.cell 1 _ rfl, h.cell 2 _ rfl, h.cell 3 _ rfl, h.cell 4 _ rfl, h.cell 5 _ rfl, h.cell 6 _ rfl, h.cell 7 _ rfl, h.cell 8 _ rfl, b0, b1, b2, b3, b4, b5, b6, b7, b8, hide h⟩)
              have SB : Hid (∀ wx, (wx.cell? ⟨wA.heap.size, 0, none⟩ = some (.int .i64 R.ep) ∧ wx.cell? ⟨wA.heap.size, 1, none⟩ = some (.slice p1 (List.length n1) q1) ∧ wx.cell? ⟨wA.heap.size, 2, none⟩ = some (.slice p2 (List.length n2) q2) ∧ wx.cell? ⟨wA.heap.size, 3, none⟩ = some (.slice p3 (List.length n3) q3) ∧ wx.cell? ⟨wA.heap.size, 4, none⟩ = some (.slice p4 (List.length n4) q4) ∧ wx.cell? ⟨wA.heap.size, 5, none⟩ = some (.slice p5 (List.length n5) q5) ∧ wx.cell? ⟨wA.heap.size, 6, none⟩ = some (.int .i64 R.dp) ∧ wx.cell? ⟨wA.heap.size, 7, none⟩ = some (.int .i64 R.nd) ∧ wx.cell? ⟨wA.heap.size, 8, none⟩ = some (.int .i64 R.bt) ∧ wx.cell? ⟨b, off + i * 9, none⟩ = some (.int .i64 P.ep) ∧ wx.cell? ⟨b, off + i * 9 + 1, none⟩ = some (v1) ∧ wx.cell? ⟨b, off + i * 9 + 2, none⟩ = some (v2) ∧ wx.cell? ⟨b, off + i * 9 + 3, none⟩ = some (v3) ∧ wx.cell? ⟨b, off + i * 9 + 4, none⟩ = some (v4) ∧ wx.cell? ⟨b, off + i * 9 + 5, none⟩ = some (v5) ∧ wx.cell? ⟨b, off + i * 9 + 6, none⟩ = some (.int .i64 P.dp) ∧ wx.cell? ⟨b, off + i * 9 + 7, none⟩ = some (.int .i64 P.nd) ∧ wx.cell? ⟨b, off + i * 9 + 8, none⟩ = some (.int .i64 P.bt) ∧ Hid (BoxP wA #[.int .i64 R.ep, .slice p1 (List.length n1) q1, .slice p2 (List.length n2) q2, .slice p3 (List.length n3) q3, .slice p4 (List.length n4) q4, .slice p5 (List.length n5) q5, .int .i64 R.dp, .int .i64 R.nd, .int .i64 R.bt] wx)) → BoxP wA #[.int .i64 R.ep, .slice p1 (List.length n1) q1, .slice p2 (List.length n2) q2, .slice p3 (List.length n3) q3, .slice p4 (List.length n4) q4, .slice p5 (List.length n5) q5, .int .i64 R.dp, .int .i64 R.nd, .int .i64 R.bt] wx) := hide (fun wx h => h.2.2.2.2.2.2.2.2.2.2.2.2.2.2.2.2.2.2.out)
              simp only [] at y0 heq
              clear hRt hft hei hii0 HFI HT0 HE0 HRP HITE HTI
              go_wp2_with fail
              clear y0
              refine wp_region_held_drew (S := (fun wx => wx.cell? ⟨wA.heap.size, 0, none⟩ = some (.int .i64 R.ep) ∧ wx.cell? ⟨wA.heap.size, 1, none⟩ = some (.slice p1 (List.length n1) q1) ∧ wx.cell? ⟨wA.heap.size, 2, none⟩ = some (.slice p2 (List.length n2) q2) ∧ wx.cell? ⟨wA.heap.size, 3, none⟩ = some (.slice p3 (List.length n3) q3) ∧ wx.cell? ⟨wA.heap.size, 4, none⟩ = some (.slice p4 (List.length n4) q4) ∧ wx.cell? ⟨wA.heap.size, 5, none⟩ = some (.slice p5 (List.length n5) q5) ∧ wx.cell? ⟨wA.heap.size, 6, none⟩ = some (.int .i64 R.dp) ∧ wx.cell? ⟨wA.heap.size, 7, none⟩ = some (.int .i64 R.nd) ∧ wx.cell? ⟨wA.heap.size, 8, none⟩ = some (.int .i64 R.bt) ∧ wx.cell? ⟨b, off + i * 9, none⟩ = some (.int .i64 P.ep) ∧ wx.cell? ⟨b, off + i * 9 + 1, none⟩ = some (v1) ∧ wx.cell? ⟨b, off + i * 9 + 2, none⟩ = some (v2) ∧ wx.cell? ⟨b, off + i * 9 + 3, none⟩ = some (v3) ∧ wx.cell? ⟨b, off + i * 9 + 4, none⟩ = some (v4) ∧ wx.cell? ⟨b, off + i * 9 + 5, none⟩ = some (v5) ∧ wx.cell? ⟨b, off + i * 9 + 6, none⟩ = some (.int .i64 P.dp) ∧ wx.cell? ⟨b, off + i * 9 + 7, none⟩ = some (.int .i64 P.nd) ∧ wx.cell? ⟨b, off + i * 9 + 8, none⟩ = some (.int .i64 P.bt) ∧ Hid (BoxP wA #[.int .i64 R.ep, .slice p1 (List.length n1) q1, .slice p2 (List.length n2) q2, .slice p3 (List.length n3) q3, .slice p4 (List.length n4) q4, .slice p5 (List.length n5) q5, .int .i64 R.dp, .int .i64 R.nd, .int .i64 R.bt] wx))) (by kernel_rfl) (SK.out _ (HU.out.keep ((Below.refl _ _).drew))) (fun hHeld => ?_)
              refine wpAnyH_at (i := 0) (v := ?vgb0) (a1 := ?xgb0) rfl (by kernel_rfl) (by kernel_rfl) (by kernel_rfl) (fun _ _ _ h => h) (Or.inl ⟨by rfl, ?ygb0⟩) (by assumption) ?hgb0 ?zgb0
              case ygb0 => (intro w hSw; (try dsimp only at hSw); go_simp; try (with_reducible rfl))
              case hgb0 => (go_simp; exact rfl)
              case zgb0 =>
              refine wpAnyH_at (i := 1) (v := ?vgb1) (a1 := ?xgb1) rfl (by kernel_rfl) (by kernel_rfl) (by kernel_rfl) (fun _ _ _ h => h) (Or.inl ⟨by rfl, ?ygb1⟩) (by assumption) ?hgb1 ?zgb1
              case ygb1 => (intro w hSw; (try dsimp only at hSw); go_simp; try (with_reducible rfl))
              case hgb1 => (go_simp; exact rfl)
              case zgb1 =>
              refine wpAnyH_at (i := 2) (v := ?vgb2) (a1 := ?xgb2) rfl (by kernel_rfl) (by kernel_rfl) (by kernel_rfl) (fun _ _ _ h => h) (Or.inl ⟨by rfl, ?ygb2⟩) (by assumption) ?hgb2 ?zgb2
              case ygb2 => (intro w hSw; (try dsimp only at hSw); go_simp; try (with_reducible rfl))
              case hgb2 => (go_simp; exact rfl)
              case zgb2 =>
              refine wpAnyH_at (i := 3) (v := ?vgb3) (a1 := ?xgb3) rfl (by kernel_rfl) (by kernel_rfl) (by kernel_rfl) (fun _ _ _ h => h) (Or.inl ⟨by rfl, ?ygb3⟩) (by assumption) ?hgb3 ?zgb3
              case ygb3 => (intro w hSw; (try dsimp only at hSw); go_simp; try (with_reducible rfl))
              case hgb3 => (go_simp; exact rfl)
              case zgb3 =>
              refine wpAnyH_at (i := 4) (v := ?vgb4) (a1 := ?xgb4) rfl (by kernel_rfl) (by kernel_rfl) (by kernel_rfl) (fun _ _ _ h => h) (Or.inl ⟨by rfl, ?ygb4⟩) (by assumption) ?hgb4 ?zgb4
              case ygb4 => (intro w hSw; (try dsimp only at hSw); go_simp; try (with_reducible rfl))
              case hgb4 => (go_simp; exact rfl)
              case zgb4 =>
              refine wpAnyH_ready (rs := [5]) (by kernel_rfl) (by simp) ?_
              refine AllReadyH.cons rfl (fun K hK => ?_) AllReadyH.nil
              go_simp
              refine (CS.out _ (SB.out _ (by assumption))).mono ?_
              rintro e w8 ⟨rfl, h8⟩
              try go_wp2_with fail
              refine hK.out _ _ (SK.out _ (by assumption)) (fun hHeld2 => ?_)
              clear hK K hHeld
              have hHeld := hHeld2
              clear hHeld2
              refine wpAnyH_at (i := 6) (v := ?vgb6) (a1 := ?xgb6) rfl (by kernel_rfl) (by kernel_rfl) (by kernel_rfl) (fun _ _ _ h => h) (Or.inl ⟨by rfl, ?ygb6⟩) (by assumption) ?hgb6 ?zgb6
              case ygb6 => (intro w hSw; (try dsimp only at hSw); go_simp; try (with_reducible rfl))
              case hgb6 => (go_simp; exact rfl)
              case zgb6 =>
              refine wpAnyH_done (by kernel_rfl) ?_ _
              have H9 := hide (bel2 HA1.out (SB.out _ (by assumption)).2)
              clear CS SK SB HU
              go_wp2_with fail
              go_ret
              exact ⟨rfl, H9.out⟩
            · have heq : (t.p.ep == ep) = false := by simpa using hei
              have hlt' : i < i0 := by
                by_cases h : i = i0
                · subst h
                  have h1 := HT0.out
                  rw [HTI.out] at h1
                  rw [Option.some.inj h1] at hei
                  exact absurd HE0.out hei
                · omega
              clear hei
              go_wp2_with fail
              go_roundg (N - i - 1)
              case measure => omega
              case rel => exact ⟨i + 1, by omega, by omega, by first | rfl | simp, HU⟩
        focus
          refine kk _ _ ?_
          clear kk
          obtain ⟨wB, hwB⟩ : ∃ wB, wB = wA.alloc (.cells zeroP 30) := ⟨_, rfl⟩
          have HBX : Hid (Below w.heap.size w wB) := hide (by rw [hwB]; exact bel_alloc HA1.out _)
          have HNO := hide hnone
          clear hnone
          go_upto_region 17 with fail
          rw [← hwB]
          clear hwB
          go_wp2_with fail
          go_loopg [17] N (fun g v17 wx => ∃ i : Nat, i + g = N ∧ v17 = .int .i64 (i : Int) ∧ Hid (Below w.heap.size w wx))
          case atStart => exact ⟨0, by omega, rfl, HBX⟩
          case round =>
            obtain ⟨i, hi, rfl, HU⟩ := hrel
            clear HBX
            by_cases hiN : i < N
            · obtain ⟨t, b, off, ht, rfl, hrk⟩ := HITE.out i hiN
              obtain ⟨y0, -⟩ := nine (hrk _ HU.out).1
              have heq : (t.p.ep == ep) = false := beq_eq_false_iff_ne.2 (HNO.out t (List.mem_of_getElem? ht))
              clear hrk ht
              go_wp2_with fail
              go_roundg (N - i - 1)
              case measure => omega
              case rel => exact ⟨i + 1, by omega, by first | rfl | simp, HU⟩
            · go_wp2_with fail
              go_ret
              exact ⟨rfl, HU.out⟩
      · have e := chk_app hc HC5.out hF
        subst e
        clear h6 hc CD CE HC5 hE hF
        clear HB6 HB5 H5 HR HFA HLQ H4
        go_wp2_with fail
        rename_i kk
        refine (at_any (.slice p N cap) ts ep w6 HL.out (by have := HN.out; omega) (HV.out.below H6.out.2)).mono ?_
        rintro e wA ⟨hres, hA⟩
        have HA1 := hide (bel2 H6.out.2 hA)
        have HITE : Hid (∀ i, i < N → ∃ (t : It) (b off : Nat), ts[i]? = some t ∧ p = some ⟨b, off, none⟩ ∧ ∀ wx, Below w.heap.size w wx → (wx.rangeAt b (off + i * 9) t.cells ∧ t.ok wx)) := hide (fun i hi => by
          have hil : i < ts.length := by have := HN.out; omega
          have ht := List.getElem?_eq_getElem hil
          obtain ⟨b, off, cp, e, -, hr, hk⟩ := HV.out.at ht
          injection e with e
          exact ⟨ts[i], b, off, ht, e, fun wx h => ⟨range_keep (hr _ _ ht) h, (hk _ _ ht).below h⟩⟩)
        clear hA H6 SK HXK HXP HXV HA HC
        rcases hres with ⟨i0, t0, t', ht0, he0, hfirst, rfl, hp, hok⟩ | ⟨hnone, rfl⟩
        focus
          refine kk _ _ ?_
          clear kk
          obtain ⟨R, r1, r2, r3, r4, r5, n1, n2, n3, n4, n5⟩ := t'
          have HQ : Hid (PolV wA r1 r2 r3 r4 r5 R n1 n2 n3 n4 n5) := hide hok
          obtain ⟨p1, q1, rfl, -, -⟩ := HQ.out.s1
          obtain ⟨p2, q2, rfl, -, -⟩ := HQ.out.s2
          obtain ⟨p3, q3, rfl, -, -⟩ := HQ.out.s3
          obtain ⟨p4, q4, rfl, -, -⟩ := HQ.out.s4
          obtain ⟨p5, q5, rfl, -, -⟩ := HQ.out.s5
          obtain ⟨wB, hwB⟩ : ∃ wB, wB = wA.alloc (.cells #[.int .i64 R.ep, .slice p1 (List.length n1) q1, .slice p2 (List.length n2) q2, .slice p3 (List.length n3) q3, .slice p4 (List.length n4) q4, .slice p5 (List.length n5) q5, .int .i64 R.dp, .int .i64 R.nd, .int .i64 R.bt] 30) := ⟨_, rfl⟩
          have HBX : Hid (BoxP wA #[.int .i64 R.ep, .slice p1 (List.length n1) q1, .slice p2 (List.length n2) q2, .slice p3 (List.length n3) q3, .slice p4 (List.length n4) q4, .slice p5 (List.length n5) q5, .int .i64 R.dp, .int .i64 R.nd, .int .i64 R.bt] wB) := hide (by rw [hwB]; exact ⟨new_block _ _ _, bel_alloc (Below.refl _ _) _⟩)
          have HFI := hide hfirst
          have HT0 := hide ht0
          have HE0 := hide he0
          have HRP : Hid (R = t0.p) := hide hp
          have hi0 : i0 < N := by have := (List.getElem?_eq_some_iff.1 ht0).1; have := HN.out; omega
          clear hok hfirst ht0 he0 hp
          go_upto_region 17 with fail
          rw [← hwB]
          clear hwB
          go_wp2_with fail
          go_loopg [17] N (fun g v17 wx => ∃ i : Nat, i + g = N ∧ i ≤ i0 ∧ v17 = .int .i64 (i : Int) ∧ Hid (BoxP wA #[.int .i64 R.ep, .slice p1 (List.length n1) q1, .slice p2 (List.length n2) q2, .slice p3 (List.length n3) q3, .slice p4 (List.length n4) q4, .slice p5 (List.length n5) q5, .int .i64 R.dp, .int .i64 R.nd, .int .i64 R.bt] wx))
          case atStart => exact ⟨0, by omega, by omega, rfl, HBX⟩
          case round =>
            obtain ⟨i, hi, hii, rfl, HU⟩ := hrel
            clear HBX
            obtain ⟨t, b, off, ht, rfl, hrk⟩ := HITE.out i (by omega)
            have HRK := hide hrk
            have HTI := hide ht
            have hiN : i < N := by omega
            clear hrk ht
            obtain ⟨y0, -⟩ := nine (HRK.out _ (bel2 HA1.out HU.out.2)).1
            by_cases hei : t.p.ep = ep
            · have hii0 : i = i0 := by
                by_cases h : i < i0
                · exact absurd hei (HFI.out i t h HTI.out)
                · omega
              have hRt : R = t.p := by
                have h1 := HT0.out
                rw [← hii0, HTI.out] at h1
                rw [HRP.out, Option.some.inj h1]
              have hft := HL.out t (List.mem_of_getElem? HTI.out)
              have heq : (t.p.ep == ep) = true := by simpa using hei
              have CS : Hid (∀ wx, BoxP wA #[.int .i64 R.ep, .slice p1 (List.length n1) q1, .slice p2 (List.length n2) q2, .slice p3 (List.length n3) q3, .slice p4 (List.length n4) q4, .slice p5 (List.length n5) q5, .int .i64 R.dp, .int .i64 R.nd, .int .i64 R.bt] wx → Calls Try.prog 15 #[pval R (.slice p1 n1.length q1) (.slice p2 n2.length q2) (.slice p3 n3.length q3) (.slice p4 n4.length q4) (.slice p5 n5.length q5), t.val] wx fun e w' => e = .returned (.bool true) ∧ BoxP wA #[.int .i64 R.ep, .slice p1 (List.length n1) q1, .slice p2 (List.length n2) q2, .slice p3 (List.length n3) q3, .slice p4 (List.length n4) q4, .slice p5 (List.length n5) q5, .int .i64 R.dp, .int .i64 R.nd, .int .i64 R.bt] w') := hide (fun wx h => by
                have := rsameP_any _ _ _ _ _ _ _ _ _ _ R t.p _ _ _ _ _ _ _ _ _ _ wx (HQ.out.below h.2) (HRK.out wx (bel2 HA1.out h.2)).2 (by rw [hRt]; exact hft) hft
                rw [(sameP_iff R t.p).2 hRt] at this
                exact this.mono fun e w' ⟨h1, h2⟩ => ⟨h1, h.keep h2⟩)
              obtain ⟨P, v1, v2, v3, v4, v5, j1, j2, j3, j4, j5⟩ := t
              have SK : Hid (∀ wx, BoxP wA #[.int .i64 R.ep, .slice p1 (List.length n1) q1, .slice p2 (List.length n2) q2, .slice p3 (List.length n3) q3, .slice p4 (List.length n4) q4, .slice p5 (List.length n5) q5, .int .i64 R.dp, .int .i64 R.nd, .int .i64 R.bt] wx → wx.cell? ⟨wA.heap.size, 0, none⟩ = some (.int .i64 R.ep) ∧ wx.cell? ⟨wA.heap.size, 1, none⟩ = some (.slice p1 (List.length n1) q1) ∧ wx.cell? ⟨wA.heap.size, 2, none⟩ = some (.slice p2 (List.length n2) q2) ∧ wx.cell? ⟨wA.heap.size, 3, none⟩ = some (.slice p3 (List.length n3) q3) ∧ wx.cell? ⟨wA.heap.size, 4, none⟩ = some (.slice p4 (List.length n4) q4) ∧ wx.cell? ⟨wA.heap.size, 5, none⟩ = some (.slice p5 (List.length n5) q5) ∧ wx.cell? ⟨wA.heap.size, 6, none⟩ = some (.int .i64 R.dp) ∧ wx.cell? ⟨wA.heap.size, 7, none⟩ = some (.int .i64 R.nd) ∧ wx.cell? ⟨wA.heap.size, 8, none⟩ = some (.int .i64 R.bt) ∧ wx.cell? ⟨b, off + i * 9, none⟩ = some (.int .i64 P.ep) ∧ wx.cell? ⟨b, off + i * 9 + 1, none⟩ = some (v1) ∧ wx.cell? ⟨b, off + i * 9 + 2, none⟩ = some (v2) ∧ wx.cell? ⟨b, off + i * 9 + 3, none⟩ = some (v3) ∧ wx.cell? ⟨b, off + i * 9 + 4, none⟩ = some (v4) ∧ wx.cell? ⟨b, off + i * 9 + 5, none⟩ = some (v5) ∧ wx.cell? ⟨b, off + i * 9 + 6, none⟩ = some (.int .i64 P.dp) ∧ wx.cell? ⟨b, off + i * 9 + 7, none⟩ = some (.int .i64 P.nd) ∧ wx.cell? ⟨b, off + i * 9 + 8, none⟩ = some (.int .i64 P.bt) ∧ Hid (BoxP wA #[.int .i64 R.ep, .slice p1 (List.length n1) q1, .slice p2 (List.length n2) q2, .slice p3 (List.length n3) q3, .slice p4 (List.length n4) q4, .slice p5 (List.length n5) q5, .int .i64 R.dp, .int .i64 R.nd, .int .i64 R.bt] wx)) := hide (fun wx h => by
                obtain ⟨b0, b1, b2, b3, b4, b5, b6, b7, b8⟩ := nine (HRK.out wx (bel2 HA1.out h.2)).1
                exact ⟨h.cell 0 _ rfl, h.cell 1 _ rfl, h.cell 2 _ rfl, h.cell 3 _ rfl, h.cell 4 _ rfl, h.cell 5 _ rfl, h.cell 6 _ rfl, h.cell 7 _ rfl, h.cell 8 _ rfl, b0, b1, b2, b3, b4, b5, b6, b7, b8, hide h⟩)
              have SB : Hid (∀ wx, (wx.cell? ⟨wA.heap.size, 0, none⟩ = some (.int .i64 R.ep) ∧ wx.cell? ⟨wA.heap.size, 1, none⟩ = some (.slice p1 (List.length n1) q1) ∧ wx.cell? ⟨wA.heap.size, 2, none⟩ = some (.slice p2 (List.length n2) q2) ∧ wx.cell? ⟨wA.heap.size, 3, none⟩ = some (.slice p3 (List.length n3) q3) ∧ wx.cell? ⟨wA.heap.size, 4, none⟩ = some (.slice p4 (List.length n4) q4) ∧ wx.cell? ⟨wA.heap.size, 5, none⟩ = some (.slice p5 (List.length n5) q5) ∧ wx.cell? ⟨wA.heap.size, 6, none⟩ = some (.int .i64 R.dp) ∧ wx.cell? ⟨wA.heap.size, 7, none⟩ = some (.int .i64 R.nd) ∧ wx.cell? ⟨wA.heap.size, 8, none⟩ = some (.int .i64 R.bt) ∧ wx.cell? ⟨b, off + i * 9, none⟩ = some (.int .i64 P.ep) ∧ wx.cell? ⟨b, off + i * 9 + 1, none⟩ = some (v1) ∧ wx.cell? ⟨b, off + i * 9 + 2, none⟩ = some (v2) ∧ wx.cell? ⟨b, off + i * 9 + 3, none⟩ = some (v3) ∧ wx.cell? ⟨b, off + i * 9 + 4, none⟩ = some (v4) ∧ wx.cell? ⟨b, off + i * 9 + 5, none⟩ = some (v5) ∧ wx.cell? ⟨b, off + i * 9 + 6, none⟩ = some (.int .i64 P.dp) ∧ wx.cell? ⟨b, off + i * 9 + 7, none⟩ = some (.int .i64 P.nd) ∧ wx.cell? ⟨b, off + i * 9 + 8, none⟩ = some (.int .i64 P.bt) ∧ Hid (BoxP wA #[.int .i64 R.ep, .slice p1 (List.length n1) q1, .slice p2 (List.length n2) q2, .slice p3 (List.length n3) q3, .slice p4 (List.length n4) q4, .slice p5 (List.length n5) q5, .int .i64 R.dp, .int .i64 R.nd, .int .i64 R.bt] wx)) → BoxP wA #[.int .i64 R.ep, .slice p1 (List.length n1) q1, .slice p2 (List.length n2) q2, .slice p3 (List.length n3) q3, .slice p4 (List.length n4) q4, .slice p5 (List.length n5) q5, .int .i64 R.dp, .int .i64 R.nd, .int .i64 R.bt] wx) := hide (fun wx h => h.2.2.2.2.2.2.2.2.2.2.2.2.2.2.2.2.2.2.out)
              simp only [] at y0 heq
              clear hRt hft hei hii0 HFI HT0 HE0 HRP HITE HTI
              go_wp2_with fail
              clear y0
              refine wp_region_held_drew (S := (fun wx => wx.cell? ⟨wA.heap.size, 0, none⟩ = some (.int .i64 R.ep) ∧ wx.cell? ⟨wA.heap.size, 1, none⟩ = some (.slice p1 (List.length n1) q1) ∧ wx.cell? ⟨wA.heap.size, 2, none⟩ = some (.slice p2 (List.length n2) q2) ∧ wx.cell? ⟨wA.heap.size, 3, none⟩ = some (.slice p3 (List.length n3) q3) ∧ wx.cell? ⟨wA.heap.size, 4, none⟩ = some (.slice p4 (List.length n4) q4) ∧ wx.cell? ⟨wA.heap.size, 5, none⟩ = some (.slice p5 (List.length n5) q5) ∧ wx.cell? ⟨wA.heap.size, 6, none⟩ = some (.int .i64 R.dp) ∧ wx.cell? ⟨wA.heap.size, 7, none⟩ = some (.int .i64 R.nd) ∧ wx.cell? ⟨wA.heap.size, 8, none⟩ = some (.int .i64 R.bt) ∧ wx.cell? ⟨b, off + i * 9, none⟩ = some (.int .i64 P.ep) ∧ wx.cell? ⟨b, off + i * 9 + 1, none⟩ = some (v1) ∧ wx.cell? ⟨b, off + i * 9 + 2, none⟩ = some (v2) ∧ wx.cell? ⟨b, off + i * 9 + 3, none⟩ = some (v3) ∧ wx.cell? ⟨b, off + i * 9 + 4, none⟩ = some (v4) ∧ wx.cell? ⟨b, off + i * 9 + 5, none⟩ = some (v5) ∧ wx.cell? ⟨b, off + i * 9 + 6, none⟩ = some (.int .i64 P.dp) ∧ wx.cell? ⟨b, off + i * 9 + 7, none⟩ = some (.int .i64 P.nd) ∧ wx.cell? ⟨b, off + i * 9 + 8, none⟩ = some (.int .i64 P.bt) ∧ Hid (BoxP wA #[.int .i64 R.ep, .slice p1 (List.length n1) q1, .slice p2 (List.length n2) q2, .slice p3 (List.length n3) q3, .slice p4 (List.length n4) q4, .slice p5 (List.length n5) q5, .int .i64 R.dp, .int .i64 R.nd, .int .i64 R.bt] wx))) (by kernel_rfl) (SK.out _ (HU.out.keep ((Below.refl _ _).drew))) (fun hHeld => ?_)
              refine wpAnyH_at (i := 0) (v := ?vgc0) (a1 := ?xgc0) rfl (by kernel_rfl) (by kernel_rfl) (by kernel_rfl) (fun _ _ _ h => h) (Or.inl ⟨by rfl, ?ygc0⟩) (by assumption) ?hgc0 ?zgc0
              case ygc0 => (intro w hSw; (try dsimp only at hSw); go_simp; try (with_reducible rfl))
              case hgc0 => (go_simp; exact rfl)
              case zgc0 =>
              refine wpAnyH_at (i := 1) (v := ?vgc1) (a1 := ?xgc1) rfl (by kernel_rfl) (by kernel_rfl) (by kernel_rfl) (fun _ _ _ h => h) (Or.inl ⟨by rfl, ?ygc1⟩) (by assumption) ?hgc1 ?zgc1
              case ygc1 => (intro w hSw; (try dsimp only at hSw); go_simp; try (with_reducible rfl))
              case hgc1 => (go_simp; exact rfl)
              case zgc1 =>
              refine wpAnyH_at (i := 2) (v := ?vgc2) (a1 := ?xgc2) rfl (by kernel_rfl) (by kernel_rfl) (by kernel_rfl) (fun _ _ _ h => h) (Or.inl ⟨by rfl, ?ygc2⟩) (by assumption) ?hgc2 ?zgc2
              case ygc2 => (intro w hSw; (try dsimp only at hSw); go_simp; try (with_reducible rfl))
              case hgc2 => (go_simp; exact rfl)
              case zgc2 =>
              refine wpAnyH_at (i := 3) (v := ?vgc3) (a1 := ?xgc3) rfl (by kernel_rfl) (by kernel_rfl) (by kernel_rfl) (fun _ _ _ h => h) (Or.inl ⟨by rfl, ?ygc3⟩) (by assumption) ?hgc3 ?zgc3
              case ygc3 => (intro w hSw; (try dsimp only at hSw); go_simp; try (with_reducible rfl))
              case hgc3 => (go_simp; exact rfl)
              case zgc3 =>
              refine wpAnyH_at (i := 4) (v := ?vgc4) (a1 := ?xgc4) rfl (by kernel_rfl) (by kernel_rfl) (by kernel_rfl) (fun _ _ _ h => h) (Or.inl ⟨by rfl, ?ygc4⟩) (by assumption) ?hgc4 ?zgc4
              case ygc4 => (intro w hSw; (try dsimp only at hSw); go_simp; try (with_reducible rfl))
              case hgc4 => (go_simp; exact rfl)
              case zgc4 =>
              refine wpAnyH_ready (rs := [5]) (by kernel_rfl) (by simp) ?_
              refine AllReadyH.cons rfl (fun K hK => ?_) AllReadyH.nil
              go_simp
              refine (CS.out _ (SB.out _ (by assumption))).mono ?_
              rintro e w8 ⟨rfl, h8⟩
              try go_wp2_with fail
              refine hK.out _ _ (SK.out _ (by assumption)) (fun hHeld2 => ?_)
              clear hK K hHeld
              have hHeld := hHeld2
              clear hHeld2
              refine wpAnyH_at (i := 6) (v := ?vgc6) (a1 := ?xgc6) rfl (by kernel_rfl) (by kernel_rfl) (by kernel_rfl) (fun _ _ _ h => h) (Or.inl ⟨by rfl, ?ygc6⟩) (by assumption) ?hgc6 ?zgc6
              case ygc6 => (intro w hSw; (try dsimp only at hSw); go_simp; try (with_reducible rfl))
              case hgc6 => (go_simp; exact rfl)
              case zgc6 =>
              refine wpAnyH_done (by kernel_rfl) ?_ _
              have H9 := hide (bel2 HA1.out (SB.out _ (by assumption)).2)
              clear CS SK SB HU
              go_wp2_with fail
              go_ret
              exact ⟨rfl, H9.out⟩
            · have heq : (t.p.ep == ep) = false := by simpa using hei
              have hlt' : i < i0 := by
                by_cases h : i = i0
                · subst h
                  have h1 := HT0.out
                  rw [HTI.out] at h1
                  rw [Option.some.inj h1] at hei
                  exact absurd HE0.out hei
                · omega
              clear hei
              go_wp2_with fail
              go_roundg (N - i - 1)
              case measure => omega
              case rel => exact ⟨i + 1, by omega, by omega, by first | rfl | simp, HU⟩
        focus
          refine kk _ _ ?_
          clear kk
          obtain ⟨wB, hwB⟩ : ∃ wB, wB = wA.alloc (.cells zeroP 30) := ⟨_, rfl⟩
          have HBX : Hid (Below w.heap.size w wB) := hide (by rw [hwB]; exact bel_alloc HA1.out _)
          have HNO := hide hnone
          clear hnone
          go_upto_region 17 with fail
          rw [← hwB]
          clear hwB
          go_wp2_with fail
          go_loopg [17] N (fun g v17 wx => ∃ i : Nat, i + g = N ∧ v17 = .int .i64 (i : Int) ∧ Hid (Below w.heap.size w wx))
          case atStart => exact ⟨0, by omega, rfl, HBX⟩
          case round =>
            obtain ⟨i, hi, rfl, HU⟩ := hrel
            clear HBX
            by_cases hiN : i < N
            · obtain ⟨t, b, off, ht, rfl, hrk⟩ := HITE.out i hiN
              obtain ⟨y0, -⟩ := nine (hrk _ HU.out).1
              have heq : (t.p.ep == ep) = false := beq_eq_false_iff_ne.2 (HNO.out t (List.mem_of_getElem? ht))
              clear hrk ht
              go_wp2_with fail
              go_roundg (N - i - 1)
              case measure => omega
              case rel => exact ⟨i + 1, by omega, by first | rfl | simp, HU⟩
            · go_wp2_with fail
              go_ret
              exact ⟨rfl, HU.out⟩
end Go.Proofs.Ytlabdbkmlkmnkaa
