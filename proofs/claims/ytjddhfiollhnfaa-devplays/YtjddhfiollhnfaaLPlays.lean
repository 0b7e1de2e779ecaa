/-
  The law DevPlays, walked.
-/
import Derived.Test.YtjddhfiollhnfaaDP3
import Derived.Deep.LoopGhost
import Derived.Deep.CutBlock
namespace Go.Proofs.Ytjddhfiollhnfaa
open Go.RowKit

theorem Two.drop {w : World} {base : Nat} {X : List Nat} {B R : Nat} {s : Dv} {r : Rv} (h : Two w base X B R s r) : Two w base [] B R s r := by
  obtain ⟨F, G, hd, hr, hF, hG, hX, h0⟩ := h
  exact ⟨F, G, hd, hr, fun k hk => ⟨(hF k hk).1, (hF k hk).2.1, by simp⟩, fun k hk => ⟨(hG k hk).1, by simp⟩, by simp, h0⟩

set_option maxRecDepth 20000 in
set_option maxHeartbeats 8000000 in
theorem plays_walk (p : Option Addr) (N cap : Nat) (ts : List OpT) (w : World) (h : OpRow w (.slice p N cap) ts) :
    Calls Try.prog 3 #[.slice p N cap] w fun e w' => e = .returned (.bool true) ∧ Below w.heap.size w w' := by
  have HROW := hide h
  clear h
  go_enter Try.func3, Try.ntmps3
  go_wp2_with fail
  refine (awake_any w).mono ?_
  rintro e w1 ⟨rfl, hb1⟩
  have HB1 := hide hb1
  clear hb1
  go_wp2_with fail
  refine (new_any w1).mono ?_
  rintro e w2 ⟨rfl, hd2, hb2⟩
  have HD2 := hide hd2
  have HB2 := hide hb2
  clear hd2 hb2
  go_wp2_with fail
  refine (rnew_any w2).mono ?_
  rintro e w3 ⟨rfl, hd3, hb3⟩
  have h12 : w1.heap.size < w2.heap.size := HD2.out.lt _ (by simp)
  have HT3 : Hid (Two w3 w.heap.size [] w1.heap.size w2.heap.size Dv.new Rv.new) := hide (by
    have h1 := HB1.out.size
    refine ⟨[w1.heap.size], [w2.heap.size], HD2.out.keep (keep_below hb3 []) (by simp), hd3, fun k hk => ?_, fun k hk => ?_, by simp, ?_⟩
    · simp at hk ⊢
      omega
    · simp at hk ⊢
      omega
    · have := hb3.size
      omega)
  have HB3 : Hid (Below w.heap.size w w3) := hide (by
    have h1 := HB1.out.size
    have h2 := HB2.out.size
    exact (HB1.out.trans (HB2.out.mono h1)).trans (hb3.mono (by omega)))
  clear hd3 hb3
  go_wp2_with fail
  go_loopg [6] 100 (fun k v6 wr => ∃ (i : Nat) (s : Dv) (r : Rv), i + k = 100 ∧ i ≤ N ∧ v6 = .int .i64 (i : Int) ∧ Hid (Two wr w.heap.size [] w1.heap.size w2.heap.size s r) ∧ Hid (Sim s r) ∧ Hid (Below w.heap.size w wr))
  case atStart => exact ⟨0, _, _, by omega, Nat.zero_le _, rfl, HT3, hide Sim.new, HB3⟩
  case round =>
    clear HT3 HB3
    obtain ⟨i, s, r, hik, hiN, rfl, HT, HS, HB⟩ := hrel
    by_cases hlt : i < N
    · have hd : decide ((i : Int) < (N : Int)) = true := decide_eq_true (by omega)
      by_cases h100 : i < 100
      · have hd2 : decide ((i : Int) < 100) = true := decide_eq_true (by omega)
        obtain ⟨t, b, off, rfl, hok, hce⟩ := HROW.out.at hlt
        obtain ⟨td, tn, tv, tb⟩ := t
        obtain ⟨hby, hbn, hbd⟩ := hok
        obtain ⟨vp, vc, hv⟩ := hby.slice
        replace hv : tv = .slice vp tb.length vc := hv
        subst hv
        obtain ⟨c0, c1, c2⟩ := hce wr HB.out
        have HBY := hide hby
        have HBN : Hid (-9223372036854775808 ≤ tn ∧ tn ≤ 9223372036854775807) := hide hbn
        have HVK : Hid (tb ≠ [] → ∀ k, (Value.slice vp tb.length vc).ownBlock = some k → k < w.heap.size) := hide (fun hl k hk => hby.lt hl k hk)
        clear hce hby hbn
        by_cases hbig : (40000 : Int) < (tb.length : Int)
        · have hd3 : decide ((40000 : Int) < (tb.length : Int)) = true := by simpa using hbig
          have HBE : Hid (Below w.heap.size w (wr.alloc (.cells #[.int .i64 td, .int .i64 tn, .slice vp tb.length vc] 30))) := hide (HB.out.trans ((Below.refl _ wr).alloc HB.out.size _))
          clear hbig
          go_wp2_with fail
          go_ret
          exact ⟨rfl, HBE.out⟩
        · have hd3 : decide ((40000 : Int) < (tb.length : Int)) = false := by simpa using hbig
          have HLB : Hid (tb.length ≤ 40000) := hide (by omega)
          clear hbig
          go_upto_block 2 with fail
          obtain ⟨w5, hw5⟩ : ∃ w5, w5 = wr.alloc (.cells #[.int .i64 td, .int .i64 tn, .slice vp tb.length vc] 30) := ⟨_, rfl⟩
          rw [← hw5]
          have hb5 : Below wr.heap.size wr w5 := by rw [hw5]; exact (Below.refl _ wr).alloc (Nat.le_refl _) _
          have ho5 : w5.heap[wr.heap.size]? = some (.cells #[.int .i64 td, .int .i64 tn, .slice vp tb.length vc] 30 (0, 0)) := by rw [hw5]; exact heap_alloc_new wr _
          have HT5 : Hid (Two w5 w.heap.size [wr.heap.size] w1.heap.size w2.heap.size s r) := hide (HT.out.with hb5 (Nat.le_refl _) (lt_of_block ho5))
          have HB5 : Hid (Below w.heap.size w w5) := hide (HB.out.trans (hb5.mono HB.out.size))
          have d0 : w5.cell? ⟨wr.heap.size, 0, none⟩ = some (.int .i64 td) := tag_cell ho5 0 _ rfl
          have d1 : w5.cell? ⟨wr.heap.size, 1, none⟩ = some (.int .i64 tn) := tag_cell ho5 1 _ rfl
          have d2 : w5.cell? ⟨wr.heap.size, 2, none⟩ = some (.slice vp tb.length vc) := tag_cell ho5 2 _ rfl
          have SK1 : Hid (∀ wx : World, wx.heap[wr.heap.size]? = w5.heap[wr.heap.size]? → wx.cell? ⟨wr.heap.size, 1, none⟩ = some (.int .i64 tn)) := hide (fun wx h => tag_cell (h.trans ho5) 1 _ rfl)
          have SK2 : Hid (∀ wx : World, wx.heap[wr.heap.size]? = w5.heap[wr.heap.size]? → wx.cell? ⟨wr.heap.size, 2, none⟩ = some (.slice vp tb.length vc)) := hide (fun wx h => tag_cell (h.trans ho5) 2 _ rfl)
          clear hw5 hb5 ho5 HT HB c0 c1 c2 hd hd2 hd3
          go_cut [8] from 14 to 103 (fun v8 wx => v8 = .bool true ∧ ∃ s9 r9, Hid (Two wx w.heap.size [] w1.heap.size w2.heap.size s9 r9) ∧ Hid (Sim s9 r9) ∧ Hid (Below w.heap.size w wx))
          case first =>
            by_cases hd0 : td = 0
            · subst hd0
              obtain ⟨xx, hxx⟩ : ∃ x, (s.app tb).2 = x := ⟨_, rfl⟩
              have HX1 := hide hxx
              have HX2 : Hid ((r.app tb).2 = xx) := hide ((HS.out.app tb).1.symm.trans hxx)
              have HSN := hide (HS.out.app tb).2
              clear hxx
              have HT0 : Hid (Two w5.drew w.heap.size [wr.heap.size] w1.heap.size w2.heap.size s r) := hide (HT5.out.below (bel_one w5))
              have HE0 : Hid (w5.drew.heap[wr.heap.size]? = w5.heap[wr.heap.size]?) := hide rfl
              have HB0 : Hid (Below w.heap.size w w5.drew) := hide HB5.out.drew
              go_wp2_with fail
              refine wp_region_held_drew (S := (fun wx => wx.cell? ⟨wr.heap.size, 2, none⟩ = some (.slice vp tb.length vc))) (by kernel_rfl) (SK2.out _ rfl) (fun hHeld => ?_)
              refine wpAnyH_at (i := 0) (v := ?vuappn1x0) (a1 := ?xuappn1x0) rfl (by kernel_rfl) (by kernel_rfl) (by kernel_rfl) (fun _ _ _ h => h) (Or.inl ⟨by rfl, ?yuappn1x0⟩) (by assumption) ?huappn1x0 ?zuappn1x0
              case yuappn1x0 => (intro w hSw; (try dsimp only at hSw); go_simp; try (with_reducible rfl))
              case huappn1x0 => (go_simp; exact rfl)
              case zuappn1x0 =>
              refine wpAnyH_at (i := 1) (v := ?vuappn1x1) (a1 := ?xuappn1x1) rfl (by kernel_rfl) (by kernel_rfl) (by kernel_rfl) (fun _ _ _ h => h) (Or.inl ⟨by rfl, ?yuappn1x1⟩) (by assumption) ?huappn1x1 ?zuappn1x1
              case yuappn1x1 => (intro w hSw; (try dsimp only at hSw); go_simp; try (with_reducible rfl))
              case huappn1x1 => (go_simp; exact rfl)
              case zuappn1x1 =>
              refine wpAnyH_at (i := 2) (v := ?vuappn1x2) (a1 := ?xuappn1x2) rfl (by kernel_rfl) (by kernel_rfl) (by kernel_rfl) (fun _ _ _ h => h) (Or.inl ⟨by rfl, ?yuappn1x2⟩) (by assumption) ?huappn1x2 ?zuappn1x2
              case yuappn1x2 => (intro w hSw; (try dsimp only at hSw); go_simp; try (with_reducible rfl))
              case huappn1x2 => (go_simp; exact rfl)
              case zuappn1x2 =>
              refine wpAnyH_at (i := 4) (v := ?vuappn1x4) (a1 := ?xuappn1x4) rfl (by kernel_rfl) (by kernel_rfl) (by kernel_rfl) (fun _ _ _ h => h) (Or.inl ⟨by rfl, ?yuappn1x4⟩) (by assumption) ?huappn1x4 ?zuappn1x4
              case yuappn1x4 => (intro w hSw; (try dsimp only at hSw); go_simp; try (with_reducible rfl))
              case huappn1x4 => (go_simp; exact rfl)
              case zuappn1x4 =>
              refine wpAnyH_at (i := 5) (v := ?vuappn1x5) (a1 := ?xuappn1x5) rfl (by kernel_rfl) (by kernel_rfl) (by kernel_rfl) (fun _ _ _ h => h) (Or.inl ⟨by rfl, ?yuappn1x5⟩) (by assumption) ?huappn1x5 ?zuappn1x5
              case yuappn1x5 => (intro w hSw; (try dsimp only at hSw); go_simp; try (with_reducible rfl))
              case huappn1x5 => (go_simp; exact rfl)
              case zuappn1x5 =>
              refine wpAnyH_at (i := 6) (v := ?vuappn1x6) (a1 := ?xuappn1x6) rfl (by kernel_rfl) (by kernel_rfl) (by kernel_rfl) (fun _ _ _ h => h) (Or.inl ⟨by rfl, ?yuappn1x6⟩) (by assumption) ?huappn1x6 ?zuappn1x6
              case yuappn1x6 => (intro w hSw; (try dsimp only at hSw); go_simp; try (with_reducible rfl))
              case huappn1x6 => (go_simp; exact rfl)
              case zuappn1x6 =>
              refine wpAnyH_ready (rs := [3]) (by kernel_rfl) (by simp) ?_
              refine AllReadyH.cons rfl (fun K hK => ?_) AllReadyH.nil
              go_simp
              refine (tapp_d HT0.out (.slice vp tb.length vc) tb (HBY.out.below HB0.out) HVK.out HLB.out xx HX1.out).mono ?_
              rintro e wzq3 ⟨rfl, hT, hR⟩
              have HT0q3 := hide hT
              have HE0q3 : Hid (wzq3.heap[wr.heap.size]? = w5.heap[wr.heap.size]?) := hide ((hR.2 _ (by simp)).trans HE0.out)
              have HB0q3 : Hid (Below w.heap.size w wzq3) := hide (HB0.out.trans hR.1)
              clear hT hR
              try go_wp2_with fail
              refine hK.out _ _ (SK2.out _ HE0q3.out) (fun hHeld2 => ?_)
              clear hK K hHeld
              have hHeld := hHeld2
              clear hHeld2
              refine wpAnyH_ready (rs := [7]) (by kernel_rfl) (by simp) ?_
              refine AllReadyH.cons rfl (fun K hK => ?_) AllReadyH.nil
              go_simp
              refine (tapp_r HT0q3.out (.slice vp tb.length vc) tb (HBY.out.below HB0q3.out) HVK.out HLB.out xx HX2.out).mono ?_
              rintro e wzq3q7 ⟨rfl, hT, hR⟩
              have HT0q3q7 := hide hT
              have HE0q3q7 : Hid (wzq3q7.heap[wr.heap.size]? = w5.heap[wr.heap.size]?) := hide ((hR.2 _ (by simp)).trans HE0q3.out)
              have HB0q3q7 : Hid (Below w.heap.size w wzq3q7) := hide (HB0q3.out.trans hR.1)
              clear hT hR
              try go_wp2_with fail
              refine hK.out _ _ (SK2.out _ HE0q3q7.out) (fun hHeld2 => ?_)
              clear hK K hHeld
              have hHeld := hHeld2
              clear hHeld2
              refine wpAnyH_at (i := 8) (v := ?vuappn1p3p7x8) (a1 := ?xuappn1p3p7x8) rfl (by kernel_rfl) (by kernel_rfl) (by kernel_rfl) (fun _ _ _ h => h) (Or.inl ⟨by rfl, ?yuappn1p3p7x8⟩) (by assumption) ?huappn1p3p7x8 ?zuappn1p3p7x8
              case yuappn1p3p7x8 => (intro w hSw; (try dsimp only at hSw); go_simp; try (with_reducible rfl))
              case huappn1p3p7x8 => (go_simp; exact rfl)
              case zuappn1p3p7x8 =>
              refine wpAnyH_at (i := 9) (v := ?vuappn1p3p7x9) (a1 := ?xuappn1p3p7x9) rfl (by kernel_rfl) (by kernel_rfl) (by kernel_rfl) (fun _ _ _ h => h) (Or.inl ⟨by rfl, ?yuappn1p3p7x9⟩) (by assumption) ?huappn1p3p7x9 ?zuappn1p3p7x9
              case yuappn1p3p7x9 => (intro w hSw; (try dsimp only at hSw); go_simp; try (with_reducible rfl))
              case huappn1p3p7x9 => (go_simp; exact rfl)
              case zuappn1p3p7x9 =>
              refine wpAnyH_done (by kernel_rfl) ?_ _
              go_wp2_with fail
              go_meet
              exact ⟨rfl, _, _, hide HT0q3q7.out.drop, HSN, HB0q3q7⟩
            have ne0 : (td == 0) = false := beq_eq_false_iff_ne.2 hd0
            clear hd0
            by_cases hd1 : td = 1
            · subst hd1
              obtain ⟨xx, hxx⟩ : ∃ x, (s.app tb).2 = x := ⟨_, rfl⟩
              have HX1 := hide hxx
              have HX2 : Hid ((r.app tb).2 = xx) := hide ((HS.out.app tb).1.symm.trans hxx)
              have HSN := hide (HS.out.app tb).2
              clear hxx
              have HT0 : Hid (Two w5.drew w.heap.size [wr.heap.size] w1.heap.size w2.heap.size s r) := hide (HT5.out.below (bel_one w5))
              have HE0 : Hid (w5.drew.heap[wr.heap.size]? = w5.heap[wr.heap.size]?) := hide rfl
              have HB0 : Hid (Below w.heap.size w w5.drew) := hide HB5.out.drew
              go_wp2_with fail
              refine wp_region_held_drew (S := (fun wx => wx.cell? ⟨wr.heap.size, 2, none⟩ = some (.slice vp tb.length vc))) (by kernel_rfl) (SK2.out _ rfl) (fun hHeld => ?_)
              refine wpAnyH_at (i := 0) (v := ?vuappn2x0) (a1 := ?xuappn2x0) rfl (by kernel_rfl) (by kernel_rfl) (by kernel_rfl) (fun _ _ _ h => h) (Or.inl ⟨by rfl, ?yuappn2x0⟩) (by assumption) ?huappn2x0 ?zuappn2x0
              case yuappn2x0 => (intro w hSw; (try dsimp only at hSw); go_simp; try (with_reducible rfl))
              case huappn2x0 => (go_simp; exact rfl)
              case zuappn2x0 =>
              refine wpAnyH_at (i := 1) (v := ?vuappn2x1) (a1 := ?xuappn2x1) rfl (by kernel_rfl) (by kernel_rfl) (by kernel_rfl) (fun _ _ _ h => h) (Or.inl ⟨by rfl, ?yuappn2x1⟩) (by assumption) ?huappn2x1 ?zuappn2x1
              case yuappn2x1 => (intro w hSw; (try dsimp only at hSw); go_simp; try (with_reducible rfl))
              case huappn2x1 => (go_simp; exact rfl)
              case zuappn2x1 =>
              refine wpAnyH_at (i := 2) (v := ?vuappn2x2) (a1 := ?xuappn2x2) rfl (by kernel_rfl) (by kernel_rfl) (by kernel_rfl) (fun _ _ _ h => h) (Or.inl ⟨by rfl, ?yuappn2x2⟩) (by assumption) ?huappn2x2 ?zuappn2x2
              case yuappn2x2 => (intro w hSw; (try dsimp only at hSw); go_simp; try (with_reducible rfl))
              case huappn2x2 => (go_simp; exact rfl)
              case zuappn2x2 =>
              refine wpAnyH_at (i := 4) (v := ?vuappn2x4) (a1 := ?xuappn2x4) rfl (by kernel_rfl) (by kernel_rfl) (by kernel_rfl) (fun _ _ _ h => h) (Or.inl ⟨by rfl, ?yuappn2x4⟩) (by assumption) ?huappn2x4 ?zuappn2x4
              case yuappn2x4 => (intro w hSw; (try dsimp only at hSw); go_simp; try (with_reducible rfl))
              case huappn2x4 => (go_simp; exact rfl)
              case zuappn2x4 =>
              refine wpAnyH_at (i := 5) (v := ?vuappn2x5) (a1 := ?xuappn2x5) rfl (by kernel_rfl) (by kernel_rfl) (by kernel_rfl) (fun _ _ _ h => h) (Or.inl ⟨by rfl, ?yuappn2x5⟩) (by assumption) ?huappn2x5 ?zuappn2x5
              case yuappn2x5 => (intro w hSw; (try dsimp only at hSw); go_simp; try (with_reducible rfl))
              case huappn2x5 => (go_simp; exact rfl)
              case zuappn2x5 =>
              refine wpAnyH_at (i := 6) (v := ?vuappn2x6) (a1 := ?xuappn2x6) rfl (by kernel_rfl) (by kernel_rfl) (by kernel_rfl) (fun _ _ _ h => h) (Or.inl ⟨by rfl, ?yuappn2x6⟩) (by assumption) ?huappn2x6 ?zuappn2x6
              case yuappn2x6 => (intro w hSw; (try dsimp only at hSw); go_simp; try (with_reducible rfl))
              case huappn2x6 => (go_simp; exact rfl)
              case zuappn2x6 =>
              refine wpAnyH_ready (rs := [3]) (by kernel_rfl) (by simp) ?_
              refine AllReadyH.cons rfl (fun K hK => ?_) AllReadyH.nil
              go_simp
              refine (tapp_d HT0.out (.slice vp tb.length vc) tb (HBY.out.below HB0.out) HVK.out HLB.out xx HX1.out).mono ?_
              rintro e wzq3 ⟨rfl, hT, hR⟩
              have HT0q3 := hide hT
              have HE0q3 : Hid (wzq3.heap[wr.heap.size]? = w5.heap[wr.heap.size]?) := hide ((hR.2 _ (by simp)).trans HE0.out)
              have HB0q3 : Hid (Below w.heap.size w wzq3) := hide (HB0.out.trans hR.1)
              clear hT hR
              try go_wp2_with fail
              refine hK.out _ _ (SK2.out _ HE0q3.out) (fun hHeld2 => ?_)
              clear hK K hHeld
              have hHeld := hHeld2
              clear hHeld2
              refine wpAnyH_ready (rs := [7]) (by kernel_rfl) (by simp) ?_
              refine AllReadyH.cons rfl (fun K hK => ?_) AllReadyH.nil
              go_simp
              refine (tapp_r HT0q3.out (.slice vp tb.length vc) tb (HBY.out.below HB0q3.out) HVK.out HLB.out xx HX2.out).mono ?_
              rintro e wzq3q7 ⟨rfl, hT, hR⟩
              have HT0q3q7 := hide hT
              have HE0q3q7 : Hid (wzq3q7.heap[wr.heap.size]? = w5.heap[wr.heap.size]?) := hide ((hR.2 _ (by simp)).trans HE0q3.out)
              have HB0q3q7 : Hid (Below w.heap.size w wzq3q7) := hide (HB0q3.out.trans hR.1)
              clear hT hR
              try go_wp2_with fail
              refine hK.out _ _ (SK2.out _ HE0q3q7.out) (fun hHeld2 => ?_)
              clear hK K hHeld
              have hHeld := hHeld2
              clear hHeld2
              refine wpAnyH_at (i := 8) (v := ?vuappn2p3p7x8) (a1 := ?xuappn2p3p7x8) rfl (by kernel_rfl) (by kernel_rfl) (by kernel_rfl) (fun _ _ _ h => h) (Or.inl ⟨by rfl, ?yuappn2p3p7x8⟩) (by assumption) ?huappn2p3p7x8 ?zuappn2p3p7x8
              case yuappn2p3p7x8 => (intro w hSw; (try dsimp only at hSw); go_simp; try (with_reducible rfl))
              case huappn2p3p7x8 => (go_simp; exact rfl)
              case zuappn2p3p7x8 =>
              refine wpAnyH_at (i := 9) (v := ?vuappn2p3p7x9) (a1 := ?xuappn2p3p7x9) rfl (by kernel_rfl) (by kernel_rfl) (by kernel_rfl) (fun _ _ _ h => h) (Or.inl ⟨by rfl, ?yuappn2p3p7x9⟩) (by assumption) ?huappn2p3p7x9 ?zuappn2p3p7x9
              case yuappn2p3p7x9 => (intro w hSw; (try dsimp only at hSw); go_simp; try (with_reducible rfl))
              case huappn2p3p7x9 => (go_simp; exact rfl)
              case zuappn2p3p7x9 =>
              refine wpAnyH_done (by kernel_rfl) ?_ _
              go_wp2_with fail
              go_meet
              exact ⟨rfl, _, _, hide HT0q3q7.out.drop, HSN, HB0q3q7⟩
            have ne1 : (td == 1) = false := beq_eq_false_iff_ne.2 hd1
            clear hd1
            by_cases hd2 : td = 2
            · subst hd2
              obtain ⟨xx, hxx⟩ : ∃ x, (s.app tb).2 = x := ⟨_, rfl⟩
              have HX1 := hide hxx
              have HX2 : Hid ((r.app tb).2 = xx) := hide ((HS.out.app tb).1.symm.trans hxx)
              have HSN := hide (HS.out.app tb).2
              clear hxx
              have HT0 : Hid (Two w5.drew w.heap.size [wr.heap.size] w1.heap.size w2.heap.size s r) := hide (HT5.out.below (bel_one w5))
              have HE0 : Hid (w5.drew.heap[wr.heap.size]? = w5.heap[wr.heap.size]?) := hide rfl
              have HB0 : Hid (Below w.heap.size w w5.drew) := hide HB5.out.drew
              go_wp2_with fail
              refine wp_region_held_drew (S := (fun wx => wx.cell? ⟨wr.heap.size, 2, none⟩ = some (.slice vp tb.length vc))) (by kernel_rfl) (SK2.out _ rfl) (fun hHeld => ?_)
              refine wpAnyH_at (i := 0) (v := ?vuappn3x0) (a1 := ?xuappn3x0) rfl (by kernel_rfl) (by kernel_rfl) (by kernel_rfl) (fun _ _ _ h => h) (Or.inl ⟨by rfl, ?yuappn3x0⟩) (by assumption) ?huappn3x0 ?zuappn3x0
              case yuappn3x0 => (intro w hSw; (try dsimp only at hSw); go_simp; try (with_reducible rfl))
              case huappn3x0 => (go_simp; exact rfl)
              case zuappn3x0 =>
              refine wpAnyH_at (i := 1) (v := ?vuappn3x1) (a1 := ?xuappn3x1) rfl (by kernel_rfl) (by kernel_rfl) (by kernel_rfl) (fun _ _ _ h => h) (Or.inl ⟨by rfl, ?yuappn3x1⟩) (by assumption) ?huappn3x1 ?zuappn3x1
              case yuappn3x1 => (intro w hSw; (try dsimp only at hSw); go_simp; try (with_reducible rfl))
              case huappn3x1 => (go_simp; exact rfl)
              case zuappn3x1 =>
              refine wpAnyH_at (i := 2) (v := ?vuappn3x2) (a1 := ?xuappn3x2) rfl (by kernel_rfl) (by kernel_rfl) (by kernel_rfl) (fun _ _ _ h => h) (Or.inl ⟨by rfl, ?yuappn3x2⟩) (by assumption) ?huappn3x2 ?zuappn3x2
              case yuappn3x2 => (intro w hSw; (try dsimp only at hSw); go_simp; try (with_reducible rfl))
              case huappn3x2 => (go_simp; exact rfl)
              case zuappn3x2 =>
              refine wpAnyH_at (i := 4) (v := ?vuappn3x4) (a1 := ?xuappn3x4) rfl (by kernel_rfl) (by kernel_rfl) (by kernel_rfl) (fun _ _ _ h => h) (Or.inl ⟨by rfl, ?yuappn3x4⟩) (by assumption) ?huappn3x4 ?zuappn3x4
              case yuappn3x4 => (intro w hSw; (try dsimp only at hSw); go_simp; try (with_reducible rfl))
              case huappn3x4 => (go_simp; exact rfl)
              case zuappn3x4 =>
              refine wpAnyH_at (i := 5) (v := ?vuappn3x5) (a1 := ?xuappn3x5) rfl (by kernel_rfl) (by kernel_rfl) (by kernel_rfl) (fun _ _ _ h => h) (Or.inl ⟨by rfl, ?yuappn3x5⟩) (by assumption) ?huappn3x5 ?zuappn3x5
              case yuappn3x5 => (intro w hSw; (try dsimp only at hSw); go_simp; try (with_reducible rfl))
              case huappn3x5 => (go_simp; exact rfl)
              case zuappn3x5 =>
              refine wpAnyH_at (i := 6) (v := ?vuappn3x6) (a1 := ?xuappn3x6) rfl (by kernel_rfl) (by kernel_rfl) (by kernel_rfl) (fun _ _ _ h => h) (Or.inl ⟨by rfl, ?yuappn3x6⟩) (by assumption) ?huappn3x6 ?zuappn3x6
              case yuappn3x6 => (intro w hSw; (try dsimp only at hSw); go_simp; try (with_reducible rfl))
              case huappn3x6 => (go_simp; exact rfl)
              case zuappn3x6 =>
              refine wpAnyH_ready (rs := [3]) (by kernel_rfl) (by simp) ?_
              refine AllReadyH.cons rfl (fun K hK => ?_) AllReadyH.nil
              go_simp
              refine (tapp_d HT0.out (.slice vp tb.length vc) tb (HBY.out.below HB0.out) HVK.out HLB.out xx HX1.out).mono ?_
              rintro e wzq3 ⟨rfl, hT, hR⟩
              have HT0q3 := hide hT
              have HE0q3 : Hid (wzq3.heap[wr.heap.size]? = w5.heap[wr.heap.size]?) := hide ((hR.2 _ (by simp)).trans HE0.out)
              have HB0q3 : Hid (Below w.heap.size w wzq3) := hide (HB0.out.trans hR.1)
              clear hT hR
              try go_wp2_with fail
              refine hK.out _ _ (SK2.out _ HE0q3.out) (fun hHeld2 => ?_)
              clear hK K hHeld
              have hHeld := hHeld2
              clear hHeld2
              refine wpAnyH_ready (rs := [7]) (by kernel_rfl) (by simp) ?_
              refine AllReadyH.cons rfl (fun K hK => ?_) AllReadyH.nil
              go_simp
              refine (tapp_r HT0q3.out (.slice vp tb.length vc) tb (HBY.out.below HB0q3.out) HVK.out HLB.out xx HX2.out).mono ?_
              rintro e wzq3q7 ⟨rfl, hT, hR⟩
              have HT0q3q7 := hide hT
              have HE0q3q7 : Hid (wzq3q7.heap[wr.heap.size]? = w5.heap[wr.heap.size]?) := hide ((hR.2 _ (by simp)).trans HE0q3.out)
              have HB0q3q7 : Hid (Below w.heap.size w wzq3q7) := hide (HB0q3.out.trans hR.1)
              clear hT hR
              try go_wp2_with fail
              refine hK.out _ _ (SK2.out _ HE0q3q7.out) (fun hHeld2 => ?_)
              clear hK K hHeld
              have hHeld := hHeld2
              clear hHeld2
              refine wpAnyH_at (i := 8) (v := ?vuappn3p3p7x8) (a1 := ?xuappn3p3p7x8) rfl (by kernel_rfl) (by kernel_rfl) (by kernel_rfl) (fun _ _ _ h => h) (Or.inl ⟨by rfl, ?yuappn3p3p7x8⟩) (by assumption) ?huappn3p3p7x8 ?zuappn3p3p7x8
              case yuappn3p3p7x8 => (intro w hSw; (try dsimp only at hSw); go_simp; try (with_reducible rfl))
              case huappn3p3p7x8 => (go_simp; exact rfl)
              case zuappn3p3p7x8 =>
              refine wpAnyH_at (i := 9) (v := ?vuappn3p3p7x9) (a1 := ?xuappn3p3p7x9) rfl (by kernel_rfl) (by kernel_rfl) (by kernel_rfl) (fun _ _ _ h => h) (Or.inl ⟨by rfl, ?yuappn3p3p7x9⟩) (by assumption) ?huappn3p3p7x9 ?zuappn3p3p7x9
              case yuappn3p3p7x9 => (intro w hSw; (try dsimp only at hSw); go_simp; try (with_reducible rfl))
              case huappn3p3p7x9 => (go_simp; exact rfl)
              case zuappn3p3p7x9 =>
              refine wpAnyH_done (by kernel_rfl) ?_ _
              go_wp2_with fail
              go_meet
              exact ⟨rfl, _, _, hide HT0q3q7.out.drop, HSN, HB0q3q7⟩
            have ne2 : (td == 2) = false := beq_eq_false_iff_ne.2 hd2
            clear hd2
            by_cases hd3 : td = 3
            · subst hd3
              obtain ⟨xx, hxx⟩ : ∃ x, s.sync.2 = x := ⟨_, rfl⟩
              have HX1 := hide hxx
              have HX2 : Hid (r.sync.2 = xx) := hide (HS.out.sync.1.symm.trans hxx)
              have HSN := hide HS.out.sync.2
              clear hxx
              go_wp2_with fail
              refine (tsync_d HT5.out xx HX1.out).mono ?_
              rintro e w6 ⟨rfl, hT, hR⟩
              have HT6 := hide hT
              have he6 : w6.heap[wr.heap.size]? = w5.heap[wr.heap.size]? := hR.2 _ (by simp)
              have HB6 : Hid (Below w.heap.size w w6) := hide (HB5.out.trans hR.1)
              clear hT hR he6
              go_wp2_with fail
              refine (tsync_r HT6.out xx HX2.out).mono ?_
              rintro e w7 ⟨rfl, hT, hR⟩
              have HT7 := hide hT
              have HB7 : Hid (Below w.heap.size w w7) := hide (HB6.out.trans hR.1)
              clear hT hR
              go_wp2_with fail
              go_meet
              exact ⟨rfl, _, _, hide HT7.out.drop, HSN, HB7⟩
            have ne3 : (td == 3) = false := beq_eq_false_iff_ne.2 hd3
            clear hd3
            by_cases hd4 : td = 4
            · subst hd4
              obtain ⟨xx, hxx⟩ : ∃ x, (s.trim tn).2 = x := ⟨_, rfl⟩
              have HX1 := hide hxx
              have HX2 : Hid ((r.trim tn).2 = xx) := hide ((HS.out.trim tn).1.symm.trans hxx)
              have HSN := hide (HS.out.trim tn).2
              clear hxx
              have HT0 : Hid (Two w5.drew w.heap.size [wr.heap.size] w1.heap.size w2.heap.size s r) := hide (HT5.out.below (bel_one w5))
              have HE0 : Hid (w5.drew.heap[wr.heap.size]? = w5.heap[wr.heap.size]?) := hide rfl
              have HB0 : Hid (Below w.heap.size w w5.drew) := hide HB5.out.drew
              go_wp2_with fail
              refine wp_region_held_drew (S := (fun wx => wx.cell? ⟨wr.heap.size, 1, none⟩ = some (.int .i64 tn))) (by kernel_rfl) (SK1.out _ rfl) (fun hHeld => ?_)
              refine wpAnyH_at (i := 0) (v := ?vutrimn4x0) (a1 := ?xutrimn4x0) rfl (by kernel_rfl) (by kernel_rfl) (by kernel_rfl) (fun _ _ _ h => h) (Or.inl ⟨by rfl, ?yutrimn4x0⟩) (by assumption) ?hutrimn4x0 ?zutrimn4x0
              case yutrimn4x0 => (intro w hSw; (try dsimp only at hSw); go_simp; try (with_reducible rfl))
              case hutrimn4x0 => (go_simp; exact rfl)
              case zutrimn4x0 =>
              refine wpAnyH_at (i := 1) (v := ?vutrimn4x1) (a1 := ?xutrimn4x1) rfl (by kernel_rfl) (by kernel_rfl) (by kernel_rfl) (fun _ _ _ h => h) (Or.inl ⟨by rfl, ?yutrimn4x1⟩) (by assumption) ?hutrimn4x1 ?zutrimn4x1
              case yutrimn4x1 => (intro w hSw; (try dsimp only at hSw); go_simp; try (with_reducible rfl))
              case hutrimn4x1 => (go_simp; exact rfl)
              case zutrimn4x1 =>
              refine wpAnyH_at (i := 2) (v := ?vutrimn4x2) (a1 := ?xutrimn4x2) rfl (by kernel_rfl) (by kernel_rfl) (by kernel_rfl) (fun _ _ _ h => h) (Or.inl ⟨by rfl, ?yutrimn4x2⟩) (by assumption) ?hutrimn4x2 ?zutrimn4x2
              case yutrimn4x2 => (intro w hSw; (try dsimp only at hSw); go_simp; try (with_reducible rfl))
              case hutrimn4x2 => (go_simp; exact rfl)
              case zutrimn4x2 =>
              refine wpAnyH_at (i := 4) (v := ?vutrimn4x4) (a1 := ?xutrimn4x4) rfl (by kernel_rfl) (by kernel_rfl) (by kernel_rfl) (fun _ _ _ h => h) (Or.inl ⟨by rfl, ?yutrimn4x4⟩) (by assumption) ?hutrimn4x4 ?zutrimn4x4
              case yutrimn4x4 => (intro w hSw; (try dsimp only at hSw); go_simp; try (with_reducible rfl))
              case hutrimn4x4 => (go_simp; exact rfl)
              case zutrimn4x4 =>
              refine wpAnyH_at (i := 5) (v := ?vutrimn4x5) (a1 := ?xutrimn4x5) rfl (by kernel_rfl) (by kernel_rfl) (by kernel_rfl) (fun _ _ _ h => h) (Or.inl ⟨by rfl, ?yutrimn4x5⟩) (by assumption) ?hutrimn4x5 ?zutrimn4x5
              case yutrimn4x5 => (intro w hSw; (try dsimp only at hSw); go_simp; try (with_reducible rfl))
              case hutrimn4x5 => (go_simp; exact rfl)
              case zutrimn4x5 =>
              refine wpAnyH_at (i := 6) (v := ?vutrimn4x6) (a1 := ?xutrimn4x6) rfl (by kernel_rfl) (by kernel_rfl) (by kernel_rfl) (fun _ _ _ h => h) (Or.inl ⟨by rfl, ?yutrimn4x6⟩) (by assumption) ?hutrimn4x6 ?zutrimn4x6
              case yutrimn4x6 => (intro w hSw; (try dsimp only at hSw); go_simp; try (with_reducible rfl))
              case hutrimn4x6 => (go_simp; exact rfl)
              case zutrimn4x6 =>
              refine wpAnyH_ready (rs := [3]) (by kernel_rfl) (by simp) ?_
              refine AllReadyH.cons rfl (fun K hK => ?_) AllReadyH.nil
              go_simp
              refine (ttrim_d HT0.out tn HBN.out xx HX1.out).mono ?_
              rintro e wzq3 ⟨rfl, hT, hR⟩
              have HT0q3 := hide hT
              have HE0q3 : Hid (wzq3.heap[wr.heap.size]? = w5.heap[wr.heap.size]?) := hide ((hR.2 _ (by simp)).trans HE0.out)
              have HB0q3 : Hid (Below w.heap.size w wzq3) := hide (HB0.out.trans hR.1)
              clear hT hR
              try go_wp2_with fail
              refine hK.out _ _ (SK1.out _ HE0q3.out) (fun hHeld2 => ?_)
              clear hK K hHeld
              have hHeld := hHeld2
              clear hHeld2
              refine wpAnyH_ready (rs := [7]) (by kernel_rfl) (by simp) ?_
              refine AllReadyH.cons rfl (fun K hK => ?_) AllReadyH.nil
              go_simp
              refine (ttrim_r HT0q3.out tn HBN.out xx HX2.out).mono ?_
              rintro e wzq3q7 ⟨rfl, hT, hR⟩
              have HT0q3q7 := hide hT
              have HE0q3q7 : Hid (wzq3q7.heap[wr.heap.size]? = w5.heap[wr.heap.size]?) := hide ((hR.2 _ (by simp)).trans HE0q3.out)
              have HB0q3q7 : Hid (Below w.heap.size w wzq3q7) := hide (HB0q3.out.trans hR.1)
              clear hT hR
              try go_wp2_with fail
              refine hK.out _ _ (SK1.out _ HE0q3q7.out) (fun hHeld2 => ?_)
              clear hK K hHeld
              have hHeld := hHeld2
              clear hHeld2
              refine wpAnyH_at (i := 8) (v := ?vutrimn4p3p7x8) (a1 := ?xutrimn4p3p7x8) rfl (by kernel_rfl) (by kernel_rfl) (by kernel_rfl) (fun _ _ _ h => h) (Or.inl ⟨by rfl, ?yutrimn4p3p7x8⟩) (by assumption) ?hutrimn4p3p7x8 ?zutrimn4p3p7x8
              case yutrimn4p3p7x8 => (intro w hSw; (try dsimp only at hSw); go_simp; try (with_reducible rfl))
              case hutrimn4p3p7x8 => (go_simp; exact rfl)
              case zutrimn4p3p7x8 =>
              refine wpAnyH_at (i := 9) (v := ?vutrimn4p3p7x9) (a1 := ?xutrimn4p3p7x9) rfl (by kernel_rfl) (by kernel_rfl) (by kernel_rfl) (fun _ _ _ h => h) (Or.inl ⟨by rfl, ?yutrimn4p3p7x9⟩) (by assumption) ?hutrimn4p3p7x9 ?zutrimn4p3p7x9
              case yutrimn4p3p7x9 => (intro w hSw; (try dsimp only at hSw); go_simp; try (with_reducible rfl))
              case hutrimn4p3p7x9 => (go_simp; exact rfl)
              case zutrimn4p3p7x9 =>
              refine wpAnyH_done (by kernel_rfl) ?_ _
              go_wp2_with fail
              go_meet
              exact ⟨rfl, _, _, hide HT0q3q7.out.drop, HSN, HB0q3q7⟩
            have ne4 : (td == 4) = false := beq_eq_false_iff_ne.2 hd4
            clear hd4
            by_cases hd5 : td = 5
            · subst hd5
              have HSN := hide (HS.out.arm tn)
              go_wp2_with fail
              refine (tarm_d HT5.out tn HBN.out).mono ?_
              rintro e w6 ⟨rfl, hT, hR⟩
              have HT6 := hide hT
              have he6 : w6.heap[wr.heap.size]? = w5.heap[wr.heap.size]? := hR.2 _ (by simp)
              have d16 := SK1.out _ he6
              have HB6 : Hid (Below w.heap.size w w6) := hide (HB5.out.trans hR.1)
              clear hT hR he6
              go_wp2_with fail
              refine (tarm_r HT6.out tn HBN.out).mono ?_
              rintro e w7 ⟨rfl, hT, hR⟩
              have HT7 := hide hT
              have HB7 : Hid (Below w.heap.size w w7) := hide (HB6.out.trans hR.1)
              clear hT hR
              go_wp2_with fail
              go_meet
              exact ⟨rfl, _, _, hide HT7.out.drop, HSN, HB7⟩
            have ne5 : (td == 5) = false := beq_eq_false_iff_ne.2 hd5
            clear hd5
            have HSN := hide (HS.out.restart tn)
            go_wp2_with fail
            refine (trestart_d HT5.out tn HBN.out).mono ?_
            rintro e w6 ⟨rfl, hT, hR⟩
            have HT6 := hide hT
            have he6 : w6.heap[wr.heap.size]? = w5.heap[wr.heap.size]? := hR.2 _ (by simp)
            have d16 := SK1.out _ he6
            have HB6 : Hid (Below w.heap.size w w6) := hide (HB5.out.trans hR.1)
            clear hT hR he6
            go_wp2_with fail
            refine (trestart_r HT6.out tn HBN.out).mono ?_
            rintro e w7 ⟨rfl, hT, hR⟩
            have HT7 := hide hT
            have HB7 : Hid (Below w.heap.size w w7) := hide (HB6.out.trans hR.1)
            clear hT hR
            go_wp2_with fail
            go_meet
            exact ⟨rfl, _, _, hide HT7.out.drop, HSN, HB7⟩
          case rest =>
          obtain ⟨rfl, s9, r9, HTC, HSC, HBC⟩ := hcut
          have SKC : Hid (∀ wx : World, Below wc.heap.size wc wx → wx.cell? ⟨w2.heap.size, 3, none⟩ = some (.bool s9.off)) := hide (fun wx h => by rw [HSC.out.2.2.1]; exact toff_r (HTC.out.below h))
          have HW : Hid (Below wc.heap.size wc wc.drew) := hide (bel_one wc)
          clear HT5 HB5 SK1 SK2 HVK HBY HBN HLB HS d0 d1 d2
          go_wp2_with fail
          refine wp_region_held_drew (S := (fun wx => wx.cell? ⟨w2.heap.size, 3, none⟩ = some (.bool s9.off))) (by kernel_rfl) (SKC.out _ (bel_one wc)) (fun hHeld => ?_)
          refine wpAnyH_at (i := 0) (v := ?vkx0) (a1 := ?xkx0) rfl (by kernel_rfl) (by kernel_rfl) (by kernel_rfl) (fun _ _ _ h => h) (Or.inl ⟨by rfl, ?ykx0⟩) (by assumption) ?hkx0 ?zkx0
          case ykx0 => (intro w hSw; (try dsimp only at hSw); go_simp; try (with_reducible rfl))
          case hkx0 => (go_simp; exact rfl)
          case zkx0 =>
          refine wpAnyH_at (i := 1) (v := ?vkx1) (a1 := ?xkx1) rfl (by kernel_rfl) (by kernel_rfl) (by kernel_rfl) (fun _ _ _ h => h) (Or.inl ⟨by rfl, ?ykx1⟩) (by assumption) ?hkx1 ?zkx1
          case ykx1 => (intro w hSw; (try dsimp only at hSw); go_simp; try (with_reducible rfl))
          case hkx1 => (go_simp; exact rfl)
          case zkx1 =>
          refine wpAnyH_at (i := 2) (v := ?vkx2) (a1 := ?xkx2) rfl (by kernel_rfl) (by kernel_rfl) (by kernel_rfl) (fun _ _ _ h => h) (Or.inl ⟨by rfl, ?ykx2⟩) (by assumption) ?hkx2 ?zkx2
          case ykx2 => (intro w hSw; (try dsimp only at hSw); go_simp; try (with_reducible rfl))
          case hkx2 => (go_simp; exact rfl)
          case zkx2 =>
          refine wpAnyH_at (i := 3) (v := ?vkx3) (a1 := ?xkx3) rfl (by kernel_rfl) (by kernel_rfl) (by kernel_rfl) (fun _ _ _ h => h) (Or.inl ⟨by rfl, ?ykx3⟩) (by assumption) ?hkx3 ?zkx3
          case ykx3 => (intro w hSw; (try dsimp only at hSw); go_simp; try (with_reducible rfl))
          case hkx3 => (go_simp; exact rfl)
          case zkx3 =>
          refine wpAnyH_at (i := 6) (v := ?vkx6) (a1 := ?xkx6) rfl (by kernel_rfl) (by kernel_rfl) (by kernel_rfl) (fun _ _ _ h => h) (Or.inl ⟨by rfl, ?ykx6⟩) (by assumption) ?hkx6 ?zkx6
          case ykx6 => (intro w hSw; (try dsimp only at hSw); go_simp; try (with_reducible rfl))
          case hkx6 => (go_simp; exact rfl)
          case zkx6 =>
          refine wpAnyH_ready (rs := [4]) (by kernel_rfl) (by simp) ?_
          refine AllReadyH.cons rfl (fun K hK => ?_) AllReadyH.nil
          go_simp
          refine (tbytes_d (HTC.out.below HW.out)).mono ?_
          rintro e wyq4 ⟨v4, rfl, hN, hC⟩
          have HNq4 := hide hN
          have HC4q4 := hide hC
          have HWq4 : Hid (Below wc.heap.size wc wyq4) := hide (HW.out.trans (hN.mono HW.out.size))
          have q4q4 := hC _ (Below.refl _ _)
          clear hN hC
          try go_wp2_with fail
          refine hK.out _ _ (SKC.out _ HWq4.out) (fun hHeld2 => ?_)
          clear hK K hHeld
          have hHeld := hHeld2
          clear hHeld2
          refine wpAnyH_ready (rs := [5, 7]) (by kernel_rfl) (by simp) ?_
          refine AllReadyH.cons rfl (fun K hK => ?_) (AllReadyH.cons rfl (fun K hK => ?_) AllReadyH.nil)
          · go_simp
            try go_wp2_with fail
            refine hK.out _ _ (SKC.out _ HWq4.out) (fun hHeld2 => ?_)
            clear hK K hHeld
            have hHeld := hHeld2
            clear hHeld2
            refine wpAnyH_ready (rs := [7]) (by kernel_rfl) (by simp) ?_
            refine AllReadyH.cons rfl (fun K hK => ?_) AllReadyH.nil
            go_simp
            refine (tbytes_r (HTC.out.below HWq4.out)).mono ?_
            rintro e wyq4q5q7 ⟨v7, rfl, hN, hC⟩
            rw [← HSC.out.1] at hC
            have HNq4q5q7 := hide hN
            have HC7q4q5q7 := hide hC
            have HWq4q5q7 : Hid (Below wc.heap.size wc wyq4q5q7) := hide (HWq4.out.trans (hN.mono HWq4.out.size))
            have q7q4q5q7 := hC _ (Below.refl _ _)
            clear hN hC
            try go_wp2_with fail
            refine hK.out _ _ (SKC.out _ HWq4q5q7.out) (fun hHeld2 => ?_)
            clear hK K hHeld
            have hHeld := hHeld2
            clear hHeld2
            refine wpAnyH_ready (rs := [8]) (by kernel_rfl) (by simp) ?_
            refine AllReadyH.cons rfl (fun K hK => ?_) AllReadyH.nil
            go_simp
            try go_wp2_with fail
            refine hK.out _ _ (SKC.out _ HWq4q5q7.out) (fun hHeld2 => ?_)
            clear hK K hHeld
            have hHeld := hHeld2
            clear hHeld2
            refine wpAnyH_at (i := 9) (v := ?vkp4p5p7p8x9) (a1 := ?xkp4p5p7p8x9) rfl (by kernel_rfl) (by kernel_rfl) (by kernel_rfl) (fun _ _ _ h => h) (Or.inl ⟨by rfl, ?ykp4p5p7p8x9⟩) (by assumption) ?hkp4p5p7p8x9 ?zkp4p5p7p8x9
            case ykp4p5p7p8x9 => (intro w hSw; (try dsimp only at hSw); go_simp; try (with_reducible rfl))
            case hkp4p5p7p8x9 => (go_simp; exact rfl)
            case zkp4p5p7p8x9 =>
            refine wpAnyH_at (i := 10) (v := ?vkp4p5p7p8x10) (a1 := ?xkp4p5p7p8x10) rfl (by kernel_rfl) (by kernel_rfl) (by kernel_rfl) (fun _ _ _ h => h) (Or.inl ⟨by rfl, ?ykp4p5p7p8x10⟩) (by assumption) ?hkp4p5p7p8x10 ?zkp4p5p7p8x10
            case ykp4p5p7p8x10 => (intro w hSw; (try dsimp only at hSw); go_simp; try (with_reducible rfl))
            case hkp4p5p7p8x10 => (go_simp; exact rfl)
            case zkp4p5p7p8x10 =>
            refine wpAnyH_at (i := 11) (v := ?vkp4p5p7p8x11) (a1 := ?xkp4p5p7p8x11) rfl (by kernel_rfl) (by kernel_rfl) (by kernel_rfl) (fun _ _ _ h => h) (Or.inl ⟨by rfl, ?ykp4p5p7p8x11⟩) (by assumption) ?hkp4p5p7p8x11 ?zkp4p5p7p8x11
            case ykp4p5p7p8x11 => (intro w hSw; (try dsimp only at hSw); go_simp; try (with_reducible rfl))
            case hkp4p5p7p8x11 => (go_simp; exact rfl)
            case zkp4p5p7p8x11 =>
            refine wpAnyH_at (i := 12) (v := ?vkp4p5p7p8x12) (a1 := ?xkp4p5p7p8x12) rfl (by kernel_rfl) (by kernel_rfl) (by kernel_rfl) (fun _ _ _ h => h) (Or.inl ⟨by rfl, ?ykp4p5p7p8x12⟩) (by assumption) ?hkp4p5p7p8x12 ?zkp4p5p7p8x12
            case ykp4p5p7p8x12 => (intro w hSw; (try dsimp only at hSw); go_simp; try (with_reducible rfl))
            case hkp4p5p7p8x12 => (go_simp; exact rfl)
            case zkp4p5p7p8x12 =>
            refine wpAnyH_at (i := 14) (v := ?vkp4p5p7p8x14) (a1 := ?xkp4p5p7p8x14) rfl (by kernel_rfl) (by kernel_rfl) (by kernel_rfl) (fun _ _ _ h => h) (Or.inl ⟨by rfl, ?ykp4p5p7p8x14⟩) (by assumption) ?hkp4p5p7p8x14 ?zkp4p5p7p8x14
            case ykp4p5p7p8x14 => (intro w hSw; (try dsimp only at hSw); go_simp; try (with_reducible rfl))
            case hkp4p5p7p8x14 => (go_simp; exact rfl)
            case zkp4p5p7p8x14 =>
            refine wpAnyH_at (i := 15) (v := ?vkp4p5p7p8x15) (a1 := ?xkp4p5p7p8x15) rfl (by kernel_rfl) (by kernel_rfl) (by kernel_rfl) (fun _ _ _ h => h) (Or.inl ⟨by rfl, ?ykp4p5p7p8x15⟩) (by assumption) ?hkp4p5p7p8x15 ?zkp4p5p7p8x15
            case ykp4p5p7p8x15 => (intro w hSw; (try dsimp only at hSw); go_simp; try (with_reducible rfl))
            case hkp4p5p7p8x15 => (go_simp; exact rfl)
            case zkp4p5p7p8x15 =>
            refine wpAnyH_at (i := 16) (v := ?vkp4p5p7p8x16) (a1 := ?xkp4p5p7p8x16) rfl (by kernel_rfl) (by kernel_rfl) (by kernel_rfl) (fun _ _ _ h => h) (Or.inl ⟨by rfl, ?ykp4p5p7p8x16⟩) (by assumption) ?hkp4p5p7p8x16 ?zkp4p5p7p8x16
            case ykp4p5p7p8x16 => (intro w hSw; (try dsimp only at hSw); go_simp; try (with_reducible rfl))
            case hkp4p5p7p8x16 => (go_simp; exact rfl)
            case zkp4p5p7p8x16 =>
            refine wpAnyH_at (i := 17) (v := ?vkp4p5p7p8x17) (a1 := ?xkp4p5p7p8x17) rfl (by kernel_rfl) (by kernel_rfl) (by kernel_rfl) (fun _ _ _ h => h) (Or.inl ⟨by rfl, ?ykp4p5p7p8x17⟩) (by assumption) ?hkp4p5p7p8x17 ?zkp4p5p7p8x17
            case ykp4p5p7p8x17 => (intro w hSw; (try dsimp only at hSw); go_simp; try (with_reducible rfl))
            case hkp4p5p7p8x17 => (go_simp; exact rfl)
            case zkp4p5p7p8x17 =>
            refine wpAnyH_ready (rs := [13]) (by kernel_rfl) (by simp) ?_
            refine AllReadyH.cons rfl (fun K hK => ?_) AllReadyH.nil
            go_simp
            refine (toff_d (HTC.out.below HWq4q5q7.out)).mono ?_
            rintro e wo ⟨rfl, rfl⟩
            try go_wp2_with fail
            refine hK.out _ _ (SKC.out _ HWq4q5q7.out) (fun hHeld2 => ?_)
            clear hK K hHeld
            have hHeld := hHeld2
            clear hHeld2
            refine wpAnyH_at (i := 18) (v := ?vkp4p5p7p8p13x18) (a1 := ?xkp4p5p7p8p13x18) rfl (by kernel_rfl) (by kernel_rfl) (by kernel_rfl) (fun _ _ _ h => h) (Or.inl ⟨by rfl, ?ykp4p5p7p8p13x18⟩) (by assumption) ?hkp4p5p7p8p13x18 ?zkp4p5p7p8p13x18
            case ykp4p5p7p8p13x18 => (intro w hSw; (try dsimp only at hSw); go_simp; try (with_reducible rfl))
            case hkp4p5p7p8p13x18 => (go_simp; exact rfl)
            case zkp4p5p7p8p13x18 =>
            refine wpAnyH_at (i := 19) (v := ?vkp4p5p7p8p13x19) (a1 := ?xkp4p5p7p8p13x19) rfl (by kernel_rfl) (by kernel_rfl) (by kernel_rfl) (fun _ _ _ h => h) (Or.inl ⟨by rfl, ?ykp4p5p7p8p13x19⟩) (by assumption) ?hkp4p5p7p8p13x19 ?zkp4p5p7p8p13x19
            case ykp4p5p7p8p13x19 => (intro w hSw; (try dsimp only at hSw); go_simp; try (with_reducible rfl))
            case hkp4p5p7p8p13x19 => (go_simp; exact rfl)
            case zkp4p5p7p8p13x19 =>
            refine wpAnyH_done (by kernel_rfl) ?_ _
            go_wp2_with fail
            go_roundg (gk - 1)
            case measure => omega
            case rel => exact ⟨i + 1, s9, r9, by omega, by omega, by first | rfl | simp, hide (HTC.out.below HWq4q5q7.out), HSC, hide (HBC.out.trans (HWq4q5q7.out.mono HBC.out.size))⟩
          · go_simp
            refine (tbytes_r (HTC.out.below HWq4.out)).mono ?_
            rintro e wyq4q7 ⟨v7, rfl, hN, hC⟩
            rw [← HSC.out.1] at hC
            have HNq4q7 := hide hN
            have HC7q4q7 := hide hC
            have HWq4q7 : Hid (Below wc.heap.size wc wyq4q7) := hide (HWq4.out.trans (hN.mono HWq4.out.size))
            have q7q4q7 := hC _ (Below.refl _ _)
            have q4q4q7 := HC4q4.out _ hN
            clear hN hC
            try go_wp2_with fail
            refine hK.out _ _ (SKC.out _ HWq4q7.out) (fun hHeld2 => ?_)
            clear hK K hHeld
            have hHeld := hHeld2
            clear hHeld2
            refine wpAnyH_ready (rs := [5, 8]) (by kernel_rfl) (by simp) ?_
            refine AllReadyH.cons rfl (fun K hK => ?_) (AllReadyH.cons rfl (fun K hK => ?_) AllReadyH.nil)
            · go_simp
              try go_wp2_with fail
              refine hK.out _ _ (SKC.out _ HWq4q7.out) (fun hHeld2 => ?_)
              clear hK K hHeld
              have hHeld := hHeld2
              clear hHeld2
              refine wpAnyH_ready (rs := [8]) (by kernel_rfl) (by simp) ?_
              refine AllReadyH.cons rfl (fun K hK => ?_) AllReadyH.nil
              go_simp
              try go_wp2_with fail
              refine hK.out _ _ (SKC.out _ HWq4q7.out) (fun hHeld2 => ?_)
              clear hK K hHeld
              have hHeld := hHeld2
              clear hHeld2
              refine wpAnyH_at (i := 9) (v := ?vkp4p7p5p8x9) (a1 := ?xkp4p7p5p8x9) rfl (by kernel_rfl) (by kernel_rfl) (by kernel_rfl) (fun _ _ _ h => h) (Or.inl ⟨by rfl, ?ykp4p7p5p8x9⟩) (by assumption) ?hkp4p7p5p8x9 ?zkp4p7p5p8x9
              case ykp4p7p5p8x9 => (intro w hSw; (try dsimp only at hSw); go_simp; try (with_reducible rfl))
              case hkp4p7p5p8x9 => (go_simp; exact rfl)
              case zkp4p7p5p8x9 =>
              refine wpAnyH_at (i := 10) (v := ?vkp4p7p5p8x10) (a1 := ?xkp4p7p5p8x10) rfl (by kernel_rfl) (by kernel_rfl) (by kernel_rfl) (fun _ _ _ h => h) (Or.inl ⟨by rfl, ?ykp4p7p5p8x10⟩) (by assumption) ?hkp4p7p5p8x10 ?zkp4p7p5p8x10
              case ykp4p7p5p8x10 => (intro w hSw; (try dsimp only at hSw); go_simp; try (with_reducible rfl))
              case hkp4p7p5p8x10 => (go_simp; exact rfl)
              case zkp4p7p5p8x10 =>
              refine wpAnyH_at (i := 11) (v := ?vkp4p7p5p8x11) (a1 := ?xkp4p7p5p8x11) rfl (by kernel_rfl) (by kernel_rfl) (by kernel_rfl) (fun _ _ _ h => h) (Or.inl ⟨by rfl, ?ykp4p7p5p8x11⟩) (by assumption) ?hkp4p7p5p8x11 ?zkp4p7p5p8x11
              case ykp4p7p5p8x11 => (intro w hSw; (try dsimp only at hSw); go_simp; try (with_reducible rfl))
              case hkp4p7p5p8x11 => (go_simp; exact rfl)
              case zkp4p7p5p8x11 =>
              refine wpAnyH_at (i := 12) (v := ?vkp4p7p5p8x12) (a1 := ?xkp4p7p5p8x12) rfl (by kernel_rfl) (by kernel_rfl) (by kernel_rfl) (fun _ _ _ h => h) (Or.inl ⟨by rfl, ?ykp4p7p5p8x12⟩) (by assumption) ?hkp4p7p5p8x12 ?zkp4p7p5p8x12
              case ykp4p7p5p8x12 => (intro w hSw; (try dsimp only at hSw); go_simp; try (with_reducible rfl))
              case hkp4p7p5p8x12 => (go_simp; exact rfl)
              case zkp4p7p5p8x12 =>
              refine wpAnyH_at (i := 14) (v := ?vkp4p7p5p8x14) (a1 := ?xkp4p7p5p8x14) rfl (by kernel_rfl) (by kernel_rfl) (by kernel_rfl) (fun _ _ _ h => h) (Or.inl ⟨by rfl, ?ykp4p7p5p8x14⟩) (by assumption) ?hkp4p7p5p8x14 ?zkp4p7p5p8x14
              case ykp4p7p5p8x14 => (intro w hSw; (try dsimp only at hSw); go_simp; try (with_reducible rfl))
              case hkp4p7p5p8x14 => (go_simp; exact rfl)
              case zkp4p7p5p8x14 =>
              refine wpAnyH_at (i := 15) (v := ?vkp4p7p5p8x15) (a1 := ?xkp4p7p5p8x15) rfl (by kernel_rfl) (by kernel_rfl) (by kernel_rfl) (fun _ _ _ h => h) (Or.inl ⟨by rfl, ?ykp4p7p5p8x15⟩) (by assumption) ?hkp4p7p5p8x15 ?zkp4p7p5p8x15
              case ykp4p7p5p8x15 => (intro w hSw; (try dsimp only at hSw); go_simp; try (with_reducible rfl))
              case hkp4p7p5p8x15 => (go_simp; exact rfl)
              case zkp4p7p5p8x15 =>
              refine wpAnyH_at (i := 16) (v := ?vkp4p7p5p8x16) (a1 := ?xkp4p7p5p8x16) rfl (by kernel_rfl) (by kernel_rfl) (by kernel_rfl) (fun _ _ _ h => h) (Or.inl ⟨by rfl, ?ykp4p7p5p8x16⟩) (by assumption) ?hkp4p7p5p8x16 ?zkp4p7p5p8x16
              case ykp4p7p5p8x16 => (intro w hSw; (try dsimp only at hSw); go_simp; try (with_reducible rfl))
              case hkp4p7p5p8x16 => (go_simp; exact rfl)
              case zkp4p7p5p8x16 =>
              refine wpAnyH_at (i := 17) (v := ?vkp4p7p5p8x17) (a1 := ?xkp4p7p5p8x17) rfl (by kernel_rfl) (by kernel_rfl) (by kernel_rfl) (fun _ _ _ h => h) (Or.inl ⟨by rfl, ?ykp4p7p5p8x17⟩) (by assumption) ?hkp4p7p5p8x17 ?zkp4p7p5p8x17
              case ykp4p7p5p8x17 => (intro w hSw; (try dsimp only at hSw); go_simp; try (with_reducible rfl))
              case hkp4p7p5p8x17 => (go_simp; exact rfl)
              case zkp4p7p5p8x17 =>
              refine wpAnyH_ready (rs := [13]) (by kernel_rfl) (by simp) ?_
              refine AllReadyH.cons rfl (fun K hK => ?_) AllReadyH.nil
              go_simp
              refine (toff_d (HTC.out.below HWq4q7.out)).mono ?_
              rintro e wo ⟨rfl, rfl⟩
              try go_wp2_with fail
              refine hK.out _ _ (SKC.out _ HWq4q7.out) (fun hHeld2 => ?_)
              clear hK K hHeld
              have hHeld := hHeld2
              clear hHeld2
              refine wpAnyH_at (i := 18) (v := ?vkp4p7p5p8p13x18) (a1 := ?xkp4p7p5p8p13x18) rfl (by kernel_rfl) (by kernel_rfl) (by kernel_rfl) (fun _ _ _ h => h) (Or.inl ⟨by rfl, ?ykp4p7p5p8p13x18⟩) (by assumption) ?hkp4p7p5p8p13x18 ?zkp4p7p5p8p13x18
              case ykp4p7p5p8p13x18 => (intro w hSw; (try dsimp only at hSw); go_simp; try (with_reducible rfl))
              case hkp4p7p5p8p13x18 => (go_simp; exact rfl)
              case zkp4p7p5p8p13x18 =>
              refine wpAnyH_at (i := 19) (v := ?vkp4p7p5p8p13x19) (a1 := ?xkp4p7p5p8p13x19) rfl (by kernel_rfl) (by kernel_rfl) (by kernel_rfl) (fun _ _ _ h => h) (Or.inl ⟨by rfl, ?ykp4p7p5p8p13x19⟩) (by assumption) ?hkp4p7p5p8p13x19 ?zkp4p7p5p8p13x19
              case ykp4p7p5p8p13x19 => (intro w hSw; (try dsimp only at hSw); go_simp; try (with_reducible rfl))
              case hkp4p7p5p8p13x19 => (go_simp; exact rfl)
              case zkp4p7p5p8p13x19 =>
              refine wpAnyH_done (by kernel_rfl) ?_ _
              go_wp2_with fail
              go_roundg (gk - 1)
              case measure => omega
              case rel => exact ⟨i + 1, s9, r9, by omega, by omega, by first | rfl | simp, hide (HTC.out.below HWq4q7.out), HSC, hide (HBC.out.trans (HWq4q7.out.mono HBC.out.size))⟩
            · go_simp
              try go_wp2_with fail
              refine hK.out _ _ (SKC.out _ HWq4q7.out) (fun hHeld2 => ?_)
              clear hK K hHeld
              have hHeld := hHeld2
              clear hHeld2
              refine wpAnyH_ready (rs := [5]) (by kernel_rfl) (by simp) ?_
              refine AllReadyH.cons rfl (fun K hK => ?_) AllReadyH.nil
              go_simp
              try go_wp2_with fail
              refine hK.out _ _ (SKC.out _ HWq4q7.out) (fun hHeld2 => ?_)
              clear hK K hHeld
              have hHeld := hHeld2
              clear hHeld2
              refine wpAnyH_at (i := 9) (v := ?vkp4p7p8p5x9) (a1 := ?xkp4p7p8p5x9) rfl (by kernel_rfl) (by kernel_rfl) (by kernel_rfl) (fun _ _ _ h => h) (Or.inl ⟨by rfl, ?ykp4p7p8p5x9⟩) (by assumption) ?hkp4p7p8p5x9 ?zkp4p7p8p5x9
              case ykp4p7p8p5x9 => (intro w hSw; (try dsimp only at hSw); go_simp; try (with_reducible rfl))
              case hkp4p7p8p5x9 => (go_simp; exact rfl)
              case zkp4p7p8p5x9 =>
              refine wpAnyH_at (i := 10) (v := ?vkp4p7p8p5x10) (a1 := ?xkp4p7p8p5x10) rfl (by kernel_rfl) (by kernel_rfl) (by kernel_rfl) (fun _ _ _ h => h) (Or.inl ⟨by rfl, ?ykp4p7p8p5x10⟩) (by assumption) ?hkp4p7p8p5x10 ?zkp4p7p8p5x10
              case ykp4p7p8p5x10 => (intro w hSw; (try dsimp only at hSw); go_simp; try (with_reducible rfl))
              case hkp4p7p8p5x10 => (go_simp; exact rfl)
              case zkp4p7p8p5x10 =>
              refine wpAnyH_at (i := 11) (v := ?vkp4p7p8p5x11) (a1 := ?xkp4p7p8p5x11) rfl (by kernel_rfl) (by kernel_rfl) (by kernel_rfl) (fun _ _ _ h => h) (Or.inl ⟨by rfl, ?ykp4p7p8p5x11⟩) (by assumption) ?hkp4p7p8p5x11 ?zkp4p7p8p5x11
              case ykp4p7p8p5x11 => (intro w hSw; (try dsimp only at hSw); go_simp; try (with_reducible rfl))
              case hkp4p7p8p5x11 => (go_simp; exact rfl)
              case zkp4p7p8p5x11 =>
              refine wpAnyH_at (i := 12) (v := ?vkp4p7p8p5x12) (a1 := ?xkp4p7p8p5x12) rfl (by kernel_rfl) (by kernel_rfl) (by kernel_rfl) (fun _ _ _ h => h) (Or.inl ⟨by rfl, ?ykp4p7p8p5x12⟩) (by assumption) ?hkp4p7p8p5x12 ?zkp4p7p8p5x12
              case ykp4p7p8p5x12 => (intro w hSw; (try dsimp only at hSw); go_simp; try (with_reducible rfl))
              case hkp4p7p8p5x12 => (go_simp; exact rfl)
              case zkp4p7p8p5x12 =>
              refine wpAnyH_at (i := 14) (v := ?vkp4p7p8p5x14) (a1 := ?xkp4p7p8p5x14) rfl (by kernel_rfl) (by kernel_rfl) (by kernel_rfl) (fun _ _ _ h => h) (Or.inl ⟨by rfl, ?ykp4p7p8p5x14⟩) (by assumption) ?hkp4p7p8p5x14 ?zkp4p7p8p5x14
              case ykp4p7p8p5x14 => (intro w hSw; (try dsimp only at hSw); go_simp; try (with_reducible rfl))
              case hkp4p7p8p5x14 => (go_simp; exact rfl)
              case zkp4p7p8p5x14 =>
              refine wpAnyH_at (i := 15) (v := ?vkp4p7p8p5x15) (a1 := ?xkp4p7p8p5x15) rfl (by kernel_rfl) (by kernel_rfl) (by kernel_rfl) (fun _ _ _ h => h) (Or.inl ⟨by rfl, ?ykp4p7p8p5x15⟩) (by assumption) ?hkp4p7p8p5x15 ?zkp4p7p8p5x15
              case ykp4p7p8p5x15 => (intro w hSw; (try dsimp only at hSw); go_simp; try (with_reducible rfl))
              case hkp4p7p8p5x15 => (go_simp; exact rfl)
              case zkp4p7p8p5x15 =>
              refine wpAnyH_at (i := 16) (v := ?vkp4p7p8p5x16) (a1 := ?xkp4p7p8p5x16) rfl (by kernel_rfl) (by kernel_rfl) (by kernel_rfl) (fun _ _ _ h => h) (Or.inl ⟨by rfl, ?ykp4p7p8p5x16⟩) (by assumption) ?hkp4p7p8p5x16 ?zkp4p7p8p5x16
              case ykp4p7p8p5x16 => (intro w hSw; (try dsimp only at hSw); go_simp; try (with_reducible rfl))
              case hkp4p7p8p5x16 => (go_simp; exact rfl)
              case zkp4p7p8p5x16 =>
              refine wpAnyH_at (i := 17) (v := ?vkp4p7p8p5x17) (a1 := ?xkp4p7p8p5x17) rfl (by kernel_rfl) (by kernel_rfl) (by kernel_rfl) (fun _ _ _ h => h) (Or.inl ⟨by rfl, ?ykp4p7p8p5x17⟩) (by assumption) ?hkp4p7p8p5x17 ?zkp4p7p8p5x17
              case ykp4p7p8p5x17 => (intro w hSw; (try dsimp only at hSw); go_simp; try (with_reducible rfl))
              case hkp4p7p8p5x17 => (go_simp; exact rfl)
              case zkp4p7p8p5x17 =>
              refine wpAnyH_ready (rs := [13]) (by kernel_rfl) (by simp) ?_
              refine AllReadyH.cons rfl (fun K hK => ?_) AllReadyH.nil
              go_simp
              refine (toff_d (HTC.out.below HWq4q7.out)).mono ?_
              rintro e wo ⟨rfl, rfl⟩
              try go_wp2_with fail
              refine hK.out _ _ (SKC.out _ HWq4q7.out) (fun hHeld2 => ?_)
              clear hK K hHeld
              have hHeld := hHeld2
              clear hHeld2
              refine wpAnyH_at (i := 18) (v := ?vkp4p7p8p5p13x18) (a1 := ?xkp4p7p8p5p13x18) rfl (by kernel_rfl) (by kernel_rfl) (by kernel_rfl) (fun _ _ _ h => h) (Or.inl ⟨by rfl, ?ykp4p7p8p5p13x18⟩) (by assumption) ?hkp4p7p8p5p13x18 ?zkp4p7p8p5p13x18
              case ykp4p7p8p5p13x18 => (intro w hSw; (try dsimp only at hSw); go_simp; try (with_reducible rfl))
              case hkp4p7p8p5p13x18 => (go_simp; exact rfl)
              case zkp4p7p8p5p13x18 =>
              refine wpAnyH_at (i := 19) (v := ?vkp4p7p8p5p13x19) (a1 := ?xkp4p7p8p5p13x19) rfl (by kernel_rfl) (by kernel_rfl) (by kernel_rfl) (fun _ _ _ h => h) (Or.inl ⟨by rfl, ?ykp4p7p8p5p13x19⟩) (by assumption) ?hkp4p7p8p5p13x19 ?zkp4p7p8p5p13x19
              case ykp4p7p8p5p13x19 => (intro w hSw; (try dsimp only at hSw); go_simp; try (with_reducible rfl))
              case hkp4p7p8p5p13x19 => (go_simp; exact rfl)
              case zkp4p7p8p5p13x19 =>
              refine wpAnyH_done (by kernel_rfl) ?_ _
              go_wp2_with fail
              go_roundg (gk - 1)
              case measure => omega
              case rel => exact ⟨i + 1, s9, r9, by omega, by omega, by first | rfl | simp, hide (HTC.out.below HWq4q7.out), HSC, hide (HBC.out.trans (HWq4q7.out.mono HBC.out.size))⟩
      · have hd2 : decide ((i : Int) < 100) = false := decide_eq_false (by omega)
        go_wp2_with fail
        go_ret
        exact ⟨rfl, HB.out⟩
    · have hd : decide ((i : Int) < (N : Int)) = false := decide_eq_false (by omega)
      go_wp2_with fail
      go_ret
      exact ⟨rfl, HB.out⟩
end Go.Proofs.Ytjddhfiollhnfaa
