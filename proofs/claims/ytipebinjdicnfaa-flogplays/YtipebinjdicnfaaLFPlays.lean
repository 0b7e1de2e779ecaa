/-
  The law FlogPlays, walked.
-/
import Derived.Test.YtipebinjdicnfaaFP2
import Derived.Test.YtipebinjdicnfaaFP3
import Derived.Deep.LoopGhost
import Derived.Deep.CutBlock
namespace Go.Proofs.Ytipebinjdicnfaa
open Go.RowKit

theorem LogB.drewL {w : World} {L B : Nat} (h : LogB w L B) : LogB w.drew L B := h
theorem opn_restart (s : Dv) (k : Int) : ∃ l s', Opn (s.restart k) l s' 0 := by
  obtain ⟨l, r, h⟩ := rd_all (s.restart k).all
  exact ⟨l, _, opn_ok 0 h⟩
theorem opn_len {w : World} {base B R : Nat} {s : Dv} {r : Rv} {l : List ByteArray} {s' : Dv} {x : Int} (h : Two w base [] B R s r) (ho : Opn s l s' x) : l.length ≤ 1000000 := by
  have hk : s.all.length ≤ 60000 := by
    obtain ⟨F, G, ⟨_, _, _, hok, _⟩, _⟩ := h
    exact hok.2.1
  unfold Opn at ho
  split at ho
  · rw [ho.1]
    exact Nat.zero_le _
  · obtain ⟨l0, q, hq, ho⟩ := ho
    have h1 := congrArg List.length hq.eq
    rw [List.length_append] at h1
    have h2 := frs_len l0
    split at ho
    · rw [ho.1]
      omega
    · rw [ho.2.2]
      split
      · omega
      · exact Nat.zero_le _
theorem base_le {w w' : World} {base : Nat} (h : Below base w w') {B R : Nat} {s : Dv} {r : Rv} (ht : Two w base [] B R s r) : base ≤ w'.heap.size := by
  obtain ⟨_, _, _, _, _, _, _, h0⟩ := ht
  exact Nat.le_trans h0 h.size

set_option maxRecDepth 20000 in
set_option maxHeartbeats 16000000 in
theorem fplays_walk (p : Option Addr) (N cap : Nat) (ts : List OpT) (w : World) (h : OpRow w (.slice p N cap) ts) :
    Calls Try.prog 3 #[.slice p N cap] w fun e w' => e = .returned (.bool true) ∧ Below w.heap.size w w' := by
  have HROW := hide h
  clear h
  by_cases h60 : (60 : Int) < (N : Int)
  · have e6 : decide ((60 : Int) < (N : Int)) = true := by simpa using h60
    clear h60
    go_enter Try.func3, Try.ntmps3
    go_wp2_with fail
    refine (awake_any w).mono ?_
    rintro e w1 ⟨rfl, hb1⟩
    have HB1 := hide hb1
    clear hb1
    go_wp2_with fail
    refine (new_any w1).mono ?_
    rintro e w2 ⟨rfl, -, hb2⟩
    have HB2 := hide (HB1.out.trans (hb2.mono HB1.out.size))
    clear hb2
    go_wp2_with fail
    refine (rnew_any w2).mono ?_
    rintro e w3 ⟨rfl, -, hb3⟩
    have HB3 := hide (HB2.out.trans (hb3.mono HB2.out.size))
    clear hb3
    go_wp2_with fail
    go_ret
    exact ⟨rfl, HB3.out⟩
  have e6 : decide ((60 : Int) < (N : Int)) = false := by simpa using h60
  have H60 : Hid (N ≤ 60) := hide (by omega)
  clear h60
  go_enter Try.func3, Try.ntmps3
  go_wp2_with fail
  refine (awake_any w).mono ?_
  rintro e w1 ⟨rfl, hb1⟩
  have HB1 := hide hb1
  clear hb1
  go_wp2_with fail
  refine (new_any w1).mono ?_
  rintro e w2 ⟨rfl, hd2, hb2⟩
  have HD2 := hide hd2
  have HB2 := hide hb2
  clear hd2 hb2
  go_wp2_with fail
  refine (rnew_any w2).mono ?_
  rintro e w3 ⟨rfl, hd3, hb3⟩
  have h12 : w1.heap.size < w2.heap.size := HD2.out.lt _ (by simp)
  have HT3 : Hid (Two w3 w.heap.size [] w1.heap.size w2.heap.size Dv.new Rv.new) := hide (by
    have h1 := HB1.out.size
    refine ⟨[w1.heap.size], [w2.heap.size], HD2.out.keep (keep_below hb3 []) (by simp), hd3, fun k hk => ?_, fun k hk => ?_, by simp, ?_⟩
    · simp at hk ⊢
      omega
    · simp at hk ⊢
      omega
    · have := hb3.size
      omega)
  have HB3 : Hid (Below w.heap.size w w3) := hide (by
    have h1 := HB1.out.size
    have h2 := HB2.out.size
    exact (HB1.out.trans (HB2.out.mono h1)).trans (hb3.mono (by omega)))
  clear hd3 hb3
  go_wp2_with fail
  refine (gopen_d HT3.out).mono ?_
  rintro e w4 ⟨s4, l4, x4, p4, vp4, vc4, ho4, rfl, _, hx4, hT, hO⟩
  obtain ⟨hz1, hz2, hz3⟩ := (show Opn Dv.new [] Dv.new 0 from opn_all rfl Rd.nil).one ho4
  subst hz1 hz2 hz3
  rw [if_pos rfl] at hx4
  obtain ⟨L4, rfl, hl4⟩ := hx4
  have HT4 := hide hT
  have HL4 := hide hl4
  have HB4 := hide (HB3.out.trans hO.below)
  clear hT hO hl4 ho4 HT3 HB3
  go_wp2_with fail
  go_loopg [6, 9] N (fun k v6 v9 wr => ∃ (i L : Nat) (s : Dv) (r : Rv), i + k = N ∧ i ≤ N ∧ v9 = .int .i64 (i : Int) ∧ v6 = .pointer (some ⟨L, 0, none⟩) ∧ Hid (Two wr w.heap.size [] w1.heap.size w2.heap.size s r) ∧ Hid (Sim s r) ∧ Hid (LogB wr L w1.heap.size) ∧ Hid (Below w.heap.size w wr))
  case atStart => exact ⟨0, L4, _, _, by omega, Nat.zero_le _, rfl, rfl, HT4, hide Sim.new, HL4, HB4⟩
  case round =>
    clear HT4 HB4 HL4
    obtain ⟨i, L, s, r, hik, hiN, rfl, rfl, HT, HS, HL, HB⟩ := hrel
    have h60 : N ≤ 60 := H60.out
    by_cases hlt : i < N
    · have hd : decide ((i : Int) < (N : Int)) = true := decide_eq_true (by omega)
      obtain ⟨t, b, off, rfl, hok, hce⟩ := HROW.out.at hlt
      obtain ⟨td, tn, tS⟩ := t
      obtain ⟨hbn, hbd⟩ := hok
      obtain ⟨c0, c1, c2⟩ := hce wr HB.out
      have HBN : Hid (-9223372036854775808 ≤ tn ∧ tn ≤ 9223372036854775807) := hide hbn
      clear hce hbn
      by_cases hbig : (21000 : Int) < (tS.size : Int)
      · have hd3 : decide ((21000 : Int) < (tS.size : Int)) = true := by simpa using hbig
        have HBE : Hid (Below w.heap.size w (wr.alloc (.cells #[.int .i64 td, .int .i64 tn, .string tS] 34))) := hide (HB.out.trans ((Below.refl _ wr).alloc HB.out.size _))
        clear hbig
        go_wp2_with fail
        go_ret
        exact ⟨rfl, HBE.out⟩
      · have hd3 : decide ((21000 : Int) < (tS.size : Int)) = false := by simpa using hbig
        clear hbig
        go_upto_block 2 with fail
        obtain ⟨w5, hw5⟩ : ∃ w5, w5 = wr.alloc (.cells #[.int .i64 td, .int .i64 tn, .string tS] 34) := ⟨_, rfl⟩
        rw [← hw5]
        have hb5 : Below wr.heap.size wr w5 := by rw [hw5]; exact (Below.refl _ wr).alloc (Nat.le_refl _) _
        have ho5 : w5.heap[wr.heap.size]? = some (.cells #[.int .i64 td, .int .i64 tn, .string tS] 34 (0, 0)) := by rw [hw5]; exact heap_alloc_new wr _
        have HT5 : Hid (Two w5 w.heap.size [] w1.heap.size w2.heap.size s r) := hide (HT.out.below hb5)
        have HL5 : Hid (LogB w5 L w1.heap.size) := hide (log_below HL.out hb5)
        have HB5 : Hid (Below w.heap.size w w5) := hide (HB.out.trans (hb5.mono HB.out.size))
        have d0 : w5.cell? ⟨wr.heap.size, 0, none⟩ = some (.int .i64 td) := tag_cell ho5 0 _ rfl
        have d1 : w5.cell? ⟨wr.heap.size, 1, none⟩ = some (.int .i64 tn) := tag_cell ho5 1 _ rfl
        have d2 : w5.cell? ⟨wr.heap.size, 2, none⟩ = some (.string tS) := tag_cell ho5 2 _ rfl
        have SK1 : Hid (∀ wx : World, Oth w5 wx w.heap.size → wx.cell? ⟨wr.heap.size, 1, none⟩ = some (.int .i64 tn)) := hide (fun wx h => tag_cell (h.cells _ _ _ _ ho5 (by decide) (by decide) (by decide)) 1 _ rfl)
        have SK2 : Hid (∀ wx : World, Oth w5 wx w.heap.size → wx.cell? ⟨wr.heap.size, 2, none⟩ = some (.string tS)) := hide (fun wx h => tag_cell (h.cells _ _ _ _ ho5 (by decide) (by decide) (by decide)) 2 _ rfl)
        clear hw5 hb5 ho5 HT HB HL c0 c1 c2 hd hd3
        go_cut [6, 11, 12, 13, 14, 15, 16] from 38 to 159 (fun v6 _v11 _v12 _v13 _v14 _v15 _v16 wx => ∃ L9 s9 r9, v6 = .pointer (some ⟨L9, 0, none⟩) ∧ Hid (Two wx w.heap.size [] w1.heap.size w2.heap.size s9 r9) ∧ Hid (Sim s9 r9) ∧ Hid (LogB wx L9 w1.heap.size) ∧ Hid (Below w.heap.size w wx))
        case first =>
          by_cases hd0 : td = 0
          · subst hd0
            obtain ⟨xx, hxx⟩ : ∃ x, (s.put tS).2 = x := ⟨_, rfl⟩
            have HX1 := hide hxx
            have HX2 : Hid ((r.put tS).2 = xx) := hide ((HS.out.put tS).1.symm.trans hxx)
            have HSN := hide (HS.out.put tS).2
            clear hxx
            go_wp2_with fail
            refine wp_region_held_drew (S := (fun wx => wx.cell? ⟨wr.heap.size, 2, none⟩ = some (.string tS))) (by kernel_rfl) (SK2.out _ (Oth.of (bel_one w5) HB5.out.size)) (fun hHeld => ?_)
            refine wpAnyH_at (i := 0) (v := ?vu10) (a1 := ?xu10) rfl (by kernel_rfl) (by kernel_rfl) (by kernel_rfl) (fun _ _ _ h => h) (Or.inl ⟨by rfl, ?yu10⟩) (by assumption) ?hu10 ?zu10
            case yu10 => (intro w hSw; (try dsimp only at hSw); go_simp; try (with_reducible rfl))
            case hu10 => (go_simp; exact rfl)
            case zu10 =>
            refine wpAnyH_at (i := 1) (v := ?vu11) (a1 := ?xu11) rfl (by kernel_rfl) (by kernel_rfl) (by kernel_rfl) (fun _ _ _ h => h) (Or.inl ⟨by rfl, ?yu11⟩) (by assumption) ?hu11 ?zu11
            case yu11 => (intro w hSw; (try dsimp only at hSw); go_simp; try (with_reducible rfl))
            case hu11 => (go_simp; exact rfl)
            case zu11 =>
            refine wpAnyH_at (i := 2) (v := ?vu12) (a1 := ?xu12) rfl (by kernel_rfl) (by kernel_rfl) (by kernel_rfl) (fun _ _ _ h => h) (Or.inl ⟨by rfl, ?yu12⟩) (by assumption) ?hu12 ?zu12
            case yu12 => (intro w hSw; (try dsimp only at hSw); go_simp; try (with_reducible rfl))
            case hu12 => (go_simp; exact rfl)
            case zu12 =>
            refine wpAnyH_at (i := 4) (v := ?vu14) (a1 := ?xu14) rfl (by kernel_rfl) (by kernel_rfl) (by kernel_rfl) (fun _ _ _ h => h) (Or.inl ⟨by rfl, ?yu14⟩) (by assumption) ?hu14 ?zu14
            case yu14 => (intro w hSw; (try dsimp only at hSw); go_simp; try (with_reducible rfl))
            case hu14 => (go_simp; exact rfl)
            case zu14 =>
            refine wpAnyH_at (i := 5) (v := ?vu15) (a1 := ?xu15) rfl (by kernel_rfl) (by kernel_rfl) (by kernel_rfl) (fun _ _ _ h => h) (Or.inl ⟨by rfl, ?yu15⟩) (by assumption) ?hu15 ?zu15
            case yu15 => (intro w hSw; (try dsimp only at hSw); go_simp; try (with_reducible rfl))
            case hu15 => (go_simp; exact rfl)
            case zu15 =>
            refine wpAnyH_at (i := 6) (v := ?vu16) (a1 := ?xu16) rfl (by kernel_rfl) (by kernel_rfl) (by kernel_rfl) (fun _ _ _ h => h) (Or.inl ⟨by rfl, ?yu16⟩) (by assumption) ?hu16 ?zu16
            case yu16 => (intro w hSw; (try dsimp only at hSw); go_simp; try (with_reducible rfl))
            case hu16 => (go_simp; exact rfl)
            case zu16 =>
            refine wpAnyH_ready (rs := [3]) (by kernel_rfl) (by simp) ?_
            refine AllReadyH.cons rfl (fun K hK => ?_) AllReadyH.nil
            go_simp
            refine (gput_d (HT5.out.below (bel_one w5)) L (HL5.out.drewL) tS xx HX1.out).mono ?_
            rintro e w6 ⟨rfl, hT, hO⟩
            have HT6 := hide hT
            have HO6 : Hid (Oth w5 w6 w.heap.size) := hide ((Oth.of (bel_one w5) HB5.out.size).trans hO)
            clear hT hO
            try go_wp2_with fail
            refine hK.out _ _ (by first | exact SK2.out _ HO7.out | exact SK2.out _ HO6.out) (fun hHeld2 => ?_)
            clear hK K hHeld
            have hHeld := hHeld2
            clear hHeld2
            refine wpAnyH_ready (rs := [7]) (by kernel_rfl) (by simp) ?_
            refine AllReadyH.cons rfl (fun K hK => ?_) AllReadyH.nil
            go_simp
            refine (gput_r HT6.out tS xx HX2.out).mono ?_
            rintro e w7 ⟨rfl, hT, hO⟩
            have HT7 := hide hT
            have HO7 : Hid (Oth w5 w7 w.heap.size) := hide (HO6.out.trans hO)
            clear hT hO
            try go_wp2_with fail
            refine hK.out _ _ (by first | exact SK2.out _ HO7.out | exact SK2.out _ HO6.out) (fun hHeld2 => ?_)
            clear hK K hHeld
            have hHeld := hHeld2
            clear hHeld2
            refine wpAnyH_at (i := 8) (v := ?vu18) (a1 := ?xu18) rfl (by kernel_rfl) (by kernel_rfl) (by kernel_rfl) (fun _ _ _ h => h) (Or.inl ⟨by rfl, ?yu18⟩) (by assumption) ?hu18 ?zu18
            case yu18 => (intro w hSw; (try dsimp only at hSw); go_simp; try (with_reducible rfl))
            case hu18 => (go_simp; exact rfl)
            case zu18 =>
            refine wpAnyH_done (by kernel_rfl) ?_ _
            go_wp2_with fail
            go_meet
            exact ⟨L, _, _, rfl, HT7, HSN, hide (HO7.out.log HL5.out), hide (HB5.out.trans HO7.out.below)⟩
          have ne0 : (td == 0) = false := beq_eq_false_iff_ne.2 hd0
          clear hd0
          by_cases hd1 : td = 1
          · subst hd1
            obtain ⟨xx, hxx⟩ : ∃ x, (s.put tS).2 = x := ⟨_, rfl⟩
            have HX1 := hide hxx
            have HX2 : Hid ((r.put tS).2 = xx) := hide ((HS.out.put tS).1.symm.trans hxx)
            have HSN := hide (HS.out.put tS).2
            clear hxx
            go_wp2_with fail
            refine wp_region_held_drew (S := (fun wx => wx.cell? ⟨wr.heap.size, 2, none⟩ = some (.string tS))) (by kernel_rfl) (SK2.out _ (Oth.of (bel_one w5) HB5.out.size)) (fun hHeld => ?_)
            refine wpAnyH_at (i := 0) (v := ?vu20) (a1 := ?xu20) rfl (by kernel_rfl) (by kernel_rfl) (by kernel_rfl) (fun _ _ _ h => h) (Or.inl ⟨by rfl, ?yu20⟩) (by assumption) ?hu20 ?zu20
            case yu20 => (intro w hSw; (try dsimp only at hSw); go_simp; try (with_reducible rfl))
            case hu20 => (go_simp; exact rfl)
            case zu20 =>
            refine wpAnyH_at (i := 1) (v := ?vu21) (a1 := ?xu21) rfl (by kernel_rfl) (by kernel_rfl) (by kernel_rfl) (fun _ _ _ h => h) (Or.inl ⟨by rfl, ?yu21⟩) (by assumption) ?hu21 ?zu21
            case yu21 => (intro w hSw; (try dsimp only at hSw); go_simp; try (with_reducible rfl))
            case hu21 => (go_simp; exact rfl)
            case zu21 =>
            refine wpAnyH_at (i := 2) (v := ?vu22) (a1 := ?xu22) rfl (by kernel_rfl) (by kernel_rfl) (by kernel_rfl) (fun _ _ _ h => h) (Or.inl ⟨by rfl, ?yu22⟩) (by assumption) ?hu22 ?zu22
            case yu22 => (intro w hSw; (try dsimp only at hSw); go_simp; try (with_reducible rfl))
            case hu22 => (go_simp; exact rfl)
            case zu22 =>
            refine wpAnyH_at (i := 4) (v := ?vu24) (a1 := ?xu24) rfl (by kernel_rfl) (by kernel_rfl) (by kernel_rfl) (fun _ _ _ h => h) (Or.inl ⟨by rfl, ?yu24⟩) (by assumption) ?hu24 ?zu24
            case yu24 => (intro w hSw; (try dsimp only at hSw); go_simp; try (with_reducible rfl))
            case hu24 => (go_simp; exact rfl)
            case zu24 =>
            refine wpAnyH_at (i := 5) (v := ?vu25) (a1 := ?xu25) rfl (by kernel_rfl) (by kernel_rfl) (by kernel_rfl) (fun _ _ _ h => h) (Or.inl ⟨by rfl, ?yu25⟩) (by assumption) ?hu25 ?zu25
            case yu25 => (intro w hSw; (try dsimp only at hSw); go_simp; try (with_reducible rfl))
            case hu25 => (go_simp; exact rfl)
            case zu25 =>
            refine wpAnyH_at (i := 6) (v := ?vu26) (a1 := ?xu26) rfl (by kernel_rfl) (by kernel_rfl) (by kernel_rfl) (fun _ _ _ h => h) (Or.inl ⟨by rfl, ?yu26⟩) (by assumption) ?hu26 ?zu26
            case yu26 => (intro w hSw; (try dsimp only at hSw); go_simp; try (with_reducible rfl))
            case hu26 => (go_simp; exact rfl)
            case zu26 =>
            refine wpAnyH_ready (rs := [3]) (by kernel_rfl) (by simp) ?_
            refine AllReadyH.cons rfl (fun K hK => ?_) AllReadyH.nil
            go_simp
            refine (gput_d (HT5.out.below (bel_one w5)) L (HL5.out.drewL) tS xx HX1.out).mono ?_
            rintro e w6 ⟨rfl, hT, hO⟩
            have HT6 := hide hT
            have HO6 : Hid (Oth w5 w6 w.heap.size) := hide ((Oth.of (bel_one w5) HB5.out.size).trans hO)
            clear hT hO
            try go_wp2_with fail
            refine hK.out _ _ (by first | exact SK2.out _ HO7.out | exact SK2.out _ HO6.out) (fun hHeld2 => ?_)
            clear hK K hHeld
            have hHeld := hHeld2
            clear hHeld2
            refine wpAnyH_ready (rs := [7]) (by kernel_rfl) (by simp) ?_
            refine AllReadyH.cons rfl (fun K hK => ?_) AllReadyH.nil
            go_simp
            refine (gput_r HT6.out tS xx HX2.out).mono ?_
            rintro e w7 ⟨rfl, hT, hO⟩
            have HT7 := hide hT
            have HO7 : Hid (Oth w5 w7 w.heap.size) := hide (HO6.out.trans hO)
            clear hT hO
            try go_wp2_with fail
            refine hK.out _ _ (by first | exact SK2.out _ HO7.out | exact SK2.out _ HO6.out) (fun hHeld2 => ?_)
            clear hK K hHeld
            have hHeld := hHeld2
            clear hHeld2
            refine wpAnyH_at (i := 8) (v := ?vu28) (a1 := ?xu28) rfl (by kernel_rfl) (by kernel_rfl) (by kernel_rfl) (fun _ _ _ h => h) (Or.inl ⟨by rfl, ?yu28⟩) (by assumption) ?hu28 ?zu28
            case yu28 => (intro w hSw; (try dsimp only at hSw); go_simp; try (with_reducible rfl))
            case hu28 => (go_simp; exact rfl)
            case zu28 =>
            refine wpAnyH_done (by kernel_rfl) ?_ _
            go_wp2_with fail
            go_meet
            exact ⟨L, _, _, rfl, HT7, HSN, hide (HO7.out.log HL5.out), hide (HB5.out.trans HO7.out.below)⟩
          have ne1 : (td == 1) = false := beq_eq_false_iff_ne.2 hd1
          clear hd1
          by_cases hd2 : td = 2
          · subst hd2
            obtain ⟨xx, hxx⟩ : ∃ x, (s.put tS).2 = x := ⟨_, rfl⟩
            have HX1 := hide hxx
            have HX2 : Hid ((r.put tS).2 = xx) := hide ((HS.out.put tS).1.symm.trans hxx)
            have HSN := hide (HS.out.put tS).2
            clear hxx
            go_wp2_with fail
            refine wp_region_held_drew (S := (fun wx => wx.cell? ⟨wr.heap.size, 2, none⟩ = some (.string tS))) (by kernel_rfl) (SK2.out _ (Oth.of (bel_one w5) HB5.out.size)) (fun hHeld => ?_)
            refine wpAnyH_at (i := 0) (v := ?vu30) (a1 := ?xu30) rfl (by kernel_rfl) (by kernel_rfl) (by kernel_rfl) (fun _ _ _ h => h) (Or.inl ⟨by rfl, ?yu30⟩) (by assumption) ?hu30 ?zu30
            case yu30 => (intro w hSw; (try dsimp only at hSw); go_simp; try (with_reducible rfl))
            case hu30 => (go_simp; exact rfl)
            case zu30 =>
            refine wpAnyH_at (i := 1) (v := ?vu31) (a1 := ?xu31) rfl (by kernel_rfl) (by kernel_rfl) (by kernel_rfl) (fun _ _ _ h => h) (Or.inl ⟨by rfl, ?yu31⟩) (by assumption) ?hu31 ?zu31
            case yu31 => (intro w hSw; (try dsimp only at hSw); go_simp; try (with_reducible rfl))
            case hu31 => (go_simp; exact rfl)
            case zu31 =>
            refine wpAnyH_at (i := 2) (v := ?vu32) (a1 := ?xu32) rfl (by kernel_rfl) (by kernel_rfl) (by kernel_rfl) (fun _ _ _ h => h) (Or.inl ⟨by rfl, ?yu32⟩) (by assumption) ?hu32 ?zu32
            case yu32 => (intro w hSw; (try dsimp only at hSw); go_simp; try (with_reducible rfl))
            case hu32 => (go_simp; exact rfl)
            case zu32 =>
            refine wpAnyH_at (i := 4) (v := ?vu34) (a1 := ?xu34) rfl (by kernel_rfl) (by kernel_rfl) (by kernel_rfl) (fun _ _ _ h => h) (Or.inl ⟨by rfl, ?yu34⟩) (by assumption) ?hu34 ?zu34
            case yu34 => (intro w hSw; (try dsimp only at hSw); go_simp; try (with_reducible rfl))
            case hu34 => (go_simp; exact rfl)
            case zu34 =>
            refine wpAnyH_at (i := 5) (v := ?vu35) (a1 := ?xu35) rfl (by kernel_rfl) (by kernel_rfl) (by kernel_rfl) (fun _ _ _ h => h) (Or.inl ⟨by rfl, ?yu35⟩) (by assumption) ?hu35 ?zu35
            case yu35 => (intro w hSw; (try dsimp only at hSw); go_simp; try (with_reducible rfl))
            case hu35 => (go_simp; exact rfl)
            case zu35 =>
            refine wpAnyH_at (i := 6) (v := ?vu36) (a1 := ?xu36) rfl (by kernel_rfl) (by kernel_rfl) (by kernel_rfl) (fun _ _ _ h => h) (Or.inl ⟨by rfl, ?yu36⟩) (by assumption) ?hu36 ?zu36
            case yu36 => (intro w hSw; (try dsimp only at hSw); go_simp; try (with_reducible rfl))
            case hu36 => (go_simp; exact rfl)
            case zu36 =>
            refine wpAnyH_ready (rs := [3]) (by kernel_rfl) (by simp) ?_
            refine AllReadyH.cons rfl (fun K hK => ?_) AllReadyH.nil
            go_simp
            refine (gput_d (HT5.out.below (bel_one w5)) L (HL5.out.drewL) tS xx HX1.out).mono ?_
            rintro e w6 ⟨rfl, hT, hO⟩
            have HT6 := hide hT
            have HO6 : Hid (Oth w5 w6 w.heap.size) := hide ((Oth.of (bel_one w5) HB5.out.size).trans hO)
            clear hT hO
            try go_wp2_with fail
            refine hK.out _ _ (by first | exact SK2.out _ HO7.out | exact SK2.out _ HO6.out) (fun hHeld2 => ?_)
            clear hK K hHeld
            have hHeld := hHeld2
            clear hHeld2
            refine wpAnyH_ready (rs := [7]) (by kernel_rfl) (by simp) ?_
            refine AllReadyH.cons rfl (fun K hK => ?_) AllReadyH.nil
            go_simp
            refine (gput_r HT6.out tS xx HX2.out).mono ?_
            rintro e w7 ⟨rfl, hT, hO⟩
            have HT7 := hide hT
            have HO7 : Hid (Oth w5 w7 w.heap.size) := hide (HO6.out.trans hO)
            clear hT hO
            try go_wp2_with fail
            refine hK.out _ _ (by first | exact SK2.out _ HO7.out | exact SK2.out _ HO6.out) (fun hHeld2 => ?_)
            clear hK K hHeld
            have hHeld := hHeld2
            clear hHeld2
            refine wpAnyH_at (i := 8) (v := ?vu38) (a1 := ?xu38) rfl (by kernel_rfl) (by kernel_rfl) (by kernel_rfl) (fun _ _ _ h => h) (Or.inl ⟨by rfl, ?yu38⟩) (by assumption) ?hu38 ?zu38
            case yu38 => (intro w hSw; (try dsimp only at hSw); go_simp; try (with_reducible rfl))
            case hu38 => (go_simp; exact rfl)
            case zu38 =>
            refine wpAnyH_done (by kernel_rfl) ?_ _
            go_wp2_with fail
            go_meet
            exact ⟨L, _, _, rfl, HT7, HSN, hide (HO7.out.log HL5.out), hide (HB5.out.trans HO7.out.below)⟩
          have ne2 : (td == 2) = false := beq_eq_false_iff_ne.2 hd2
          clear hd2
          by_cases hd3 : td = 3
          · subst hd3
            obtain ⟨xx, hxx⟩ : ∃ x, (s.put tS).2 = x := ⟨_, rfl⟩
            have HX1 := hide hxx
            have HX2 : Hid ((r.put tS).2 = xx) := hide ((HS.out.put tS).1.symm.trans hxx)
            have HSN := hide (HS.out.put tS).2
            clear hxx
            go_wp2_with fail
            refine wp_region_held_drew (S := (fun wx => wx.cell? ⟨wr.heap.size, 2, none⟩ = some (.string tS))) (by kernel_rfl) (SK2.out _ (Oth.of (bel_one w5) HB5.out.size)) (fun hHeld => ?_)
            refine wpAnyH_at (i := 0) (v := ?vu40) (a1 := ?xu40) rfl (by kernel_rfl) (by kernel_rfl) (by kernel_rfl) (fun _ _ _ h => h) (Or.inl ⟨by rfl, ?yu40⟩) (by assumption) ?hu40 ?zu40
            case yu40 => (intro w hSw; (try dsimp only at hSw); go_simp; try (with_reducible rfl))
            case hu40 => (go_simp; exact rfl)
            case zu40 =>
            refine wpAnyH_at (i := 1) (v := ?vu41) (a1 := ?xu41) rfl (by kernel_rfl) (by kernel_rfl) (by kernel_rfl) (fun _ _ _ h => h) (Or.inl ⟨by rfl, ?yu41⟩) (by assumption) ?hu41 ?zu41
            case yu41 => (intro w hSw; (try dsimp only at hSw); go_simp; try (with_reducible rfl))
            case hu41 => (go_simp; exact rfl)
            case zu41 =>
            refine wpAnyH_at (i := 2) (v := ?vu42) (a1 := ?xu42) rfl (by kernel_rfl) (by kernel_rfl) (by kernel_rfl) (fun _ _ _ h => h) (Or.inl ⟨by rfl, ?yu42⟩) (by assumption) ?hu42 ?zu42
            case yu42 => (intro w hSw; (try dsimp only at hSw); go_simp; try (with_reducible rfl))
            case hu42 => (go_simp; exact rfl)
            case zu42 =>
            refine wpAnyH_at (i := 4) (v := ?vu44) (a1 := ?xu44) rfl (by kernel_rfl) (by kernel_rfl) (by kernel_rfl) (fun _ _ _ h => h) (Or.inl ⟨by rfl, ?yu44⟩) (by assumption) ?hu44 ?zu44
            case yu44 => (intro w hSw; (try dsimp only at hSw); go_simp; try (with_reducible rfl))
            case hu44 => (go_simp; exact rfl)
            case zu44 =>
            refine wpAnyH_at (i := 5) (v := ?vu45) (a1 := ?xu45) rfl (by kernel_rfl) (by kernel_rfl) (by kernel_rfl) (fun _ _ _ h => h) (Or.inl ⟨by rfl, ?yu45⟩) (by assumption) ?hu45 ?zu45
            case yu45 => (intro w hSw; (try dsimp only at hSw); go_simp; try (with_reducible rfl))
            case hu45 => (go_simp; exact rfl)
            case zu45 =>
            refine wpAnyH_at (i := 6) (v := ?vu46) (a1 := ?xu46) rfl (by kernel_rfl) (by kernel_rfl) (by kernel_rfl) (fun _ _ _ h => h) (Or.inl ⟨by rfl, ?yu46⟩) (by assumption) ?hu46 ?zu46
            case yu46 => (intro w hSw; (try dsimp only at hSw); go_simp; try (with_reducible rfl))
            case hu46 => (go_simp; exact rfl)
            case zu46 =>
            refine wpAnyH_ready (rs := [3]) (by kernel_rfl) (by simp) ?_
            refine AllReadyH.cons rfl (fun K hK => ?_) AllReadyH.nil
            go_simp
            refine (gput_d (HT5.out.below (bel_one w5)) L (HL5.out.drewL) tS xx HX1.out).mono ?_
            rintro e w6 ⟨rfl, hT, hO⟩
            have HT6 := hide hT
            have HO6 : Hid (Oth w5 w6 w.heap.size) := hide ((Oth.of (bel_one w5) HB5.out.size).trans hO)
            clear hT hO
            try go_wp2_with fail
            refine hK.out _ _ (by first | exact SK2.out _ HO7.out | exact SK2.out _ HO6.out) (fun hHeld2 => ?_)
            clear hK K hHeld
            have hHeld := hHeld2
            clear hHeld2
            refine wpAnyH_ready (rs := [7]) (by kernel_rfl) (by simp) ?_
            refine AllReadyH.cons rfl (fun K hK => ?_) AllReadyH.nil
            go_simp
            refine (gput_r HT6.out tS xx HX2.out).mono ?_
            rintro e w7 ⟨rfl, hT, hO⟩
            have HT7 := hide hT
            have HO7 : Hid (Oth w5 w7 w.heap.size) := hide (HO6.out.trans hO)
            clear hT hO
            try go_wp2_with fail
            refine hK.out _ _ (by first | exact SK2.out _ HO7.out | exact SK2.out _ HO6.out) (fun hHeld2 => ?_)
            clear hK K hHeld
            have hHeld := hHeld2
            clear hHeld2
            refine wpAnyH_at (i := 8) (v := ?vu48) (a1 := ?xu48) rfl (by kernel_rfl) (by kernel_rfl) (by kernel_rfl) (fun _ _ _ h => h) (Or.inl ⟨by rfl, ?yu48⟩) (by assumption) ?hu48 ?zu48
            case yu48 => (intro w hSw; (try dsimp only at hSw); go_simp; try (with_reducible rfl))
            case hu48 => (go_simp; exact rfl)
            case zu48 =>
            refine wpAnyH_done (by kernel_rfl) ?_ _
            go_wp2_with fail
            go_meet
            exact ⟨L, _, _, rfl, HT7, HSN, hide (HO7.out.log HL5.out), hide (HB5.out.trans HO7.out.below)⟩
          have ne3 : (td == 3) = false := beq_eq_false_iff_ne.2 hd3
          clear hd3
          by_cases hd5 : td = 5
          · subst hd5
            go_wp2_with fail
            refine (garm_d HT5.out tn HBN.out).mono ?_
            rintro e w6 ⟨rfl, hT, hO⟩
            have HT6 := hide hT
            have HO6 := hide hO
            have d1 := SK1.out _ HO6.out
            clear hT hO
            go_wp2_with fail
            refine (garm_r HT6.out tn HBN.out).mono ?_
            rintro e w7 ⟨rfl, hT, hO⟩
            have HT7 := hide hT
            have HO7 : Hid (Oth w5 w7 w.heap.size) := hide (HO6.out.trans hO)
            clear hT hO
            go_wp2_with fail
            go_meet
            exact ⟨L, _, _, rfl, HT7, hide (HS.out.arm tn), hide (HO7.out.log HL5.out), hide (HB5.out.trans HO7.out.below)⟩
          have ne5 : (td == 5) = false := beq_eq_false_iff_ne.2 hd5
          clear hd5
          by_cases hd4 : td = 4
          · subst hd4
            have z3 := goff_r HT5.out
            cases hoff : r.off with
            | true =>
              rw [hoff] at z3
              clear hoff
              go_wp2_with fail
              refine (grestart_d HT5.out tn HBN.out).mono ?_
              rintro e w6 ⟨rfl, hT, hO⟩
              have HT6 := hide hT
              have HO6 := hide hO
              have d1 := SK1.out _ HO6.out
              clear hT hO
              go_wp2_with fail
              refine (grestart_r HT6.out tn HBN.out).mono ?_
              rintro e w7 ⟨rfl, hT, hO⟩
              have HT7 := hide hT
              have HO7 : Hid (Oth w5 w7 w.heap.size) := hide (HO6.out.trans hO)
              have HS7 := hide (HS.out.restart tn)
              have HB7 : Hid (Below w.heap.size w w7) := hide (HB5.out.trans HO7.out.below)
              clear hT hO HT6 HO6 d1
              go_wp2_with fail
              refine (gopen_d HT7.out).mono ?_
              rintro e w8 ⟨s8, l8, x8, p8, vp8, vc8, ho8, rfl, hr8, hx8, hT, hO⟩
              have HT8 := hide hT
              have HO8 := hide hO
              have HP8 := hide ho8
              have HR8 := hide hr8
              have HX8 := hide hx8
              clear hT hO ho8 hr8 hx8
              go_wp2_with fail
              refine (gopen_r HT8.out).mono ?_
              rintro e w9 ⟨r9, l9, x9, vp9, vc9, ho9, rfl, hr9, hT, hO⟩
              obtain ⟨hll, hxx, hsim⟩ := HS7.out.opn HP8.out ho9
              have HT9 := hide hT
              have HO9 : Hid (Oth w8 w9 w.heap.size) := hide hO
              have HSM := hide hsim
              have HR9 := hide hr9
              clear hT hO ho9 hr9 hsim
              obtain ⟨M8, hM8⟩ : ∃ M, M = l8.length := ⟨_, rfl⟩
              have hM9 : l9.length = M8 := by rw [← hll]; exact hM8.symm
              have HA : Hid (StrArg w9 (.slice vp8 M8 vc8) l8 ∧ StrArg w9 (.slice vp9 M8 vc9) l8 ∧ l8.length ≤ 1000000) := hide (by
                refine ⟨by rw [hM8]; exact own_str (HO9.out.str HR8.out), ?_, opn_len HT7.out HP8.out⟩
                have h := own_str HR9.out
                rw [hM9, ← hll] at h
                exact h)
              rw [← hM8, hM9]
              rw [← hxx]
              have HL8 : Hid (l8 = l9 ∧ x8 = x9) := hide ⟨hll, hxx⟩
              clear hM8 hM9 hll hxx HR8 HR9
              go_wp2_with fail
              refine (same_any w9 _ _ l8 l8 HA.out.1 HA.out.2.1 HA.out.2.2 true (by simp)).mono ?_
              rintro e w10 ⟨rfl, hb10⟩
              have HT10 := hide (HT9.out.below hb10)
              have HO10 : Hid (Oth w8 w10 w.heap.size) := hide (HO9.out.trans (Oth.of hb10 (base_le HO9.out.below HT8.out)))
              clear hb10 HT9 HO9 HA
              by_cases hx0 : x8 = 0
              · have HXX := HX8.out
                rw [if_pos hx0] at HXX
                obtain ⟨L8, rfl, hl8⟩ := HXX
                have HLG := hide hl8
                subst hx0
                clear hl8 HX8
                go_wp2_with fail
                go_meet
                exact ⟨L8, _, _, rfl, HT10, HSM, hide (HO10.out.log HLG.out), hide (HB7.out.trans (HO8.out.below.trans HO10.out.below))⟩
              · have HXX := HX8.out
                rw [if_neg hx0] at HXX
                subst HXX
                have hne : (x8 == 0) = false := by simpa using hx0
                have hne2 : (x8 != 0) = true := by simpa using hx0
                clear hx0 HX8
                go_wp2_with fail
                refine (grestart_d HT10.out 0 (by decide)).mono ?_
                rintro e w11 ⟨rfl, hT, hO⟩
                have HT11 := hide hT
                have HO11 : Hid (Oth w8 w11 w.heap.size) := hide (HO10.out.trans hO)
                clear hT hO HT10 HO10
                go_wp2_with fail
                refine (grestart_r HT11.out 0 (by decide)).mono ?_
                rintro e w12 ⟨rfl, hT, hO⟩
                have HT12 := hide hT
                have HO12 : Hid (Oth w8 w12 w.heap.size) := hide (HO11.out.trans hO)
                have HSM2 := hide (HSM.out.restart 0)
                clear hT hO HT11 HO11
                go_wp2_with fail
                refine (gopen_d HT12.out).mono ?_
                rintro e w13 ⟨s13, l13, x13, p13, vp13, vc13, ho13, rfl, _, hx13, hT, hO⟩
                obtain ⟨lq, sq, hoq⟩ := opn_restart s8 0
                obtain ⟨_, _, hx130⟩ := hoq.one ho13
                subst hx130
                rw [if_pos rfl] at hx13
                obtain ⟨L13, rfl, hl13⟩ := hx13
                have HT13 := hide hT
                have HL13 := hide hl13
                have HP13 := hide ho13
                have HO13 : Hid (Oth w8 w13 w.heap.size) := hide (HO12.out.trans hO)
                clear hT hO HT12 HO12 hl13 ho13 hoq
                go_wp2_with fail
                refine (gopen_r HT13.out).mono ?_
                rintro e w14 ⟨r14, l14, x14, vp14, vc14, ho14, rfl, _, hT, hO⟩
                obtain ⟨hy1, hy2, hsim⟩ := HSM2.out.opn HP13.out ho14
                clear hy1 hy2
                have HT14 := hide hT
                have HO14 : Hid (Oth w8 w14 w.heap.size) := hide (HO13.out.trans hO)
                have HSM3 := hide hsim
                have HL14 := hide (hO.log HL13.out)
                clear hT hO ho14 hsim HT13 HO13
                go_wp2_with fail
                go_meet
                exact ⟨L13, _, _, rfl, HT14, HSM3, HL14, hide (HB7.out.trans (HO8.out.below.trans HO14.out.below))⟩
            | false =>
              rw [hoff] at z3
              clear hoff
              go_wp2_with fail
              refine (gopen_d HT5.out).mono ?_
              rintro e w8 ⟨s8, l8, x8, p8, vp8, vc8, ho8, rfl, hr8, hx8, hT, hO⟩
              have HT8 := hide hT
              have HO8 := hide hO
              have HP8 := hide ho8
              have HR8 := hide hr8
              have HX8 := hide hx8
              clear hT hO ho8 hr8 hx8
              go_wp2_with fail
              refine (gopen_r HT8.out).mono ?_
              rintro e w9 ⟨r9, l9, x9, vp9, vc9, ho9, rfl, hr9, hT, hO⟩
              obtain ⟨hll, hxx, hsim⟩ := HS.out.opn HP8.out ho9
              have HT9 := hide hT
              have HO9 : Hid (Oth w8 w9 w.heap.size) := hide hO
              have HSM := hide hsim
              have HR9 := hide hr9
              clear hT hO ho9 hr9 hsim
              obtain ⟨M8, hM8⟩ : ∃ M, M = l8.length := ⟨_, rfl⟩
              have hM9 : l9.length = M8 := by rw [← hll]; exact hM8.symm
              have HA : Hid (StrArg w9 (.slice vp8 M8 vc8) l8 ∧ StrArg w9 (.slice vp9 M8 vc9) l8 ∧ l8.length ≤ 1000000) := hide (by
                refine ⟨by rw [hM8]; exact own_str (HO9.out.str HR8.out), ?_, opn_len HT5.out HP8.out⟩
                have h := own_str HR9.out
                rw [hM9, ← hll] at h
                exact h)
              rw [← hM8, hM9]
              rw [← hxx]
              have HL8 : Hid (l8 = l9 ∧ x8 = x9) := hide ⟨hll, hxx⟩
              clear hM8 hM9 hll hxx HR8 HR9
              go_wp2_with fail
              refine (same_any w9 _ _ l8 l8 HA.out.1 HA.out.2.1 HA.out.2.2 true (by simp)).mono ?_
              rintro e w10 ⟨rfl, hb10⟩
              have HT10 := hide (HT9.out.below hb10)
              have HO10 : Hid (Oth w8 w10 w.heap.size) := hide (HO9.out.trans (Oth.of hb10 (base_le HO9.out.below HT8.out)))
              clear hb10 HT9 HO9 HA
              by_cases hx0 : x8 = 0
              · have HXX := HX8.out
                rw [if_pos hx0] at HXX
                obtain ⟨L8, rfl, hl8⟩ := HXX
                have HLG := hide hl8
                subst hx0
                clear hl8 HX8
                go_wp2_with fail
                go_meet
                exact ⟨L8, _, _, rfl, HT10, HSM, hide (HO10.out.log HLG.out), hide (HB5.out.trans (HO8.out.below.trans HO10.out.below))⟩
              · have HXX := HX8.out
                rw [if_neg hx0] at HXX
                subst HXX
                have hne : (x8 == 0) = false := by simpa using hx0
                have hne2 : (x8 != 0) = true := by simpa using hx0
                clear hx0 HX8
                go_wp2_with fail
                refine (grestart_d HT10.out 0 (by decide)).mono ?_
                rintro e w11 ⟨rfl, hT, hO⟩
                have HT11 := hide hT
                have HO11 : Hid (Oth w8 w11 w.heap.size) := hide (HO10.out.trans hO)
                clear hT hO HT10 HO10
                go_wp2_with fail
                refine (grestart_r HT11.out 0 (by decide)).mono ?_
                rintro e w12 ⟨rfl, hT, hO⟩
                have HT12 := hide hT
                have HO12 : Hid (Oth w8 w12 w.heap.size) := hide (HO11.out.trans hO)
                have HSM2 := hide (HSM.out.restart 0)
                clear hT hO HT11 HO11
                go_wp2_with fail
                refine (gopen_d HT12.out).mono ?_
                rintro e w13 ⟨s13, l13, x13, p13, vp13, vc13, ho13, rfl, _, hx13, hT, hO⟩
                obtain ⟨lq, sq, hoq⟩ := opn_restart s8 0
                obtain ⟨_, _, hx130⟩ := hoq.one ho13
                subst hx130
                rw [if_pos rfl] at hx13
                obtain ⟨L13, rfl, hl13⟩ := hx13
                have HT13 := hide hT
                have HL13 := hide hl13
                have HP13 := hide ho13
                have HO13 : Hid (Oth w8 w13 w.heap.size) := hide (HO12.out.trans hO)
                clear hT hO HT12 HO12 hl13 ho13 hoq
                go_wp2_with fail
                refine (gopen_r HT13.out).mono ?_
                rintro e w14 ⟨r14, l14, x14, vp14, vc14, ho14, rfl, _, hT, hO⟩
                obtain ⟨hy1, hy2, hsim⟩ := HSM2.out.opn HP13.out ho14
                clear hy1 hy2
                have HT14 := hide hT
                have HO14 : Hid (Oth w8 w14 w.heap.size) := hide (HO13.out.trans hO)
                have HSM3 := hide hsim
                have HL14 := hide (hO.log HL13.out)
                clear hT hO ho14 hsim HT13 HO13
                go_wp2_with fail
                go_meet
                exact ⟨L13, _, _, rfl, HT14, HSM3, HL14, hide (HB5.out.trans (HO8.out.below.trans HO14.out.below))⟩
          have ne4 : (td != 4) = true := by simpa using hd4
          clear hd4
          go_wp2_with fail
          refine (grestart_d HT5.out tn HBN.out).mono ?_
          rintro e w6 ⟨rfl, hT, hO⟩
          have HT6 := hide hT
          have HO6 := hide hO
          have d1 := SK1.out _ HO6.out
          clear hT hO
          go_wp2_with fail
          refine (grestart_r HT6.out tn HBN.out).mono ?_
          rintro e w7 ⟨rfl, hT, hO⟩
          have HT7 := hide hT
          have HO7 : Hid (Oth w5 w7 w.heap.size) := hide (HO6.out.trans hO)
          have HS7 := hide (HS.out.restart tn)
          have HB7 : Hid (Below w.heap.size w w7) := hide (HB5.out.trans HO7.out.below)
          clear hT hO HT6 HO6 d1
          go_wp2_with fail
          refine (gopen_d HT7.out).mono ?_
          rintro e w8 ⟨s8, l8, x8, p8, vp8, vc8, ho8, rfl, hr8, hx8, hT, hO⟩
          have HT8 := hide hT
          have HO8 := hide hO
          have HP8 := hide ho8
          have HR8 := hide hr8
          have HX8 := hide hx8
          clear hT hO ho8 hr8 hx8
          go_wp2_with fail
          refine (gopen_r HT8.out).mono ?_
          rintro e w9 ⟨r9, l9, x9, vp9, vc9, ho9, rfl, hr9, hT, hO⟩
          obtain ⟨hll, hxx, hsim⟩ := HS7.out.opn HP8.out ho9
          have HT9 := hide hT
          have HO9 : Hid (Oth w8 w9 w.heap.size) := hide hO
          have HSM := hide hsim
          have HR9 := hide hr9
          clear hT hO ho9 hr9 hsim
          obtain ⟨M8, hM8⟩ : ∃ M, M = l8.length := ⟨_, rfl⟩
          have hM9 : l9.length = M8 := by rw [← hll]; exact hM8.symm
          have HA : Hid (StrArg w9 (.slice vp8 M8 vc8) l8 ∧ StrArg w9 (.slice vp9 M8 vc9) l8 ∧ l8.length ≤ 1000000) := hide (by
            refine ⟨by rw [hM8]; exact own_str (HO9.out.str HR8.out), ?_, opn_len HT7.out HP8.out⟩
            have h := own_str HR9.out
            rw [hM9, ← hll] at h
            exact h)
          rw [← hM8, hM9]
          rw [← hxx]
          have HL8 : Hid (l8 = l9 ∧ x8 = x9) := hide ⟨hll, hxx⟩
          clear hM8 hM9 hll hxx HR8 HR9
          go_wp2_with fail
          refine (same_any w9 _ _ l8 l8 HA.out.1 HA.out.2.1 HA.out.2.2 true (by simp)).mono ?_
          rintro e w10 ⟨rfl, hb10⟩
          have HT10 := hide (HT9.out.below hb10)
          have HO10 : Hid (Oth w8 w10 w.heap.size) := hide (HO9.out.trans (Oth.of hb10 (base_le HO9.out.below HT8.out)))
          clear hb10 HT9 HO9 HA
          by_cases hx0 : x8 = 0
          · have HXX := HX8.out
            rw [if_pos hx0] at HXX
            obtain ⟨L8, rfl, hl8⟩ := HXX
            have HLG := hide hl8
            subst hx0
            clear hl8 HX8
            go_wp2_with fail
            go_meet
            exact ⟨L8, _, _, rfl, HT10, HSM, hide (HO10.out.log HLG.out), hide (HB7.out.trans (HO8.out.below.trans HO10.out.below))⟩
          · have HXX := HX8.out
            rw [if_neg hx0] at HXX
            subst HXX
            have hne : (x8 == 0) = false := by simpa using hx0
            have hne2 : (x8 != 0) = true := by simpa using hx0
            clear hx0 HX8
            go_wp2_with fail
            refine (grestart_d HT10.out 0 (by decide)).mono ?_
            rintro e w11 ⟨rfl, hT, hO⟩
            have HT11 := hide hT
            have HO11 : Hid (Oth w8 w11 w.heap.size) := hide (HO10.out.trans hO)
            clear hT hO HT10 HO10
            go_wp2_with fail
            refine (grestart_r HT11.out 0 (by decide)).mono ?_
            rintro e w12 ⟨rfl, hT, hO⟩
            have HT12 := hide hT
            have HO12 : Hid (Oth w8 w12 w.heap.size) := hide (HO11.out.trans hO)
            have HSM2 := hide (HSM.out.restart 0)
            clear hT hO HT11 HO11
            go_wp2_with fail
            refine (gopen_d HT12.out).mono ?_
            rintro e w13 ⟨s13, l13, x13, p13, vp13, vc13, ho13, rfl, _, hx13, hT, hO⟩
            obtain ⟨lq, sq, hoq⟩ := opn_restart s8 0
            obtain ⟨_, _, hx130⟩ := hoq.one ho13
            subst hx130
            rw [if_pos rfl] at hx13
            obtain ⟨L13, rfl, hl13⟩ := hx13
            have HT13 := hide hT
            have HL13 := hide hl13
            have HP13 := hide ho13
            have HO13 : Hid (Oth w8 w13 w.heap.size) := hide (HO12.out.trans hO)
            clear hT hO HT12 HO12 hl13 ho13 hoq
            go_wp2_with fail
            refine (gopen_r HT13.out).mono ?_
            rintro e w14 ⟨r14, l14, x14, vp14, vc14, ho14, rfl, _, hT, hO⟩
            obtain ⟨hy1, hy2, hsim⟩ := HSM2.out.opn HP13.out ho14
            clear hy1 hy2
            have HT14 := hide hT
            have HO14 : Hid (Oth w8 w14 w.heap.size) := hide (HO13.out.trans hO)
            have HSM3 := hide hsim
            have HL14 := hide (hO.log HL13.out)
            clear hT hO ho14 hsim HT13 HO13
            go_wp2_with fail
            go_meet
            exact ⟨L13, _, _, rfl, HT14, HSM3, HL14, hide (HB7.out.trans (HO8.out.below.trans HO14.out.below))⟩
        case rest =>
        obtain ⟨L9, s9, r9, rfl, HTC, HSC, HLC, HBC⟩ := hcut
        have HW : Hid (Below wc.heap.size wc wc.drew) := hide (bel_one wc)
        clear HT5 HB5 HL5 SK1 SK2 HBN HS d0 d1 d2
        go_wp2_with fail
        refine wp_region_held_drew (S := (fun wx => Hid (Below wc.heap.size wc wx))) (by kernel_rfl) (HW) (fun hHeld => ?_)
        refine wpAnyH_at (i := 0) (v := ?vkx0) (a1 := ?xkx0) rfl (by kernel_rfl) (by kernel_rfl) (by kernel_rfl) (fun _ _ _ h => h) (Or.inl ⟨by rfl, ?ykx0⟩) (by assumption) ?hkx0 ?zkx0
        case ykx0 => (intro w hSw; (try dsimp only at hSw); go_simp; try (with_reducible rfl))
        case hkx0 => (go_simp; exact rfl)
        case zkx0 =>
        refine wpAnyH_at (i := 1) (v := ?vkx1) (a1 := ?xkx1) rfl (by kernel_rfl) (by kernel_rfl) (by kernel_rfl) (fun _ _ _ h => h) (Or.inl ⟨by rfl, ?ykx1⟩) (by assumption) ?hkx1 ?zkx1
        case ykx1 => (intro w hSw; (try dsimp only at hSw); go_simp; try (with_reducible rfl))
        case hkx1 => (go_simp; exact rfl)
        case zkx1 =>
        refine wpAnyH_at (i := 2) (v := ?vkx2) (a1 := ?xkx2) rfl (by kernel_rfl) (by kernel_rfl) (by kernel_rfl) (fun _ _ _ h => h) (Or.inl ⟨by rfl, ?ykx2⟩) (by assumption) ?hkx2 ?zkx2
        case ykx2 => (intro w hSw; (try dsimp only at hSw); go_simp; try (with_reducible rfl))
        case hkx2 => (go_simp; exact rfl)
        case zkx2 =>
        refine wpAnyH_at (i := 3) (v := ?vkx3) (a1 := ?xkx3) rfl (by kernel_rfl) (by kernel_rfl) (by kernel_rfl) (fun _ _ _ h => h) (Or.inl ⟨by rfl, ?ykx3⟩) (by assumption) ?hkx3 ?zkx3
        case ykx3 => (intro w hSw; (try dsimp only at hSw); go_simp; try (with_reducible rfl))
        case hkx3 => (go_simp; exact rfl)
        case zkx3 =>
        refine wpAnyH_at (i := 6) (v := ?vkx6) (a1 := ?xkx6) rfl (by kernel_rfl) (by kernel_rfl) (by kernel_rfl) (fun _ _ _ h => h) (Or.inl ⟨by rfl, ?ykx6⟩) (by assumption) ?hkx6 ?zkx6
        case ykx6 => (intro w hSw; (try dsimp only at hSw); go_simp; try (with_reducible rfl))
        case hkx6 => (go_simp; exact rfl)
        case zkx6 =>
        refine wpAnyH_ready (rs := [4]) (by kernel_rfl) (by simp) ?_
        refine AllReadyH.cons rfl (fun K hK => ?_) AllReadyH.nil
        go_simp
        refine (gbytes_d (HTC.out.below HW.out)).mono ?_
        rintro e wyq4 ⟨v4, rfl, hN, hC⟩
        have HC4q4 := hide hC
        have HWq4 : Hid (Below wc.heap.size wc wyq4) := hide (HW.out.trans (hN.mono HW.out.size))
        have q4q4 := hC _ (Below.refl _ _)
        clear hN hC
        try go_wp2_with fail
        refine hK.out _ _ (HWq4) (fun hHeld2 => ?_)
        clear hK K hHeld
        have hHeld := hHeld2
        clear hHeld2
        refine wpAnyH_ready (rs := [5, 7]) (by kernel_rfl) (by simp) ?_
        refine AllReadyH.cons rfl (fun K hK => ?_) (AllReadyH.cons rfl (fun K hK => ?_) AllReadyH.nil)
        · go_simp
          try go_wp2_with fail
          refine hK.out _ _ (HWq4) (fun hHeld2 => ?_)
          clear hK K hHeld
          have hHeld := hHeld2
          clear hHeld2
          refine wpAnyH_ready (rs := [7]) (by kernel_rfl) (by simp) ?_
          refine AllReadyH.cons rfl (fun K hK => ?_) AllReadyH.nil
          go_simp
          refine (gbytes_r (HTC.out.below HWq4.out)).mono ?_
          rintro e wyq4q5q7 ⟨vp7, vc7, rfl, hN, hC⟩
          rw [← HSC.out.1] at hC ⊢
          have HWq4q5q7 : Hid (Below wc.heap.size wc wyq4q5q7) := hide (HWq4.out.trans (hN.mono HWq4.out.size))
          have q7q4q5q7 := hC _ (Below.refl _ _)
          clear hN hC
          try go_wp2_with fail
          refine hK.out _ _ (HWq4q5q7) (fun hHeld2 => ?_)
          clear hK K hHeld
          have hHeld := hHeld2
          clear hHeld2
          refine wpAnyH_ready (rs := [8]) (by kernel_rfl) (by simp) ?_
          refine AllReadyH.cons rfl (fun K hK => ?_) AllReadyH.nil
          go_simp
          try go_wp2_with fail
          refine hK.out _ _ (HWq4q5q7) (fun hHeld2 => ?_)
          clear hK K hHeld
          have hHeld := hHeld2
          clear hHeld2
          refine wpAnyH_at (i := 9) (v := ?vkp4p5p7p8x9) (a1 := ?xkp4p5p7p8x9) rfl (by kernel_rfl) (by kernel_rfl) (by kernel_rfl) (fun _ _ _ h => h) (Or.inl ⟨by rfl, ?ykp4p5p7p8x9⟩) (by assumption) ?hkp4p5p7p8x9 ?zkp4p5p7p8x9
          case ykp4p5p7p8x9 => (intro w hSw; (try dsimp only at hSw); go_simp; try (with_reducible rfl))
          case hkp4p5p7p8x9 => (go_simp; exact rfl)
          case zkp4p5p7p8x9 =>
          refine wpAnyH_at (i := 10) (v := ?vkp4p5p7p8x10) (a1 := ?xkp4p5p7p8x10) rfl (by kernel_rfl) (by kernel_rfl) (by kernel_rfl) (fun _ _ _ h => h) (Or.inl ⟨by rfl, ?ykp4p5p7p8x10⟩) (by assumption) ?hkp4p5p7p8x10 ?zkp4p5p7p8x10
          case ykp4p5p7p8x10 => (intro w hSw; (try dsimp only at hSw); go_simp; try (with_reducible rfl))
          case hkp4p5p7p8x10 => (go_simp; exact rfl)
          case zkp4p5p7p8x10 =>
          refine wpAnyH_at (i := 11) (v := ?vkp4p5p7p8x11) (a1 := ?xkp4p5p7p8x11) rfl (by kernel_rfl) (by kernel_rfl) (by kernel_rfl) (fun _ _ _ h => h) (Or.inl ⟨by rfl, ?ykp4p5p7p8x11⟩) (by assumption) ?hkp4p5p7p8x11 ?zkp4p5p7p8x11
          case ykp4p5p7p8x11 => (intro w hSw; (try dsimp only at hSw); go_simp; try (with_reducible rfl))
          case hkp4p5p7p8x11 => (go_simp; exact rfl)
          case zkp4p5p7p8x11 =>
          refine wpAnyH_at (i := 12) (v := ?vkp4p5p7p8x12) (a1 := ?xkp4p5p7p8x12) rfl (by kernel_rfl) (by kernel_rfl) (by kernel_rfl) (fun _ _ _ h => h) (Or.inl ⟨by rfl, ?ykp4p5p7p8x12⟩) (by assumption) ?hkp4p5p7p8x12 ?zkp4p5p7p8x12
          case ykp4p5p7p8x12 => (intro w hSw; (try dsimp only at hSw); go_simp; try (with_reducible rfl))
          case hkp4p5p7p8x12 => (go_simp; exact rfl)
          case zkp4p5p7p8x12 =>
          refine wpAnyH_at (i := 14) (v := ?vkp4p5p7p8x14) (a1 := ?xkp4p5p7p8x14) rfl (by kernel_rfl) (by kernel_rfl) (by kernel_rfl) (fun _ _ _ h => h) (Or.inl ⟨by rfl, ?ykp4p5p7p8x14⟩) (by assumption) ?hkp4p5p7p8x14 ?zkp4p5p7p8x14
          case ykp4p5p7p8x14 => (intro w hSw; (try dsimp only at hSw); go_simp; try (with_reducible rfl))
          case hkp4p5p7p8x14 => (go_simp; exact rfl)
          case zkp4p5p7p8x14 =>
          refine wpAnyH_ready (rs := [13]) (by kernel_rfl) (by simp) ?_
          refine AllReadyH.cons rfl (fun K hK => ?_) AllReadyH.nil
          go_simp
          refine (gsize (HTC.out.below HWq4q5q7.out) L9 (log_below HLC.out HWq4q5q7.out)).mono ?_
          rintro e wyq4q5q7q8q13 ⟨rfl, hN⟩
          have HWq4q5q7q8q13 : Hid (Below wc.heap.size wc wyq4q5q7q8q13) := hide (HWq4q5q7.out.trans (hN.mono HWq4q5q7.out.size))
          clear hN
          try go_wp2_with fail
          refine hK.out _ _ (HWq4q5q7q8q13) (fun hHeld2 => ?_)
          clear hK K hHeld
          have hHeld := hHeld2
          clear hHeld2
          refine wpAnyH_ready (rs := [15]) (by kernel_rfl) (by simp) ?_
          refine AllReadyH.cons rfl (fun K hK => ?_) AllReadyH.nil
          go_simp
          refine (gbytes_r (HTC.out.below HWq4q5q7q8q13.out)).mono ?_
          rintro e wyq4q5q7q8q13q15 ⟨vp15, vc15, rfl, hN, -⟩
          rw [← HSC.out.1]
          have HWq4q5q7q8q13q15 : Hid (Below wc.heap.size wc wyq4q5q7q8q13q15) := hide (HWq4q5q7q8q13.out.trans (hN.mono HWq4q5q7q8q13.out.size))
          clear hN
          try go_wp2_with fail
          refine hK.out _ _ (HWq4q5q7q8q13q15) (fun hHeld2 => ?_)
          clear hK K hHeld
          have hHeld := hHeld2
          clear hHeld2
          refine wpAnyH_at (i := 16) (v := ?vkp4p5p7p8p13p15x16) (a1 := ?xkp4p5p7p8p13p15x16) rfl (by kernel_rfl) (by kernel_rfl) (by kernel_rfl) (fun _ _ _ h => h) (Or.inl ⟨by rfl, ?ykp4p5p7p8p13p15x16⟩) (by assumption) ?hkp4p5p7p8p13p15x16 ?zkp4p5p7p8p13p15x16
          case ykp4p5p7p8p13p15x16 => (intro w hSw; (try dsimp only at hSw); go_simp; try (with_reducible rfl))
          case hkp4p5p7p8p13p15x16 => (go_simp; exact rfl)
          case zkp4p5p7p8p13p15x16 =>
          refine wpAnyH_at (i := 17) (v := ?vkp4p5p7p8p13p15x17) (a1 := ?xkp4p5p7p8p13p15x17) rfl (by kernel_rfl) (by kernel_rfl) (by kernel_rfl) (fun _ _ _ h => h) (Or.inl ⟨by rfl, ?ykp4p5p7p8p13p15x17⟩) (by assumption) ?hkp4p5p7p8p13p15x17 ?zkp4p5p7p8p13p15x17
          case ykp4p5p7p8p13p15x17 => (intro w hSw; (try dsimp only at hSw); go_simp; try (with_reducible rfl))
          case hkp4p5p7p8p13p15x17 => (go_simp; exact rfl)
          case zkp4p5p7p8p13p15x17 =>
          refine wpAnyH_at (i := 18) (v := ?vkp4p5p7p8p13p15x18) (a1 := ?xkp4p5p7p8p13p15x18) rfl (by kernel_rfl) (by kernel_rfl) (by kernel_rfl) (fun _ _ _ h => h) (Or.inl ⟨by rfl, ?ykp4p5p7p8p13p15x18⟩) (by assumption) ?hkp4p5p7p8p13p15x18 ?zkp4p5p7p8p13p15x18
          case ykp4p5p7p8p13p15x18 => (intro w hSw; (try dsimp only at hSw); go_simp; try (with_reducible rfl))
          case hkp4p5p7p8p13p15x18 => (go_simp; exact rfl)
          case zkp4p5p7p8p13p15x18 =>
          refine wpAnyH_done (by kernel_rfl) ?_ _
          go_wp2_with fail
          go_roundg (N - (i + 1))
          case measure => omega
          case rel => exact ⟨i + 1, L9, s9, r9, by omega, by omega, by first | rfl | simp, rfl, hide (HTC.out.below HWq4q5q7q8q13q15.out), HSC, hide (log_below HLC.out HWq4q5q7q8q13q15.out), hide (HBC.out.trans (HWq4q5q7q8q13q15.out.mono HBC.out.size))⟩
        · go_simp
          refine (gbytes_r (HTC.out.below HWq4.out)).mono ?_
          rintro e wyq4q7 ⟨vp7, vc7, rfl, hN, hC⟩
          rw [← HSC.out.1] at hC ⊢
          have HWq4q7 : Hid (Below wc.heap.size wc wyq4q7) := hide (HWq4.out.trans (hN.mono HWq4.out.size))
          have q7q4q7 := hC _ (Below.refl _ _)
          have q4q4q7 := HC4q4.out _ hN
          clear hN hC
          try go_wp2_with fail
          refine hK.out _ _ (HWq4q7) (fun hHeld2 => ?_)
          clear hK K hHeld
          have hHeld := hHeld2
          clear hHeld2
          refine wpAnyH_ready (rs := [5, 8]) (by kernel_rfl) (by simp) ?_
          refine AllReadyH.cons rfl (fun K hK => ?_) (AllReadyH.cons rfl (fun K hK => ?_) AllReadyH.nil)
          · go_simp
            try go_wp2_with fail
            refine hK.out _ _ (HWq4q7) (fun hHeld2 => ?_)
            clear hK K hHeld
            have hHeld := hHeld2
            clear hHeld2
            refine wpAnyH_ready (rs := [8]) (by kernel_rfl) (by simp) ?_
            refine AllReadyH.cons rfl (fun K hK => ?_) AllReadyH.nil
            go_simp
            try go_wp2_with fail
            refine hK.out _ _ (HWq4q7) (fun hHeld2 => ?_)
            clear hK K hHeld
            have hHeld := hHeld2
            clear hHeld2
            refine wpAnyH_at (i := 9) (v := ?vkp4p7p5p8x9) (a1 := ?xkp4p7p5p8x9) rfl (by kernel_rfl) (by kernel_rfl) (by kernel_rfl) (fun _ _ _ h => h) (Or.inl ⟨by rfl, ?ykp4p7p5p8x9⟩) (by assumption) ?hkp4p7p5p8x9 ?zkp4p7p5p8x9
            case ykp4p7p5p8x9 => (intro w hSw; (try dsimp only at hSw); go_simp; try (with_reducible rfl))
            case hkp4p7p5p8x9 => (go_simp; exact rfl)
            case zkp4p7p5p8x9 =>
            refine wpAnyH_at (i := 10) (v := ?vkp4p7p5p8x10) (a1 := ?xkp4p7p5p8x10) rfl (by kernel_rfl) (by kernel_rfl) (by kernel_rfl) (fun _ _ _ h => h) (Or.inl ⟨by rfl, ?ykp4p7p5p8x10⟩) (by assumption) ?hkp4p7p5p8x10 ?zkp4p7p5p8x10
            case ykp4p7p5p8x10 => (intro w hSw; (try dsimp only at hSw); go_simp; try (with_reducible rfl))
            case hkp4p7p5p8x10 => (go_simp; exact rfl)
            case zkp4p7p5p8x10 =>
            refine wpAnyH_at (i := 11) (v := ?vkp4p7p5p8x11) (a1 := ?xkp4p7p5p8x11) rfl (by kernel_rfl) (by kernel_rfl) (by kernel_rfl) (fun _ _ _ h => h) (Or.inl ⟨by rfl, ?ykp4p7p5p8x11⟩) (by assumption) ?hkp4p7p5p8x11 ?zkp4p7p5p8x11
            case ykp4p7p5p8x11 => (intro w hSw; (try dsimp only at hSw); go_simp; try (with_reducible rfl))
            case hkp4p7p5p8x11 => (go_simp; exact rfl)
            case zkp4p7p5p8x11 =>
            refine wpAnyH_at (i := 12) (v := ?vkp4p7p5p8x12) (a1 := ?xkp4p7p5p8x12) rfl (by kernel_rfl) (by kernel_rfl) (by kernel_rfl) (fun _ _ _ h => h) (Or.inl ⟨by rfl, ?ykp4p7p5p8x12⟩) (by assumption) ?hkp4p7p5p8x12 ?zkp4p7p5p8x12
            case ykp4p7p5p8x12 => (intro w hSw; (try dsimp only at hSw); go_simp; try (with_reducible rfl))
            case hkp4p7p5p8x12 => (go_simp; exact rfl)
            case zkp4p7p5p8x12 =>
            refine wpAnyH_at (i := 14) (v := ?vkp4p7p5p8x14) (a1 := ?xkp4p7p5p8x14) rfl (by kernel_rfl) (by kernel_rfl) (by kernel_rfl) (fun _ _ _ h => h) (Or.inl ⟨by rfl, ?ykp4p7p5p8x14⟩) (by assumption) ?hkp4p7p5p8x14 ?zkp4p7p5p8x14
            case ykp4p7p5p8x14 => (intro w hSw; (try dsimp only at hSw); go_simp; try (with_reducible rfl))
            case hkp4p7p5p8x14 => (go_simp; exact rfl)
            case zkp4p7p5p8x14 =>
            refine wpAnyH_ready (rs := [13]) (by kernel_rfl) (by simp) ?_
            refine AllReadyH.cons rfl (fun K hK => ?_) AllReadyH.nil
            go_simp
            refine (gsize (HTC.out.below HWq4q7.out) L9 (log_below HLC.out HWq4q7.out)).mono ?_
            rintro e wyq4q7q5q8q13 ⟨rfl, hN⟩
            have HWq4q7q5q8q13 : Hid (Below wc.heap.size wc wyq4q7q5q8q13) := hide (HWq4q7.out.trans (hN.mono HWq4q7.out.size))
            clear hN
            try go_wp2_with fail
            refine hK.out _ _ (HWq4q7q5q8q13) (fun hHeld2 => ?_)
            clear hK K hHeld
            have hHeld := hHeld2
            clear hHeld2
            refine wpAnyH_ready (rs := [15]) (by kernel_rfl) (by simp) ?_
            refine AllReadyH.cons rfl (fun K hK => ?_) AllReadyH.nil
            go_simp
            refine (gbytes_r (HTC.out.below HWq4q7q5q8q13.out)).mono ?_
            rintro e wyq4q7q5q8q13q15 ⟨vp15, vc15, rfl, hN, -⟩
            rw [← HSC.out.1]
            have HWq4q7q5q8q13q15 : Hid (Below wc.heap.size wc wyq4q7q5q8q13q15) := hide (HWq4q7q5q8q13.out.trans (hN.mono HWq4q7q5q8q13.out.size))
            clear hN
            try go_wp2_with fail
            refine hK.out _ _ (HWq4q7q5q8q13q15) (fun hHeld2 => ?_)
            clear hK K hHeld
            have hHeld := hHeld2
            clear hHeld2
            refine wpAnyH_at (i := 16) (v := ?vkp4p7p5p8p13p15x16) (a1 := ?xkp4p7p5p8p13p15x16) rfl (by kernel_rfl) (by kernel_rfl) (by kernel_rfl) (fun _ _ _ h => h) (Or.inl ⟨by rfl, ?ykp4p7p5p8p13p15x16⟩) (by assumption) ?hkp4p7p5p8p13p15x16 ?zkp4p7p5p8p13p15x16
            case ykp4p7p5p8p13p15x16 => (intro w hSw; (try dsimp only at hSw); go_simp; try (with_reducible rfl))
            case hkp4p7p5p8p13p15x16 => (go_simp; exact rfl)
            case zkp4p7p5p8p13p15x16 =>
            refine wpAnyH_at (i := 17) (v := ?vkp4p7p5p8p13p15x17) (a1 := ?xkp4p7p5p8p13p15x17) rfl (by kernel_rfl) (by kernel_rfl) (by kernel_rfl) (fun _ _ _ h => h) (Or.inl ⟨by rfl, ?ykp4p7p5p8p13p15x17⟩) (by assumption) ?hkp4p7p5p8p13p15x17 ?zkp4p7p5p8p13p15x17
            case ykp4p7p5p8p13p15x17 => (intro w hSw; (try dsimp only at hSw); go_simp; try (with_reducible rfl))
            case hkp4p7p5p8p13p15x17 => (go_simp; exact rfl)
            case zkp4p7p5p8p13p15x17 =>
            refine wpAnyH_at (i := 18) (v := ?vkp4p7p5p8p13p15x18) (a1 := ?xkp4p7p5p8p13p15x18) rfl (by kernel_rfl) (by kernel_rfl) (by kernel_rfl) (fun _ _ _ h => h) (Or.inl ⟨by rfl, ?ykp4p7p5p8p13p15x18⟩) (by assumption) ?hkp4p7p5p8p13p15x18 ?zkp4p7p5p8p13p15x18
            case ykp4p7p5p8p13p15x18 => (intro w hSw; (try dsimp only at hSw); go_simp; try (with_reducible rfl))
            case hkp4p7p5p8p13p15x18 => (go_simp; exact rfl)
            case zkp4p7p5p8p13p15x18 =>
            refine wpAnyH_done (by kernel_rfl) ?_ _
            go_wp2_with fail
            go_roundg (N - (i + 1))
            case measure => omega
            case rel => exact ⟨i + 1, L9, s9, r9, by omega, by omega, by first | rfl | simp, rfl, hide (HTC.out.below HWq4q7q5q8q13q15.out), HSC, hide (log_below HLC.out HWq4q7q5q8q13q15.out), hide (HBC.out.trans (HWq4q7q5q8q13q15.out.mono HBC.out.size))⟩
          · go_simp
            try go_wp2_with fail
            refine hK.out _ _ (HWq4q7) (fun hHeld2 => ?_)
            clear hK K hHeld
            have hHeld := hHeld2
            clear hHeld2
            refine wpAnyH_ready (rs := [5]) (by kernel_rfl) (by simp) ?_
            refine AllReadyH.cons rfl (fun K hK => ?_) AllReadyH.nil
            go_simp
            try go_wp2_with fail
            refine hK.out _ _ (HWq4q7) (fun hHeld2 => ?_)
            clear hK K hHeld
            have hHeld := hHeld2
            clear hHeld2
            refine wpAnyH_at (i := 9) (v := ?vkp4p7p8p5x9) (a1 := ?xkp4p7p8p5x9) rfl (by kernel_rfl) (by kernel_rfl) (by kernel_rfl) (fun _ _ _ h => h) (Or.inl ⟨by rfl, ?ykp4p7p8p5x9⟩) (by assumption) ?hkp4p7p8p5x9 ?zkp4p7p8p5x9
            case ykp4p7p8p5x9 => (intro w hSw; (try dsimp only at hSw); go_simp; try (with_reducible rfl))
            case hkp4p7p8p5x9 => (go_simp; exact rfl)
            case zkp4p7p8p5x9 =>
            refine wpAnyH_at (i := 10) (v := ?vkp4p7p8p5x10) (a1 := ?xkp4p7p8p5x10) rfl (by kernel_rfl) (by kernel_rfl) (by kernel_rfl) (fun _ _ _ h => h) (Or.inl ⟨by rfl, ?ykp4p7p8p5x10⟩) (by assumption) ?hkp4p7p8p5x10 ?zkp4p7p8p5x10
            case ykp4p7p8p5x10 => (intro w hSw; (try dsimp only at hSw); go_simp; try (with_reducible rfl))
            case hkp4p7p8p5x10 => (go_simp; exact rfl)
            case zkp4p7p8p5x10 =>
            refine wpAnyH_at (i := 11) (v := ?vkp4p7p8p5x11) (a1 := ?xkp4p7p8p5x11) rfl (by kernel_rfl) (by kernel_rfl) (by kernel_rfl) (fun _ _ _ h => h) (Or.inl ⟨by rfl, ?ykp4p7p8p5x11⟩) (by assumption) ?hkp4p7p8p5x11 ?zkp4p7p8p5x11
            case ykp4p7p8p5x11 => (intro w hSw; (try dsimp only at hSw); go_simp; try (with_reducible rfl))
            case hkp4p7p8p5x11 => (go_simp; exact rfl)
            case zkp4p7p8p5x11 =>
            refine wpAnyH_at (i := 12) (v := ?vkp4p7p8p5x12) (a1 := ?xkp4p7p8p5x12) rfl (by kernel_rfl) (by kernel_rfl) (by kernel_rfl) (fun _ _ _ h => h) (Or.inl ⟨by rfl, ?ykp4p7p8p5x12⟩) (by assumption) ?hkp4p7p8p5x12 ?zkp4p7p8p5x12
            case ykp4p7p8p5x12 => (intro w hSw; (try dsimp only at hSw); go_simp; try (with_reducible rfl))
            case hkp4p7p8p5x12 => (go_simp; exact rfl)
            case zkp4p7p8p5x12 =>
            refine wpAnyH_at (i := 14) (v := ?vkp4p7p8p5x14) (a1 := ?xkp4p7p8p5x14) rfl (by kernel_rfl) (by kernel_rfl) (by kernel_rfl) (fun _ _ _ h => h) (Or.inl ⟨by rfl, ?ykp4p7p8p5x14⟩) (by assumption) ?hkp4p7p8p5x14 ?zkp4p7p8p5x14
            case ykp4p7p8p5x14 => (intro w hSw; (try dsimp only at hSw); go_simp; try (with_reducible rfl))
            case hkp4p7p8p5x14 => (go_simp; exact rfl)
            case zkp4p7p8p5x14 =>
            refine wpAnyH_ready (rs := [13]) (by kernel_rfl) (by simp) ?_
            refine AllReadyH.cons rfl (fun K hK => ?_) AllReadyH.nil
            go_simp
            refine (gsize (HTC.out.below HWq4q7.out) L9 (log_below HLC.out HWq4q7.out)).mono ?_
            rintro e wyq4q7q8q5q13 ⟨rfl, hN⟩
            have HWq4q7q8q5q13 : Hid (Below wc.heap.size wc wyq4q7q8q5q13) := hide (HWq4q7.out.trans (hN.mono HWq4q7.out.size))
            clear hN
            try go_wp2_with fail
            refine hK.out _ _ (HWq4q7q8q5q13) (fun hHeld2 => ?_)
            clear hK K hHeld
            have hHeld := hHeld2
            clear hHeld2
            refine wpAnyH_ready (rs := [15]) (by kernel_rfl) (by simp) ?_
            refine AllReadyH.cons rfl (fun K hK => ?_) AllReadyH.nil
            go_simp
            refine (gbytes_r (HTC.out.below HWq4q7q8q5q13.out)).mono ?_
            rintro e wyq4q7q8q5q13q15 ⟨vp15, vc15, rfl, hN, -⟩
            rw [← HSC.out.1]
            have HWq4q7q8q5q13q15 : Hid (Below wc.heap.size wc wyq4q7q8q5q13q15) := hide (HWq4q7q8q5q13.out.trans (hN.mono HWq4q7q8q5q13.out.size))
            clear hN
            try go_wp2_with fail
            refine hK.out _ _ (HWq4q7q8q5q13q15) (fun hHeld2 => ?_)
            clear hK K hHeld
            have hHeld := hHeld2
            clear hHeld2
            refine wpAnyH_at (i := 16) (v := ?vkp4p7p8p5p13p15x16) (a1 := ?xkp4p7p8p5p13p15x16) rfl (by kernel_rfl) (by kernel_rfl) (by kernel_rfl) (fun _ _ _ h => h) (Or.inl ⟨by rfl, ?ykp4p7p8p5p13p15x16⟩) (by assumption) ?hkp4p7p8p5p13p15x16 ?zkp4p7p8p5p13p15x16
            case ykp4p7p8p5p13p15x16 => (intro w hSw; (try dsimp only at hSw); go_simp; try (with_reducible rfl))
            case hkp4p7p8p5p13p15x16 => (go_simp; exact rfl)
            case zkp4p7p8p5p13p15x16 =>
            refine wpAnyH_at (i := 17) (v := ?vkp4p7p8p5p13p15x17) (a1 := ?xkp4p7p8p5p13p15x17) rfl (by kernel_rfl) (by kernel_rfl) (by kernel_rfl) (fun _ _ _ h => h) (Or.inl ⟨by rfl, ?ykp4p7p8p5p13p15x17⟩) (by assumption) ?hkp4p7p8p5p13p15x17 ?zkp4p7p8p5p13p15x17
            case ykp4p7p8p5p13p15x17 => (intro w hSw; (try dsimp only at hSw); go_simp; try (with_reducible rfl))
            case hkp4p7p8p5p13p15x17 => (go_simp; exact rfl)
            case zkp4p7p8p5p13p15x17 =>
            refine wpAnyH_at (i := 18) (v := ?vkp4p7p8p5p13p15x18) (a1 := ?xkp4p7p8p5p13p15x18) rfl (by kernel_rfl) (by kernel_rfl) (by kernel_rfl) (fun _ _ _ h => h) (Or.inl ⟨by rfl, ?ykp4p7p8p5p13p15x18⟩) (by assumption) ?hkp4p7p8p5p13p15x18 ?zkp4p7p8p5p13p15x18
            case ykp4p7p8p5p13p15x18 => (intro w hSw; (try dsimp only at hSw); go_simp; try (with_reducible rfl))
            case hkp4p7p8p5p13p15x18 => (go_simp; exact rfl)
            case zkp4p7p8p5p13p15x18 =>
            refine wpAnyH_done (by kernel_rfl) ?_ _
            go_wp2_with fail
            go_roundg (N - (i + 1))
            case measure => omega
            case rel => exact ⟨i + 1, L9, s9, r9, by omega, by omega, by first | rfl | simp, rfl, hide (HTC.out.below HWq4q7q8q5q13q15.out), HSC, hide (log_below HLC.out HWq4q7q8q5q13q15.out), hide (HBC.out.trans (HWq4q7q8q5q13q15.out.mono HBC.out.size))⟩
    · have hd : decide ((i : Int) < (N : Int)) = false := decide_eq_false (by omega)
      go_wp2_with fail
      go_ret
      exact ⟨rfl, HB.out⟩
end Go.Proofs.Ytipebinjdicnfaa
