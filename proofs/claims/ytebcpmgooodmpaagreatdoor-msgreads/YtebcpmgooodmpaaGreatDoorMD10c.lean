/-
  The document's Decode of four fields and more, walked.
-/
import Derived.Test.YtebcpmgooodmpaaGreatDoorMDW
namespace Go.Proofs.YtebcpmgooodmpaaGreatDoor
open Go.RowKit
open Utf1
open Pol8 hiding text right Right
open Msg15

set_option maxRecDepth 100000 in
set_option maxHeartbeats 64000000 in
theorem mdecode_good (s : ByteArray) (hs : s.size ≤ 8000) (w : World) (hg : Glob w) (l : List L) (left : L) (hfl : Fl (bl s) l left) (hleft : left = []) (h4 : 4 ≤ l.length)  :
    Calls Tryz.prog 16 #[.string s] w fun e w' => DecQ w' (bl s) e ∧ Below w.heap.size w w' := by
  have HG := hide hg
  have HFL := hide hfl
  have hll : left.length ≤ 8000 := by
    have h := congrArg List.length hfl.eq
    rw [List.length_append, bl_len] at h
    omega
  obtain ⟨w1, hw1⟩ : ∃ w1, w1 = w.alloc (.cells zmsg 27) := ⟨_, rfl⟩
  have hb1 : Below w.heap.size w w1 := by rw [hw1]; exact bel_alloc (Below.refl _ _) _
  have HB1 := hide hb1
  have K1 : Hid (w1.heap[w.heap.size]? = some (.cells zmsg 27 (0, 0))) := hide (by rw [hw1]; exact new_block _ _ _)
  have C1 := hide (mfields_any s (by omega) w1)
  clear hg hb1
  go_enter Tryz.func16, Tryz.ntmps16
  go_upto_region 1 with fail
  rw [← hw1]
  clear hw1
  go_wp2_with fail
  refine C1.out.mono ?_
  rintro e w2 ⟨⟨v, ps, lf, rfl, ⟨hv, hcp⟩, hf⟩, hb2⟩
  have HCP := hide hcp
  clear hcp
  obtain ⟨hl, hlf⟩ := hfl.one hf
  have K2 : Hid (w2.heap[w.heap.size]? = some (.cells zmsg 27 (0, 0))) := hide ((hb2.block _ (Array.getElem?_eq_some_iff.1 K1.out).1).trans K1.out)
  have HB2 : Hid (Below w.heap.size w w2) := hide (HB1.out.trans (hb2.mono HB1.out.size))
  have HV := hide hv
  obtain ⟨p, cap, rfl, -, -⟩ := hv
  have hlfs : lf.size ≤ 8000 := by rw [← bl_len, ← hlf]; exact hll
  have C2 := hide (mbegins_any lf (by omega) w2)
  rw [← hlf] at C2
  have HL := hide hl
  have HLF := hide hlf
  clear hfl hf hb2 hl hlf C1 HB1 K1 hll
  go_wp2_with fail
  refine C2.out.mono ?_
  rintro e w2' ⟨rfl, hw2⟩
  have hw2' := hw2.symm
  clear hw2
  subst hw2'
  clear C2
  have hlf0 : lf = ⟨#[]⟩ := ba_ext (by rw [← HLF.out, hleft])
  subst hlf0
  have hbeg : begB left = false := by rw [hleft]; decide
  rw [hbeg]
  have hps : ps.length = l.length := by rw [HL.out, List.length_map]
  have h4' : 4 ≤ ps.length := by omega
  have hps8 : ps.length ≤ 8000 := by
    have h1 := flds_len l
    have h2 := congrArg List.length HFL.out.eq
    rw [List.length_append, bl_len] at h2
    omega
  have hx8 : ∀ x ∈ ps, x.size ≤ 8000 := fun x hx => by
    have h2 := congrArg List.length HFL.out.eq
    rw [List.length_append, bl_len] at h2
    have h3 : bl x ∈ l := by rw [HL.out]; exact List.mem_map_of_mem hx
    have h4 : ∀ (l : List L) (t : L), t ∈ l → t.length ≤ (flds l).length := by
      intro l
      induction l with
      | nil => intro t ht; cases ht
      | cons u l ih =>
        intro t ht
        show t.length ≤ (fld u ++ flds l).length
        rw [List.length_append]
        rcases List.mem_cons.1 ht with rfl | ht
        · have := fld_len t
          omega
        · have := ih t ht
          omega
    have h5 := h4 l _ h3
    rw [bl_len] at h5
    omega
  obtain ⟨x0, x1, x2, x3, rs, rfl⟩ : ∃ x0 x1 x2 x3 rs, ps = x0 :: x1 :: x2 :: x3 :: rs := by
    rcases ps with _ | ⟨x0, _ | ⟨x1, _ | ⟨x2, _ | ⟨x3, rs⟩⟩⟩⟩
    · simp at h4'
    · simp at h4'
    · simp at h4'
    · simp at h4'
    · exact ⟨x0, x1, x2, x3, rs, rfl⟩
  have HX8 := hide hx8
  obtain ⟨N, hN⟩ : ∃ N, N = (x0 :: x1 :: x2 :: x3 :: rs).length := ⟨_, rfl⟩
  rw [← hN] at HV hps h4' hps8 ⊢
  have HNN : Hid (N = rs.length + 4) := hide (by rw [hN]; rfl)
  obtain ⟨b, off, rfl, hcell⟩ : ∃ b off, p = some ⟨b, off, none⟩ ∧ ∀ (i : Nat) (x : ByteArray), (x0 :: x1 :: x2 :: x3 :: rs)[i]? = some x → w2.cell? ⟨b, off + i, none⟩ = some (.string x) := by
    obtain ⟨p', cap', e, -, hc⟩ := HV.out
    injection e with e1 e2 e3
    obtain ⟨b, off, e4, h⟩ := hc 0 x0 rfl
    refine ⟨b, off, e1.trans e4, fun i x hx => ?_⟩
    obtain ⟨b', off', e5, h'⟩ := hc i x hx
    rw [e4] at e5
    injection e5 with e5
    injection e5 with e6 e7
    subst e6 e7
    exact h'
  have HC := hide hcell
  have SX : Hid (∀ wx, Below w2.heap.size w2 wx → wx.cell? ⟨b, off, none⟩ = some (.string x0) ∧ wx.cell? ⟨b, off + 1, none⟩ = some (.string x1) ∧ wx.cell? ⟨b, off + 2, none⟩ = some (.string x2) ∧ wx.cell? ⟨b, off + 3, none⟩ = some (.string x3)) := hide (fun wx hx => ⟨mcell_keep (HC.out 0 x0 rfl) hx, mcell_keep (HC.out 1 x1 rfl) hx, mcell_keep (HC.out 2 x2 rfl) hx, mcell_keep (HC.out 3 x3 rfl) hx⟩)
  have i0 : (0 : Int) < (N : Int) := by omega
  have i1 : (1 : Int) < (N : Int) := by omega
  have i2 : (2 : Int) < (N : Int) := by omega
  have i3 : (3 : Int) < (N : Int) := by omega
  have j0 : 0 < N := by omega
  have j1 : 1 < N := by omega
  have j2 : 2 < N := by omega
  have j3 : 3 < N := by omega
  have d4 : decide ((N : Int) < 4) = false := decide_eq_false (by omega)
  have d4' : decide (N < 4) = false := decide_eq_false (by omega)
  obtain ⟨k, hk⟩ : ∃ k, k = numM (bl x0) := ⟨_, rfl⟩
  obtain ⟨f, hf⟩ : ∃ k, k = numM (bl x1) := ⟨_, rfl⟩
  obtain ⟨t, ht⟩ : ∃ k, k = numM (bl x2) := ⟨_, rfl⟩
  obtain ⟨ep, hep⟩ : ∃ k, k = numM (bl x3) := ⟨_, rfl⟩
  have CN0 := hide (mnumber_any x0 (by have := hx8 x0 (by simp); omega))
  have CN1 := hide (mnumber_any x1 (by have := hx8 x1 (by simp); omega))
  have CN2 := hide (mnumber_any x2 (by have := hx8 x2 (by simp); omega))
  have CN3 := hide (mnumber_any x3 (by have := hx8 x3 (by simp); omega))
  rw [← hk] at CN0
  rw [← hf] at CN1
  rw [← ht] at CN2
  rw [← hep] at CN3
  have HKS := hide (And.intro hk (And.intro hf (And.intro ht hep)))
  have HFL0 : Hid (Fl (bl s) l []) := hide (by rw [← hleft]; exact HFL.out)
  have hcap : N ≤ cap := by obtain ⟨p', n', c', e, hc⟩ := HCP.out; injection e with e1 e2 e3; omega
  clear hk hf ht hep hN hcell hps hx8 h4' hbeg hleft
  go_upto_region 6 with fail
  go_cut [6] from 29 (fun v6 wx => v6 = .pointer (some ⟨w2.heap.size, 0, none⟩) ∧ wx.heap[w2.heap.size]? = some (.cells #[.int .i64 k, .int .i64 f, .int .i64 t, .int .i64 ep, .slice none 0 0, .slice none 0 0, .int .i64 0, .slice none 0 0, .slice none 0 0, .slice none 0 0, .slice none 0 0, .slice none 0 0, .int .i64 0, .int .i64 0, .int .i64 0] 27 (0, 0)) ∧ Below w2.heap.size w2 wx)
  case first =>
    refine wp_region_until (m := 18) (S := (fun wx => wx.cell? ⟨b, off, none⟩ = some (.string x0) ∧ wx.cell? ⟨b, off + 1, none⟩ = some (.string x1) ∧ wx.cell? ⟨b, off + 2, none⟩ = some (.string x2) ∧ wx.cell? ⟨b, off + 3, none⟩ = some (.string x3))) (by kernel_rfl) (SX.out _ ((Below.refl _ _).drew)) (fun hHeld => ?_)
    refine wpU_at (i := 0) (v := ?vr0) (a1 := ?xr0) rfl (by kernel_rfl) (by kernel_rfl) (by kernel_rfl) (by kernel_rfl) (fun _ _ _ h => h) (Or.inl ⟨by rfl, ?yr0⟩) (by assumption) ?hr0 ?zr0
    case yr0 => (intro w hSw; (try dsimp only at hSw); go_simp; try (with_reducible rfl))
    case hr0 => (go_simp; exact rfl)
    case zr0 =>
    refine wpU_at (i := 1) (v := ?vr1) (a1 := ?xr1) rfl (by kernel_rfl) (by kernel_rfl) (by kernel_rfl) (by kernel_rfl) (fun _ _ _ h => h) (Or.inl ⟨by rfl, ?yr1⟩) (by assumption) ?hr1 ?zr1
    case yr1 => (intro w hSw; (try dsimp only at hSw); go_simp; try (with_reducible rfl))
    case hr1 => (go_simp; exact rfl)
    case zr1 =>
    refine wpU_at (i := 2) (v := ?vr2) (a1 := ?xr2) rfl (by kernel_rfl) (by kernel_rfl) (by kernel_rfl) (by kernel_rfl) (fun _ _ _ h => h) (Or.inl ⟨by rfl, ?yr2⟩) (by assumption) ?hr2 ?zr2
    case yr2 => (intro w hSw; (try dsimp only at hSw); go_simp; try (with_reducible rfl))
    case hr2 => (go_simp; exact rfl)
    case zr2 =>
    refine wpU_at (i := 4) (v := ?vr4) (a1 := ?xr4) rfl (by kernel_rfl) (by kernel_rfl) (by kernel_rfl) (by kernel_rfl) (fun _ _ _ h => h) (Or.inl ⟨by rfl, ?yr4⟩) (by assumption) ?hr4 ?zr4
    case yr4 => (intro w hSw; (try dsimp only at hSw); go_simp; try (with_reducible rfl))
    case hr4 => (go_simp; exact rfl)
    case zr4 =>
    refine wpU_at (i := 5) (v := ?vr5) (a1 := ?xr5) rfl (by kernel_rfl) (by kernel_rfl) (by kernel_rfl) (by kernel_rfl) (fun _ _ _ h => h) (Or.inl ⟨by rfl, ?yr5⟩) (by assumption) ?hr5 ?zr5
    case yr5 => (intro w hSw; (try dsimp only at hSw); go_simp; try (with_reducible rfl))
    case hr5 => (go_simp; exact rfl)
    case zr5 =>
    refine wpU_at (i := 6) (v := ?vr6) (a1 := ?xr6) rfl (by kernel_rfl) (by kernel_rfl) (by kernel_rfl) (by kernel_rfl) (fun _ _ _ h => h) (Or.inl ⟨by rfl, ?yr6⟩) (by assumption) ?hr6 ?zr6
    case yr6 => (intro w hSw; (try dsimp only at hSw); go_simp; try (with_reducible rfl))
    case hr6 => (go_simp; exact rfl)
    case zr6 =>
    refine wpU_at (i := 8) (v := ?vr8) (a1 := ?xr8) rfl (by kernel_rfl) (by kernel_rfl) (by kernel_rfl) (by kernel_rfl) (fun _ _ _ h => h) (Or.inl ⟨by rfl, ?yr8⟩) (by assumption) ?hr8 ?zr8
    case yr8 => (intro w hSw; (try dsimp only at hSw); go_simp; try (with_reducible rfl))
    case hr8 => (go_simp; exact rfl)
    case zr8 =>
    refine wpU_at (i := 9) (v := ?vr9) (a1 := ?xr9) rfl (by kernel_rfl) (by kernel_rfl) (by kernel_rfl) (by kernel_rfl) (fun _ _ _ h => h) (Or.inl ⟨by rfl, ?yr9⟩) (by assumption) ?hr9 ?zr9
    case yr9 => (intro w hSw; (try dsimp only at hSw); go_simp; try (with_reducible rfl))
    case hr9 => (go_simp; exact rfl)
    case zr9 =>
    refine wpU_at (i := 10) (v := ?vr10) (a1 := ?xr10) rfl (by kernel_rfl) (by kernel_rfl) (by kernel_rfl) (by kernel_rfl) (fun _ _ _ h => h) (Or.inl ⟨by rfl, ?yr10⟩) (by assumption) ?hr10 ?zr10
    case yr10 => (intro w hSw; (try dsimp only at hSw); go_simp; try (with_reducible rfl))
    case hr10 => (go_simp; exact rfl)
    case zr10 =>
    refine wpU_at (i := 12) (v := ?vr12) (a1 := ?xr12) rfl (by kernel_rfl) (by kernel_rfl) (by kernel_rfl) (by kernel_rfl) (fun _ _ _ h => h) (Or.inl ⟨by rfl, ?yr12⟩) (by assumption) ?hr12 ?zr12
    case yr12 => (intro w hSw; (try dsimp only at hSw); go_simp; try (with_reducible rfl))
    case hr12 => (go_simp; exact rfl)
    case zr12 =>
    refine wpU_at (i := 13) (v := ?vr13) (a1 := ?xr13) rfl (by kernel_rfl) (by kernel_rfl) (by kernel_rfl) (by kernel_rfl) (fun _ _ _ h => h) (Or.inl ⟨by rfl, ?yr13⟩) (by assumption) ?hr13 ?zr13
    case yr13 => (intro w hSw; (try dsimp only at hSw); go_simp; try (with_reducible rfl))
    case hr13 => (go_simp; exact rfl)
    case zr13 =>
    refine wpU_at (i := 14) (v := ?vr14) (a1 := ?xr14) rfl (by kernel_rfl) (by kernel_rfl) (by kernel_rfl) (by kernel_rfl) (fun _ _ _ h => h) (Or.inl ⟨by rfl, ?yr14⟩) (by assumption) ?hr14 ?zr14
    case yr14 => (intro w hSw; (try dsimp only at hSw); go_simp; try (with_reducible rfl))
    case hr14 => (go_simp; exact rfl)
    case zr14 =>
    refine wpU_ready (rs := [3, 17]) (by kernel_rfl) (by simp) ?_
    refine AllU.cons (by decide) rfl (fun K hK => ?_) (AllU.cons (by decide) rfl (fun K hK => ?_) AllU.nil)
    · go_simp
      refine (CN0.out _).mono ?_
      rintro e wq ⟨rfl, rfl⟩
      try go_wp2_with fail
      refine hK.out _ _ (SX.out _ (by first | exact (Below.refl _ _).drew | exact bel_alloc ((Below.refl _ _).drew) _)) (fun hHeld2 => ?_)
      clear hK K hHeld
      have hHeld := hHeld2
      clear hHeld2
      refine wpU_ready (rs := [7, 17]) (by kernel_rfl) (by simp) ?_
      refine AllU.cons (by decide) rfl (fun K hK => ?_) (AllU.cons (by decide) rfl (fun K hK => ?_) AllU.nil)
      · go_simp
        refine (CN1.out _).mono ?_
        rintro e wq ⟨rfl, rfl⟩
        try go_wp2_with fail
        refine hK.out _ _ (SX.out _ (by first | exact (Below.refl _ _).drew | exact bel_alloc ((Below.refl _ _).drew) _)) (fun hHeld2 => ?_)
        clear hK K hHeld
        have hHeld := hHeld2
        clear hHeld2
        refine wpU_ready (rs := [11, 17]) (by kernel_rfl) (by simp) ?_
        refine AllU.cons (by decide) rfl (fun K hK => ?_) (AllU.cons (by decide) rfl (fun K hK => ?_) AllU.nil)
        · go_simp
          refine (CN2.out _).mono ?_
          rintro e wq ⟨rfl, rfl⟩
          try go_wp2_with fail
          refine hK.out _ _ (SX.out _ (by first | exact (Below.refl _ _).drew | exact bel_alloc ((Below.refl _ _).drew) _)) (fun hHeld2 => ?_)
          clear hK K hHeld
          have hHeld := hHeld2
          clear hHeld2
          refine wpU_ready (rs := [15, 17]) (by kernel_rfl) (by simp) ?_
          refine AllU.cons (by decide) rfl (fun K hK => ?_) (AllU.cons (by decide) rfl (fun K hK => ?_) AllU.nil)
          · go_simp
            refine (CN3.out _).mono ?_
            rintro e wq ⟨rfl, rfl⟩
            try go_wp2_with fail
            refine hK.out _ _ (SX.out _ (by first | exact (Below.refl _ _).drew | exact bel_alloc ((Below.refl _ _).drew) _)) (fun hHeld2 => ?_)
            clear hK K hHeld
            have hHeld := hHeld2
            clear hHeld2
            refine wpU_at (i := 16) (v := ?vt012316) (a1 := ?xt012316) rfl (by kernel_rfl) (by kernel_rfl) (by kernel_rfl) (by kernel_rfl) (fun _ _ _ h => h) (Or.inl ⟨by rfl, ?yt012316⟩) (by assumption) ?ht012316 ?zt012316
            case yt012316 => (intro w hSw; (try dsimp only at hSw); go_simp; try (with_reducible rfl))
            case ht012316 => (go_simp; exact rfl)
            case zt012316 =>
            refine wpU_ready (rs := [17]) (by kernel_rfl) (by simp) ?_
            refine AllU.cons (by decide) rfl (fun K hK => ?_) AllU.nil
            go_simp
            try go_wp2_with fail
            refine hK.out _ _ (SX.out _ (by first | exact (Below.refl _ _).drew | exact bel_alloc ((Below.refl _ _).drew) _)) (fun hHeld2 => ?_)
            clear hK K hHeld
            have hHeld := hHeld2
            clear hHeld2
            refine wpU_ready (rs := [18]) (by kernel_rfl) (by simp) ?_
            refine AllU.last rfl (fun K hK => ?_)
            refine mstep_wanted rfl ?_
            refine wp_store_row 27 _ _ rfl w2.heap.size #[.int .i64 k, .int .i64 f, .int .i64 t, .int .i64 ep, .slice none 0 0, .slice none 0 0, .int .i64 0, .slice none 0 0, .slice none 0 0, .slice none 0 0, .slice none 0 0, .slice none 0 0, .int .i64 0, .int .i64 0, .int .i64 0] rfl rfl 27 zmsg (new_block w2.drew zmsg _) (by kernel_rfl) rfl (by simp [Value.oneCell']) ?_
            refine hK.out _ _ ?_
            clear hK K
            refine wpAny_done (by kernel_rfl) ?_ _
            go_wp2_with fail
            go_meet
            exact ⟨rfl, setRow_heap _ _ _ _ _ _ (new_block w2.drew zmsg _), below_row (bel_alloc ((Below.refl _ _).drew) _) (Nat.le_refl _) _⟩
          · go_simp
            try go_wp2_with fail
            refine hK.out _ _ (SX.out _ (by first | exact (Below.refl _ _).drew | exact bel_alloc ((Below.refl _ _).drew) _)) (fun hHeld2 => ?_)
            clear hK K hHeld
            have hHeld := hHeld2
            clear hHeld2
            refine wpU_ready (rs := [15]) (by kernel_rfl) (by simp) ?_
            refine AllU.cons (by decide) rfl (fun K hK => ?_) AllU.nil
            go_simp
            refine (CN3.out _).mono ?_
            rintro e wq ⟨rfl, rfl⟩
            try go_wp2_with fail
            refine hK.out _ _ (SX.out _ (by first | exact (Below.refl _ _).drew | exact bel_alloc ((Below.refl _ _).drew) _)) (fun hHeld2 => ?_)
            clear hK K hHeld
            have hHeld := hHeld2
            clear hHeld2
            refine wpU_at (i := 16) (v := ?vt012a316) (a1 := ?xt012a316) rfl (by kernel_rfl) (by kernel_rfl) (by kernel_rfl) (by kernel_rfl) (fun _ _ _ h => h) (Or.inl ⟨by rfl, ?yt012a316⟩) (by assumption) ?ht012a316 ?zt012a316
            case yt012a316 => (intro w hSw; (try dsimp only at hSw); go_simp; try (with_reducible rfl))
            case ht012a316 => (go_simp; exact rfl)
            case zt012a316 =>
            refine wpU_ready (rs := [18]) (by kernel_rfl) (by simp) ?_
            refine AllU.last rfl (fun K hK => ?_)
            refine mstep_wanted rfl ?_
            refine wp_store_row 27 _ _ rfl w2.heap.size #[.int .i64 k, .int .i64 f, .int .i64 t, .int .i64 ep, .slice none 0 0, .slice none 0 0, .int .i64 0, .slice none 0 0, .slice none 0 0, .slice none 0 0, .slice none 0 0, .slice none 0 0, .int .i64 0, .int .i64 0, .int .i64 0] rfl rfl 27 zmsg (new_block w2.drew zmsg _) (by kernel_rfl) rfl (by simp [Value.oneCell']) ?_
            refine hK.out _ _ ?_
            clear hK K
            refine wpAny_done (by kernel_rfl) ?_ _
            go_wp2_with fail
            go_meet
            exact ⟨rfl, setRow_heap _ _ _ _ _ _ (new_block w2.drew zmsg _), below_row (bel_alloc ((Below.refl _ _).drew) _) (Nat.le_refl _) _⟩
        · go_simp
          try go_wp2_with fail
          refine hK.out _ _ (SX.out _ (by first | exact (Below.refl _ _).drew | exact bel_alloc ((Below.refl _ _).drew) _)) (fun hHeld2 => ?_)
          clear hK K hHeld
          have hHeld := hHeld2
          clear hHeld2
          refine wpU_ready (rs := [11]) (by kernel_rfl) (by simp) ?_
          refine AllU.cons (by decide) rfl (fun K hK => ?_) AllU.nil
          go_simp
          refine (CN2.out _).mono ?_
          rintro e wq ⟨rfl, rfl⟩
          try go_wp2_with fail
          refine hK.out _ _ (SX.out _ (by first | exact (Below.refl _ _).drew | exact bel_alloc ((Below.refl _ _).drew) _)) (fun hHeld2 => ?_)
          clear hK K hHeld
          have hHeld := hHeld2
          clear hHeld2
          refine wpU_ready (rs := [15]) (by kernel_rfl) (by simp) ?_
          refine AllU.cons (by decide) rfl (fun K hK => ?_) AllU.nil
          go_simp
          refine (CN3.out _).mono ?_
          rintro e wq ⟨rfl, rfl⟩
          try go_wp2_with fail
          refine hK.out _ _ (SX.out _ (by first | exact (Below.refl _ _).drew | exact bel_alloc ((Below.refl _ _).drew) _)) (fun hHeld2 => ?_)
          clear hK K hHeld
          have hHeld := hHeld2
          clear hHeld2
          refine wpU_at (i := 16) (v := ?vt01a2316) (a1 := ?xt01a2316) rfl (by kernel_rfl) (by kernel_rfl) (by kernel_rfl) (by kernel_rfl) (fun _ _ _ h => h) (Or.inl ⟨by rfl, ?yt01a2316⟩) (by assumption) ?ht01a2316 ?zt01a2316
          case yt01a2316 => (intro w hSw; (try dsimp only at hSw); go_simp; try (with_reducible rfl))
          case ht01a2316 => (go_simp; exact rfl)
          case zt01a2316 =>
          refine wpU_ready (rs := [18]) (by kernel_rfl) (by simp) ?_
          refine AllU.last rfl (fun K hK => ?_)
          refine mstep_wanted rfl ?_
          refine wp_store_row 27 _ _ rfl w2.heap.size #[.int .i64 k, .int .i64 f, .int .i64 t, .int .i64 ep, .slice none 0 0, .slice none 0 0, .int .i64 0, .slice none 0 0, .slice none 0 0, .slice none 0 0, .slice none 0 0, .slice none 0 0, .int .i64 0, .int .i64 0, .int .i64 0] rfl rfl 27 zmsg (new_block w2.drew zmsg _) (by kernel_rfl) rfl (by simp [Value.oneCell']) ?_
          refine hK.out _ _ ?_
          clear hK K
          refine wpAny_done (by kernel_rfl) ?_ _
          go_wp2_with fail
          go_meet
          exact ⟨rfl, setRow_heap _ _ _ _ _ _ (new_block w2.drew zmsg _), below_row (bel_alloc ((Below.refl _ _).drew) _) (Nat.le_refl _) _⟩
      · go_simp
        try go_wp2_with fail
        refine hK.out _ _ (SX.out _ (by first | exact (Below.refl _ _).drew | exact bel_alloc ((Below.refl _ _).drew) _)) (fun hHeld2 => ?_)
        clear hK K hHeld
        have hHeld := hHeld2
        clear hHeld2
        refine wpU_ready (rs := [7]) (by kernel_rfl) (by simp) ?_
        refine AllU.cons (by decide) rfl (fun K hK => ?_) AllU.nil
        go_simp
        refine (CN1.out _).mono ?_
        rintro e wq ⟨rfl, rfl⟩
        try go_wp2_with fail
        refine hK.out _ _ (SX.out _ (by first | exact (Below.refl _ _).drew | exact bel_alloc ((Below.refl _ _).drew) _)) (fun hHeld2 => ?_)
        clear hK K hHeld
        have hHeld := hHeld2
        clear hHeld2
        refine wpU_ready (rs := [11]) (by kernel_rfl) (by simp) ?_
        refine AllU.cons (by decide) rfl (fun K hK => ?_) AllU.nil
        go_simp
        refine (CN2.out _).mono ?_
        rintro e wq ⟨rfl, rfl⟩
        try go_wp2_with fail
        refine hK.out _ _ (SX.out _ (by first | exact (Below.refl _ _).drew | exact bel_alloc ((Below.refl _ _).drew) _)) (fun hHeld2 => ?_)
        clear hK K hHeld
        have hHeld := hHeld2
        clear hHeld2
        refine wpU_ready (rs := [15]) (by kernel_rfl) (by simp) ?_
        refine AllU.cons (by decide) rfl (fun K hK => ?_) AllU.nil
        go_simp
        refine (CN3.out _).mono ?_
        rintro e wq ⟨rfl, rfl⟩
        try go_wp2_with fail
        refine hK.out _ _ (SX.out _ (by first | exact (Below.refl _ _).drew | exact bel_alloc ((Below.refl _ _).drew) _)) (fun hHeld2 => ?_)
        clear hK K hHeld
        have hHeld := hHeld2
        clear hHeld2
        refine wpU_at (i := 16) (v := ?vt0a12316) (a1 := ?xt0a12316) rfl (by kernel_rfl) (by kernel_rfl) (by kernel_rfl) (by kernel_rfl) (fun _ _ _ h => h) (Or.inl ⟨by rfl, ?yt0a12316⟩) (by assumption) ?ht0a12316 ?zt0a12316
        case yt0a12316 => (intro w hSw; (try dsimp only at hSw); go_simp; try (with_reducible rfl))
        case ht0a12316 => (go_simp; exact rfl)
        case zt0a12316 =>
        refine wpU_ready (rs := [18]) (by kernel_rfl) (by simp) ?_
        refine AllU.last rfl (fun K hK => ?_)
        refine mstep_wanted rfl ?_
        refine wp_store_row 27 _ _ rfl w2.heap.size #[.int .i64 k, .int .i64 f, .int .i64 t, .int .i64 ep, .slice none 0 0, .slice none 0 0, .int .i64 0, .slice none 0 0, .slice none 0 0, .slice none 0 0, .slice none 0 0, .slice none 0 0, .int .i64 0, .int .i64 0, .int .i64 0] rfl rfl 27 zmsg (new_block w2.drew zmsg _) (by kernel_rfl) rfl (by simp [Value.oneCell']) ?_
        refine hK.out _ _ ?_
        clear hK K
        refine wpAny_done (by kernel_rfl) ?_ _
        go_wp2_with fail
        go_meet
        exact ⟨rfl, setRow_heap _ _ _ _ _ _ (new_block w2.drew zmsg _), below_row (bel_alloc ((Below.refl _ _).drew) _) (Nat.le_refl _) _⟩
    · go_simp
      try go_wp2_with fail
      refine hK.out _ _ (SX.out _ (by first | exact (Below.refl _ _).drew | exact bel_alloc ((Below.refl _ _).drew) _)) (fun hHeld2 => ?_)
      clear hK K hHeld
      have hHeld := hHeld2
      clear hHeld2
      refine wpU_ready (rs := [3]) (by kernel_rfl) (by simp) ?_
      refine AllU.cons (by decide) rfl (fun K hK => ?_) AllU.nil
      go_simp
      refine (CN0.out _).mono ?_
      rintro e wq ⟨rfl, rfl⟩
      try go_wp2_with fail
      refine hK.out _ _ (SX.out _ (by first | exact (Below.refl _ _).drew | exact bel_alloc ((Below.refl _ _).drew) _)) (fun hHeld2 => ?_)
      clear hK K hHeld
      have hHeld := hHeld2
      clear hHeld2
      refine wpU_ready (rs := [7]) (by kernel_rfl) (by simp) ?_
      refine AllU.cons (by decide) rfl (fun K hK => ?_) AllU.nil
      go_simp
      refine (CN1.out _).mono ?_
      rintro e wq ⟨rfl, rfl⟩
      try go_wp2_with fail
      refine hK.out _ _ (SX.out _ (by first | exact (Below.refl _ _).drew | exact bel_alloc ((Below.refl _ _).drew) _)) (fun hHeld2 => ?_)
      clear hK K hHeld
      have hHeld := hHeld2
      clear hHeld2
      refine wpU_ready (rs := [11]) (by kernel_rfl) (by simp) ?_
      refine AllU.cons (by decide) rfl (fun K hK => ?_) AllU.nil
      go_simp
      refine (CN2.out _).mono ?_
      rintro e wq ⟨rfl, rfl⟩
      try go_wp2_with fail
      refine hK.out _ _ (SX.out _ (by first | exact (Below.refl _ _).drew | exact bel_alloc ((Below.refl _ _).drew) _)) (fun hHeld2 => ?_)
      clear hK K hHeld
      have hHeld := hHeld2
      clear hHeld2
      refine wpU_ready (rs := [15]) (by kernel_rfl) (by simp) ?_
      refine AllU.cons (by decide) rfl (fun K hK => ?_) AllU.nil
      go_simp
      refine (CN3.out _).mono ?_
      rintro e wq ⟨rfl, rfl⟩
      try go_wp2_with fail
      refine hK.out _ _ (SX.out _ (by first | exact (Below.refl _ _).drew | exact bel_alloc ((Below.refl _ _).drew) _)) (fun hHeld2 => ?_)
      clear hK K hHeld
      have hHeld := hHeld2
      clear hHeld2
      refine wpU_at (i := 16) (v := ?vta012316) (a1 := ?xta012316) rfl (by kernel_rfl) (by kernel_rfl) (by kernel_rfl) (by kernel_rfl) (fun _ _ _ h => h) (Or.inl ⟨by rfl, ?yta012316⟩) (by assumption) ?hta012316 ?zta012316
      case yta012316 => (intro w hSw; (try dsimp only at hSw); go_simp; try (with_reducible rfl))
      case hta012316 => (go_simp; exact rfl)
      case zta012316 =>
      refine wpU_ready (rs := [18]) (by kernel_rfl) (by simp) ?_
      refine AllU.last rfl (fun K hK => ?_)
      refine mstep_wanted rfl ?_
      refine wp_store_row 27 _ _ rfl w2.heap.size #[.int .i64 k, .int .i64 f, .int .i64 t, .int .i64 ep, .slice none 0 0, .slice none 0 0, .int .i64 0, .slice none 0 0, .slice none 0 0, .slice none 0 0, .slice none 0 0, .slice none 0 0, .int .i64 0, .int .i64 0, .int .i64 0] rfl rfl 27 zmsg (new_block w2.drew zmsg _) (by kernel_rfl) rfl (by simp [Value.oneCell']) ?_
      refine hK.out _ _ ?_
      clear hK K
      refine wpAny_done (by kernel_rfl) ?_ _
      go_wp2_with fail
      go_meet
      exact ⟨rfl, setRow_heap _ _ _ _ _ _ (new_block w2.drew zmsg _), below_row (bel_alloc ((Below.refl _ _).drew) _) (Nat.le_refl _) _⟩
  case rest =>
  obtain ⟨rfl, hm6, hb6⟩ := hcut
  have M6 := hide hm6
  have HB6 := hide hb6
  clear hm6 hb6 CN0 CN1 CN2 CN3 SX
  obtain ⟨w3, hw3⟩ : ∃ w3, w3 = wc := ⟨_, rfl⟩
  subst hw3
  have SR : Hid (∀ i x, rs[i]? = some x → w3.cell? ⟨b, off + 4 + i, none⟩ = some (.string x)) := hide (fun i x hx => by
    have := mcell_keep (HC.out (i + 4) x hx) HB6.out
    rw [show off + (i + 4) = off + 4 + i from by omega] at this
    exact this)
  have L4 : Hid (rs.length = N - 4) := hide (by have := HNN.out; omega)
  have h4N : 4 ≤ N := by have := HNN.out; omega
  go_upto_region 7 with fail
  go_cut [7] from 46 (fun v7 wx => (∃ q c, v7 = .slice q (N - 4) c ∧ (q = none → c = 0) ∧ (∀ i x, rs[i]? = some x → ∃ b off, q = some ⟨b, off, none⟩ ∧ w3.cell? ⟨b, off + i, none⟩ = some (.string x)) ∧ N - 4 ≤ c) ∧ wx = w3)
  case first =>
    by_cases hc4 : cap = 4
    · subst hc4
      have hN4 : N = 4 := by omega
      have hr0 : rs = [] := List.eq_nil_of_length_eq_zero (by rw [L4.out]; omega)
      go_wp2_with fail
      go_meet
      exact ⟨⟨some ⟨b, off, none⟩, 0, by rw [hN4], (fun h => by cases h), fun i x hx => (by rw [hr0] at hx; simp at hx), by omega⟩, rfl⟩
    · go_wp2_with fail
      go_meet
      exact ⟨⟨some ⟨b, off + 4, none⟩, cap - 4, rfl, (fun h => by cases h), fun i x hx => ⟨_, _, rfl, SR.out i x hx⟩, by omega⟩, rfl⟩
  case rest =>
  obtain ⟨⟨q7, c7, hu7, hz7, hs7, hc7⟩, hwc⟩ := hcut
  have hwc' := hwc.symm
  clear hwc
  subst hwc'
  subst hu7
  have S7 : Hid (StrArg w3 (.slice q7 (N - 4) c7) rs) := hide ⟨q7, c7, by rw [L4.out], hz7, hs7⟩
  clear hz7 hs7
  have DBI : Hid (DB w w2.heap.size #[.int .i64 k, .int .i64 f, .int .i64 t, .int .i64 ep, .slice none 0 0, .slice none 0 0, .int .i64 0, .slice none 0 0, .slice none 0 0, .slice none 0 0, .slice none 0 0, .slice none 0 0, .int .i64 0, .int .i64 0, .int .i64 0] w3) := hide ⟨(Array.getElem?_eq_some_iff.1 K2.out).1, (HB6.out.block _ (Array.getElem?_eq_some_iff.1 K2.out).1).trans K2.out, M6.out, HB2.out.trans (HB6.out.mono HB2.out.size)⟩
  by_cases hk1 : k = 1
  · have hk2 : ¬ k = 2 := by omega
    have hk3 : ¬ k = 3 := by omega
    have e1 : (k == 1) = true := beq_iff_eq.2 hk1
    have f1 : decide (k = 1) = true := decide_eq_true hk1
    have e2 : (k == 2) = false := beq_eq_false_iff_ne.2 hk2
    have f2 : decide (k = 2) = false := decide_eq_false hk2
    have e3 : (k == 3) = false := beq_eq_false_iff_ne.2 hk3
    have f3 : decide (k = 3) = false := decide_eq_false hk3
    have CAND : Hid (∀ m', MRight m' → textM m' = bl s → m' = ⟨k, f, t, ep, rs.tail.map bl, [], Pol.zero⟩) := hide (fun m' h e => by
      obtain ⟨c0, c1, c2, c3, c4⟩ := cand_head HFL0.out HL.out h e
      obtain ⟨g0, g1, g2, g3⟩ := HKS.out
      have hkm : m'.kind = 1 := by rw [c0, ← g0]; exact hk1
      have hb : body m' = dec m'.ids.length :: m'.ids := by unfold body; rw [if_pos hkm]
      have hi : m'.ids = rs.tail.map bl := by rw [List.map_tail, ← c4, hb]; rfl
      exact Ms.ext' (c0.trans g0.symm) (c1.trans g1.symm) (c2.trans g2.symm) (c3.trans g3.symm) hi (h.posts (by omega)) (h.pol (by omega)))
    have y0 := tag_cell M6.out 0 _ rfl
    obtain ⟨bb, hbb⟩ : ∃ bb : Bool, bb = decide (0 < N - 4) := ⟨_, rfl⟩
    have HBB := hide hbb
    clear hbb
    go_upto_region 11 with fail
    go_cut [77] from 65 (fun v77 wx => v77 = .bool bb ∧ wx = w3)
    case first =>
      go_wp2_with fail
      go_meet
      exact ⟨by rw [HBB.out], rfl⟩
    case rest =>
    obtain ⟨rfl, hwc⟩ := hcut
    have hwc' := hwc.symm
    clear hwc
    subst hwc'
    go_upto_if 77 with fail
    go_cut [7] from 78 (fun v7 wx => (∃ q c, v7 = .slice q (N - 4 - 1) c ∧ StrArg w3 (.slice q (N - 4 - 1) c) rs.tail) ∧ wx = w3)
    case first =>
      by_cases hr0 : rs = []
      · have hN0 : N - 4 = 0 := by rw [← L4.out, hr0]; rfl
        have hbf : bb = false := by rw [HBB.out]; exact decide_eq_false (by omega)
        clear HBB
        subst hbf
        have S8 : StrArg w3 (.slice q7 (N - 4 - 1) c7) rs.tail := by
          have := S7.out
          rw [hr0] at this ⊢
          rw [hN0] at this ⊢
          exact this
        have hv : Value.slice q7 (N - 4) c7 = .slice q7 (N - 4 - 1) c7 := by rw [hN0]
        clear hr0
        go_wp2_with fail
        go_meet
        exact ⟨⟨q7, c7, hv, S8⟩, rfl⟩
      · obtain ⟨b7, o7, hq7, T1, T2⟩ := str_tail S7.out hr0
        have hN1 : 1 ≤ N - 4 := by
          rw [← L4.out]
          have := List.length_pos_iff.2 hr0
          omega
        have hbf : bb = true := by rw [HBB.out]; exact decide_eq_true (by omega)
        clear HBB
        subst hbf
        subst hq7
        by_cases hc1 : c7 = 1
        · subst hc1
          have hT := T2 (by omega)
          clear T1 T2 hr0
          go_wp2_with fail
          go_meet
          exact ⟨⟨some ⟨b7, o7, none⟩, 0, by rw [show N - 4 - 1 = 0 by omega], hT _⟩, rfl⟩
        · clear T2 hr0
          go_wp2_with fail
          go_meet
          exact ⟨⟨_, _, rfl, T1 _⟩, rfl⟩
    case rest =>
    obtain ⟨⟨q8, c8, hu8, hs8⟩, hwc⟩ := hcut
    have hwc' := hwc.symm
    clear hwc
    subst hwc'
    subst hu8
    have S8 := hide hs8
    clear hs8 HBB
    obtain ⟨L1, hL1⟩ : ∃ L1, L1 = rs.tail := ⟨_, rfl⟩
    rw [← hL1] at CAND S8
    have hl8 : L1.length ≤ 8000 := by rw [hL1, List.length_tail, L4.out]; omega
    have HL8 := hide hl8
    clear hL1 hl8 S7 SR HC HV HCP HX8 HKS
    have HE9 := hide (own_empty w3 w3.heap.size (Nat.le_refl _))
    have S9 : Hid (StrArg (w3.alloc (.cells #[] 9)) (.slice q8 (N - 4 - 1) c8) L1) := hide (S8.out.below (bel_alloc (Below.refl _ _) _))
    have DB9 : Hid (DB w w2.heap.size #[.int .i64 k, .int .i64 f, .int .i64 t, .int .i64 ep, .slice none 0 0, .slice none 0 0, .int .i64 0, .slice none 0 0, .slice none 0 0, .slice none 0 0, .slice none 0 0, .slice none 0 0, .int .i64 0, .int .i64 0, .int .i64 0] (w3.alloc (.cells #[] 9))) := hide (DBI.out.keep (bel_alloc (Below.refl _ _) _))
    go_wp2_with (at_builtin; refine mappend_strs rfl _ _ rfl w3.heap.size _ 0 [] rfl HE9.out _ L1 rfl S9.out (by have := HL8.out; omega) (by simp) ?_)
    intro v10 w10 ho10 hg10
    have h10 : w10.ownsRow w3.heap.size 9 1 v10 L1.length (strV L1) := ho10
    obtain ⟨p10, c10, rfl, -⟩ := own_shape h10
    have DB10 : Hid (DB w w2.heap.size #[.int .i64 k, .int .i64 f, .int .i64 t, .int .i64 ep, .slice none 0 0, .slice none 0 0, .int .i64 0, .slice none 0 0, .slice none 0 0, .slice none 0 0, .slice none 0 0, .slice none 0 0, .int .i64 0, .int .i64 0, .int .i64 0] w10) := hide (DB9.out.grown HE9.out DBI.out.bel.size (by decide) hg10)
    have HO10 := hide h10
    clear h10 ho10 hg10 HE9 S9 DB9 S8 y0
    have z0 := tag_cell DB10.out.b2 0 _ rfl
    have z4 := tag_cell DB10.out.b2 4 _ rfl
    have g4 := etag_free DB10.out.b2 4
    have DB11 : Hid (DB w w2.heap.size #[.int .i64 k, .int .i64 f, .int .i64 t, .int .i64 ep, .slice p10 L1.length c10, .slice none 0 0, .int .i64 0, .slice none 0 0, .slice none 0 0, .slice none 0 0, .slice none 0 0, .slice none 0 0, .int .i64 0, .int .i64 0, .int .i64 0] (w10.setCell ⟨w2.heap.size, 4, none⟩ (.slice p10 L1.length c10))) := hide (DB10.out.set 4 _)
    have HO11 : Hid ((w10.setCell ⟨w2.heap.size, 4, none⟩ (.slice p10 L1.length c10)).ownsRow w3.heap.size 9 1 (.slice p10 L1.length c10) L1.length (strV L1)) := hide (eown_set HO10.out DB10.out.b2 (by decide) 4 _)
    obtain ⟨w11, hw11⟩ : ∃ w11, w11 = w10.setCell ⟨w2.heap.size, 4, none⟩ (.slice p10 L1.length c10) := ⟨_, rfl⟩
    rw [← hw11] at DB11 HO11
    go_upto_region 15 with fail
    rw [← hw11]
    clear hw11 z0 z4 g4 DB10 HO10
    have y0 := tag_cell DB11.out.b2 0 _ rfl
    go_wp2_with fail
    go_loopg [10] 0 (fun g v10 wr => v10 = .int .i64 0 ∧ wr = w11)
    case atStart => exact ⟨rfl, rfl⟩
    case round =>
      obtain ⟨hv10, hwr⟩ := hrel
      subst hv10
      have hwr' := hwr.symm
      clear hwr
      subst hwr'
      go_upto_region 19 with fail
      clear y0
      obtain ⟨wt, hwt⟩ : ∃ wt, wt = w11 := ⟨_, rfl⟩
      have DBT : Hid (DB w w2.heap.size #[.int .i64 k, .int .i64 f, .int .i64 t, .int .i64 ep, .slice p10 L1.length c10, .slice none 0 0, .int .i64 0, .slice none 0 0, .slice none 0 0, .slice none 0 0, .slice none 0 0, .slice none 0 0, .int .i64 0, .int .i64 0, .int .i64 0] wt) := hide (by rw [hwt]; exact DB11.out)
      have HMV3 : Hid (MV wt ⟨k, f, t, ep, L1.map bl, [], Pol.zero⟩ (.slice p10 L1.length c10) (.slice none 0 0) (.slice none 0 0) (.slice none 0 0) (.slice none 0 0) (.slice none 0 0) (.slice none 0 0) L1 [] [] [] [] [] []) := hide (by rw [hwt]; exact (by
          have hb := MV.bare (w := w11) k f t ep (HG.out.below DB11.out.bel)
          exact ⟨own_arg HO11.out, hb.hp, hb.hv, rfl, hb.ep, hb.hf, by have := HL8.out; omega, hb.lp⟩))
      rw [← hwt]
      clear hwt DB11 HO11 HL8 DBI M6 HB6 K2 HB2 hk1 hk2 hk3 f1 f2 f3 e1 e2 e3
      have N3 := hide DBT.out.b2
      have K3 := hide DBT.out.b0
      have HB3 := hide DBT.out.bel
      clear DBT
      have y0 := tag_cell N3.out 0 _ rfl
      have y1 := tag_cell N3.out 1 _ rfl
      have y2 := tag_cell N3.out 2 _ rfl
      have y3 := tag_cell N3.out 3 _ rfl
      have y4 := tag_cell N3.out 4 _ rfl
      have y5 := tag_cell N3.out 5 _ rfl
      have y6 := tag_cell N3.out 6 _ rfl
      have y7 := tag_cell N3.out 7 _ rfl
      have y8 := tag_cell N3.out 8 _ rfl
      have y9 := tag_cell N3.out 9 _ rfl
      have y10 := tag_cell N3.out 10 _ rfl
      have y11 := tag_cell N3.out 11 _ rfl
      have y12 := tag_cell N3.out 12 _ rfl
      have y13 := tag_cell N3.out 13 _ rfl
      have y14 := tag_cell N3.out 14 _ rfl
      have C3 := hide (mencode_any (⟨k, f, t, ep, L1.map bl, [], Pol.zero⟩) _ _ _ _ _ _ _ L1 [] [] [] [] [] [] wt HMV3.out)
      go_wp2_with fail
      refine C3.out.mono ?_
      rintro e w4 ⟨hq, hb4⟩
      have N4 : Hid (w4.heap[w2.heap.size]? = some (.cells #[.int .i64 k, .int .i64 f, .int .i64 t, .int .i64 ep, .slice p10 L1.length c10, .slice none 0 0, .int .i64 0, .slice none 0 0, .slice none 0 0, .slice none 0 0, .slice none 0 0, .slice none 0 0, .int .i64 0, .int .i64 0, .int .i64 0] 27 (0, 0))) := hide ((hb4.block _ (Array.getElem?_eq_some_iff.1 N3.out).1).trans N3.out)
      have K4 : Hid (w4.heap[w.heap.size]? = some (.cells zmsg 27 (0, 0))) := hide ((hb4.block _ (Array.getElem?_eq_some_iff.1 K3.out).1).trans K3.out)
      have HB4 : Hid (Below w.heap.size w w4) := hide (HB3.out.trans (hb4.mono HB3.out.size))
      have HMV4 := hide (HMV3.out.below hb4)
      clear y0 y1 y2 y3 y4 y5 y6 y7 y8 y9 y10 y11 y12 y13 y14 C3 N3 K3 HB3 HMV3 hb4
      have HBAD : Hid (¬ (MRight (⟨k, f, t, ep, L1.map bl, [], Pol.zero⟩) ∧ textM (⟨k, f, t, ep, L1.map bl, [], Pol.zero⟩) = bl s) → Dcd (bl s) Ms.zero 2) := hide (fun hn => .inr ⟨fun m' h e => hn (by rw [← CAND.out m' h e]; exact ⟨h, e⟩), rfl, l, [], HFL0.out, rfl⟩)
      rcases hq with ⟨hR, rfl⟩ | ⟨hR, rfl⟩
      · obtain ⟨T, hT⟩ : ∃ T : ByteArray, T = ⟨(textM (⟨k, f, t, ep, L1.map bl, [], Pol.zero⟩)).toArray⟩ := ⟨_, rfl⟩
        have hTb : bl T = textM (⟨k, f, t, ep, L1.map bl, [], Pol.zero⟩) := by rw [hT]
        rw [← hT]
        by_cases he : bl T = bl s
        · have q1' := beq_same he
          have q2' : (T.toList != s.toList) = false := by rw [bne, q1']; rfl
          have HD : Hid (Dcd (bl s) (⟨k, f, t, ep, L1.map bl, [], Pol.zero⟩) 0) := hide (.inl ⟨hR, by rw [← hTb, he], rfl⟩)
          clear he hTb hT hR HBAD CAND
          go_upto_region 22 with fail
          go_step
          refine wpList_load_row rfl 27 _ rfl w2.heap.size rfl 27 #[.int .i64 k, .int .i64 f, .int .i64 t, .int .i64 ep, .slice p10 L1.length c10, .slice none 0 0, .int .i64 0, .slice none 0 0, .slice none 0 0, .slice none 0 0, .slice none 0 0, .slice none 0 0, .int .i64 0, .int .i64 0, .int .i64 0] (0, 0) _ N4.out Tryz.underlying27 rfl (by kernel_rfl) ?_
          refine wpList_store_row rfl 27 _ _ rfl w.heap.size #[.int .i64 k, .int .i64 f, .int .i64 t, .int .i64 ep, .slice p10 L1.length c10, .slice none 0 0, .int .i64 0, .slice none 0 0, .slice none 0 0, .slice none 0 0, .slice none 0 0, .slice none 0 0, .int .i64 0, .int .i64 0, .int .i64 0] rfl rfl 27 zmsg K4.out (by kernel_rfl) rfl (by simp [Value.oneCell']) ?_
          obtain ⟨w5, hw5⟩ : ∃ w5, w5 = w4.setRow w.heap.size #[.int .i64 k, .int .i64 f, .int .i64 t, .int .i64 ep, .slice p10 L1.length c10, .slice none 0 0, .int .i64 0, .slice none 0 0, .slice none 0 0, .slice none 0 0, .slice none 0 0, .slice none 0 0, .int .i64 0, .int .i64 0, .int .i64 0] := ⟨_, rfl⟩
          have K5 : Hid (w5.heap[w.heap.size]? = some (.cells #[.int .i64 k, .int .i64 f, .int .i64 t, .int .i64 ep, .slice p10 L1.length c10, .slice none 0 0, .int .i64 0, .slice none 0 0, .slice none 0 0, .slice none 0 0, .slice none 0 0, .slice none 0 0, .int .i64 0, .int .i64 0, .int .i64 0] 27 (0, 0))) := hide (by rw [hw5]; exact setRow_heap _ _ _ _ _ _ K4.out)
          have B5 : Hid (Below w.heap.size w w5) := hide (by rw [hw5]; exact below_row HB4.out (Nat.le_refl _) _)
          have M5 := hide (HMV4.out.at' (w' := w5) K4.out noS_zmsg (fun j hj => by rw [hw5]; exact setRow_other _ _ _ _ hj) (HG.out.below B5.out))
          rw [← hw5]
          clear hw5 K4 N4 HMV4 HB4 q1' q2'
          go_wp2_with fail
          refine bodyPost_ret (results_row_tmp rfl _ _ w.heap.size 27 #[.int .i64 k, .int .i64 f, .int .i64 t, .int .i64 ep, .slice p10 L1.length c10, .slice none 0 0, .int .i64 0, .slice none 0 0, .slice none 0 0, .slice none 0 0, .slice none 0 0, .slice none 0 0, .int .i64 0, .int .i64 0, .int .i64 0] (0, 0) _ rfl K5.out Tryz.underlying27 rfl (by kernel_rfl)) rfl ?_
          exact ⟨⟨(⟨k, f, t, ep, L1.map bl, [], Pol.zero⟩), 0, _, _, _, _, _, _, _, L1, [], [], [], [], [], [], rfl, M5.out, HD.out⟩, B5.out⟩
        · have q1' := beq_ne he
          have q2' : (T.toList != s.toList) = true := by rw [bne, q1']; rfl
          have HD := hide (HBAD.out (fun h => he (by rw [hTb, h.2])))
          clear he hTb hT hR HBAD CAND HMV4 N4
          go_upto_region 21 with fail
          go_step
          go_step
          rename_i kk
          go_simp
          refine kk _ _ ?_
          clear kk
          refine wpList_store_row rfl 27 _ _ rfl w.heap.size zmsg rfl rfl 27 _ K4.out (by kernel_rfl) rfl (by simp [Value.oneCell']) ?_
          obtain ⟨w6, hw6⟩ : ∃ w6, w6 = w4.setRow w.heap.size zmsg := ⟨_, rfl⟩
          have K6 : Hid (w6.heap[w.heap.size]? = some (.cells zmsg 27 (0, 0))) := hide (by rw [hw6]; exact setRow_heap _ _ _ _ _ _ K4.out)
          have B6 : Hid (Below w.heap.size w w6) := hide (by rw [hw6]; exact below_row HB4.out (Nat.le_refl _) _)
          rw [← hw6]
          clear hw6 K4 HB4
          go_wp2_with fail
          refine bodyPost_ret (results_row_tmp rfl _ _ w.heap.size 27 zmsg (0, 0) _ rfl K6.out Tryz.underlying27 rfl (by kernel_rfl)) rfl ?_
          exact ⟨⟨Ms.zero, 2, _, _, _, _, _, _, _, [], [], [], [], [], [], [], rfl, MV.bare 0 0 0 0 (HG.out.below B6.out), HD.out⟩, B6.out⟩
      · have HD := hide (HBAD.out (fun h => hR h.1))
        clear hR HBAD CAND HMV4 N4
        go_upto_region 21 with fail
        go_step
        go_step
        rename_i kk
        go_simp
        refine kk _ _ ?_
        clear kk
        refine wpList_store_row rfl 27 _ _ rfl w.heap.size zmsg rfl rfl 27 _ K4.out (by kernel_rfl) rfl (by simp [Value.oneCell']) ?_
        obtain ⟨w6, hw6⟩ : ∃ w6, w6 = w4.setRow w.heap.size zmsg := ⟨_, rfl⟩
        have K6 : Hid (w6.heap[w.heap.size]? = some (.cells zmsg 27 (0, 0))) := hide (by rw [hw6]; exact setRow_heap _ _ _ _ _ _ K4.out)
        have B6 : Hid (Below w.heap.size w w6) := hide (by rw [hw6]; exact below_row HB4.out (Nat.le_refl _) _)
        rw [← hw6]
        clear hw6 K4 HB4
        go_wp2_with fail
        refine bodyPost_ret (results_row_tmp rfl _ _ w.heap.size 27 zmsg (0, 0) _ rfl K6.out Tryz.underlying27 rfl (by kernel_rfl)) rfl ?_
        exact ⟨⟨Ms.zero, 2, _, _, _, _, _, _, _, [], [], [], [], [], [], [], rfl, MV.bare 0 0 0 0 (HG.out.below B6.out), HD.out⟩, B6.out⟩
  by_cases hk2 : k = 2
  · have hk1 : ¬ k = 1 := by omega
    have hk3 : ¬ k = 3 := by omega
    have e1 : (k == 1) = false := beq_eq_false_iff_ne.2 hk1
    have f1 : decide (k = 1) = false := decide_eq_false hk1
    have e2 : (k == 2) = true := beq_iff_eq.2 hk2
    have f2 : decide (k = 2) = true := decide_eq_true hk2
    have e3 : (k == 3) = false := beq_eq_false_iff_ne.2 hk3
    have f3 : decide (k = 3) = false := decide_eq_false hk3
    have CAND : Hid (∀ m', MRight m' → textM m' = bl s → m' = ⟨k, f, t, ep, [], (prs rs.tail).map (fun x => (bl x.1, bl x.2)), Pol.zero⟩) := hide (fun m' h e => by
      obtain ⟨c0, c1, c2, c3, c4⟩ := cand_head HFL0.out HL.out h e
      obtain ⟨g0, g1, g2, g3⟩ := HKS.out
      have hkm : m'.kind = 2 := by rw [c0, ← g0]; exact hk2
      have hb : body m' = dec m'.posts.length :: two m'.posts := by unfold body; rw [if_neg (by omega), if_pos hkm]
      have hi : m'.posts = (prs rs.tail).map (fun x => (bl x.1, bl x.2)) := by
        rw [prs_map bl, List.map_tail, ← c4, hb]
        exact (prs_two _).symm
      exact Ms.ext' (c0.trans g0.symm) (c1.trans g1.symm) (c2.trans g2.symm) (c3.trans g3.symm) (h.ids (by omega)) hi (h.pol (by omega)))
    have y0 := tag_cell M6.out 0 _ rfl
    obtain ⟨bb, hbb⟩ : ∃ bb : Bool, bb = decide (0 < N - 4) := ⟨_, rfl⟩
    have HBB := hide hbb
    clear hbb
    go_upto_region 11 with fail
    go_cut [77] from 65 (fun v77 wx => v77 = .bool bb ∧ wx = w3)
    case first =>
      go_wp2_with fail
      go_meet
      exact ⟨by rw [HBB.out], rfl⟩
    case rest =>
    obtain ⟨rfl, hwc⟩ := hcut
    have hwc' := hwc.symm
    clear hwc
    subst hwc'
    go_upto_if 77 with fail
    go_cut [7] from 78 (fun v7 wx => (∃ q c, v7 = .slice q (N - 4 - 1) c ∧ StrArg w3 (.slice q (N - 4 - 1) c) rs.tail) ∧ wx = w3)
    case first =>
      by_cases hr0 : rs = []
      · have hN0 : N - 4 = 0 := by rw [← L4.out, hr0]; rfl
        have hbf : bb = false := by rw [HBB.out]; exact decide_eq_false (by omega)
        clear HBB
        subst hbf
        have S8 : StrArg w3 (.slice q7 (N - 4 - 1) c7) rs.tail := by
          have := S7.out
          rw [hr0] at this ⊢
          rw [hN0] at this ⊢
          exact this
        have hv : Value.slice q7 (N - 4) c7 = .slice q7 (N - 4 - 1) c7 := by rw [hN0]
        clear hr0
        go_wp2_with fail
        go_meet
        exact ⟨⟨q7, c7, hv, S8⟩, rfl⟩
      · obtain ⟨b7, o7, hq7, T1, T2⟩ := str_tail S7.out hr0
        have hN1 : 1 ≤ N - 4 := by
          rw [← L4.out]
          have := List.length_pos_iff.2 hr0
          omega
        have hbf : bb = true := by rw [HBB.out]; exact decide_eq_true (by omega)
        clear HBB
        subst hbf
        subst hq7
        by_cases hc1 : c7 = 1
        · subst hc1
          have hT := T2 (by omega)
          clear T1 T2 hr0
          go_wp2_with fail
          go_meet
          exact ⟨⟨some ⟨b7, o7, none⟩, 0, by rw [show N - 4 - 1 = 0 by omega], hT _⟩, rfl⟩
        · clear T2 hr0
          go_wp2_with fail
          go_meet
          exact ⟨⟨_, _, rfl, T1 _⟩, rfl⟩
    case rest =>
    obtain ⟨⟨q8, c8, hu8, hs8⟩, hwc⟩ := hcut
    have hwc' := hwc.symm
    clear hwc
    subst hwc'
    subst hu8
    have S8 := hide hs8
    clear hs8 HBB
    obtain ⟨L1, hL1⟩ : ∃ L1, L1 = rs.tail := ⟨_, rfl⟩
    rw [← hL1] at CAND S8
    obtain ⟨n8, hn8⟩ : ∃ n8, n8 = N - 4 - 1 := ⟨_, rfl⟩
    rw [← hn8] at S8 ⊢
    have hl8 : L1.length = n8 := by rw [hL1, List.length_tail, L4.out, hn8]
    have h80 : n8 ≤ 8000 := by omega
    have HL8 := hide hl8
    obtain ⟨j0', hj, hjz0, hjz1, hjz2⟩ := info_parts einfoPost
    clear hL1 hl8 hn8 S7 SR HC HV HCP HX8 HKS
    have DBS : Hid (DB w w2.heap.size #[.int .i64 k, .int .i64 f, .int .i64 t, .int .i64 ep, .slice none 0 0, .slice none 0 0, .int .i64 0, .slice none 0 0, .slice none 0 0, .slice none 0 0, .slice none 0 0, .slice none 0 0, .int .i64 0, .int .i64 0, .int .i64 0] w3 ∧ KP w2.heap.size w3 w3) := hide ⟨DBI.out, KP.refl _ _⟩
    go_wp2_with fail
    clear y0
    go_loopg [10] 8000 (fun g v wr => ∃ (n jj cp : Nat) (q : Option Addr) (ts : List (ByteArray × ByteArray)), n + g = 8000 ∧ v = .int .i64 (jj : Int) ∧ jj = 2 * n ∧ jj ≤ n8 ∧ Hid (DB w w2.heap.size #[.int .i64 k, .int .i64 f, .int .i64 t, .int .i64 ep, .slice none 0 0, .slice q n cp, .int .i64 0, .slice none 0 0, .slice none 0 0, .slice none 0 0, .slice none 0 0, .slice none 0 0, .int .i64 0, .int .i64 0, .int .i64 0] wr ∧ KP w2.heap.size w3 wr) ∧ Hid (wr.ownsRow w3.heap.size 41 2 (.slice q n cp) n (postV ts) ∧ ts = (prs L1).take n))
    case atStart => exact ⟨0, 0, 0, none, [], by omega, rfl, rfl, Nat.zero_le _, DBS, hide ⟨⟨rfl, .inl ⟨rfl, rfl⟩⟩, rfl⟩⟩
    case round =>
      obtain ⟨n, jj, cp, q, ts, hng, rfl, hjj, hjn, DBR, HR⟩ := hrel
      have y0 := tag_cell DBR.out.1.b2 0 _ rfl
      by_cases hlt : jj + 1 < n8
      · have dlt : decide ((jj : Int) + 1 < (n8 : Int)) = true := decide_eq_true (by omega)
        have hne : L1 ≠ [] := fun e => by have := HL8.out; rw [e] at this; simp at this; omega
        obtain ⟨b8, o8, cc, he8, hb1, hb2, hb3⟩ := strs_off S8.out hne DBI.out.b2 (noS_msg _ _ _ _ _ _ _ _ none none none none none none none 0 0 0 0 0 0 0 0 0 0 0 0 0 0)
        injection he8 with he81 he82 he83
        obtain ⟨tx, htx⟩ : ∃ x, L1[jj]? = some x := ⟨_, List.getElem?_eq_getElem (by rw [HL8.out]; omega)⟩
        obtain ⟨ty, hty⟩ : ∃ x, L1[jj + 1]? = some x := ⟨_, List.getElem?_eq_getElem (by rw [HL8.out]; omega)⟩
        have TX := hide (hb3 _ _ htx)
        have TY := hide (hb3 _ _ hty)
        have HB8 := hide (And.intro hb2 hb1)
        have HPR : Hid ((prs L1).take (n + 1) = ts ++ [(tx, ty)]) := hide (by
          rw [List.take_add_one, prs_at L1 n tx ty (by rw [← hjj]; exact htx) (by rw [← hjj]; exact hty), HR.out.2]
          rfl)
        have HOA : Hid ((wr.drew.alloc (.cells #[.string tx, .string ty] 41)).ownsRow w3.heap.size 41 2 (.slice q n cp) n (postV ts)) := hide (HR.out.1.drew.alloc _)
        have DBA : Hid (DB w w2.heap.size #[.int .i64 k, .int .i64 f, .int .i64 t, .int .i64 ep, .slice none 0 0, .slice q n cp, .int .i64 0, .slice none 0 0, .slice none 0 0, .slice none 0 0, .slice none 0 0, .slice none 0 0, .int .i64 0, .int .i64 0, .int .i64 0] (wr.drew.alloc (.cells #[.string tx, .string ty] 41)) ∧ KP w2.heap.size w3 (wr.drew.alloc (.cells #[.string tx, .string ty] 41))) := hide ⟨DBR.out.1.keep (bel_alloc ((Below.refl _ _).drew) _), DBR.out.2.keep (bel_alloc ((Below.refl _ _).drew) _)⟩
        have DBD : Hid (DB w w2.heap.size #[.int .i64 k, .int .i64 f, .int .i64 t, .int .i64 ep, .slice none 0 0, .slice q n cp, .int .i64 0, .slice none 0 0, .slice none 0 0, .slice none 0 0, .slice none 0 0, .slice none 0 0, .int .i64 0, .int .i64 0, .int .i64 0] wr.drew ∧ KP w2.heap.size w3 wr.drew) := hide ⟨DBR.out.1.keep ((Below.refl _ _).drew), DBR.out.2.keep ((Below.refl _ _).drew)⟩
        have hnew : ∀ (j : Nat) (u : Value), [Value.string tx, Value.string ty][j]? = some u → (wr.drew.alloc (.cells #[.string tx, .string ty] 41)).cell? ((⟨wr.heap.size, 0, none⟩ : Addr).add j) = some u := by
          intro j u hu
          have hb := new_block wr.drew #[.string tx, .string ty] 41
          rw [add_plain, Nat.zero_add]
          exact tag_cell hb j u (by rw [← hu]; simp)
        have HNG := hide (And.intro hng hjj)
        have hn100 : n + 1 ≤ 10000 := by omega
        have hjl : jj < n8 := by omega
        have hwp : IntKind.i64.wrap ((jj : Int) + 1) = (jj : Int) + 1 := IntWalk.i64_in _ (by omega)
        have htn : ((jj : Int) + 1).toNat = jj + 1 := by omega
        subst he81
        clear he82 he83 hb1 hb2 hb3 htx hty hne hng hjj
        go_wp2_with fail
        refine wp_region_until (m := 15) (S := (fun wx => wx.cell? ⟨w2.heap.size, 5, none⟩ = some (.slice q n cp) ∧ wx.cell? ⟨b8, o8 + jj, none⟩ = some (.string tx) ∧ wx.cell? ⟨b8, o8 + (jj + 1), none⟩ = some (.string ty))) (by kernel_rfl) (⟨tag_cell DBR.out.1.b2 5 _ rfl, (DBR.out.2.cell HB8.out.1 HB8.out.2).trans TX.out, (DBR.out.2.cell HB8.out.1 HB8.out.2).trans TY.out⟩) (fun hHeld => ?_)
        refine wpU_at (i := 0) (v := ?vp0) (a1 := ?xp0) rfl (by kernel_rfl) (by kernel_rfl) (by kernel_rfl) (by kernel_rfl) (fun _ _ _ h => h) (Or.inl ⟨by rfl, ?yp0⟩) (by assumption) ?hp0 ?zp0
        case yp0 => (intro w hSw; (try dsimp only at hSw); go_simp; try (with_reducible rfl))
        case hp0 => (go_simp; exact rfl)
        case zp0 =>
        refine wpU_at (i := 1) (v := ?vp1) (a1 := ?xp1) rfl (by kernel_rfl) (by kernel_rfl) (by kernel_rfl) (by kernel_rfl) (fun _ _ _ h => h) (Or.inl ⟨by rfl, ?yp1⟩) (by assumption) ?hp1 ?zp1
        case yp1 => (intro w hSw; (try dsimp only at hSw); go_simp; try (with_reducible rfl))
        case hp1 => (go_simp; exact rfl)
        case zp1 =>
        refine wpU_at (i := 2) (v := ?vp2) (a1 := ?xp2) rfl (by kernel_rfl) (by kernel_rfl) (by kernel_rfl) (by kernel_rfl) (fun _ _ _ h => h) (Or.inl ⟨by rfl, ?yp2⟩) (by assumption) ?hp2 ?zp2
        case yp2 => (intro w hSw; (try dsimp only at hSw); go_simp; try (with_reducible rfl))
        case hp2 => (go_simp; exact rfl)
        case zp2 =>
        refine wpU_at (i := 3) (v := ?vp3) (a1 := ?xp3) rfl (by kernel_rfl) (by kernel_rfl) (by kernel_rfl) (by kernel_rfl) (fun _ _ _ h => h) (Or.inl ⟨by rfl, ?yp3⟩) (by assumption) ?hp3 ?zp3
        case yp3 => (intro w hSw; (try dsimp only at hSw); go_simp; try (with_reducible rfl))
        case hp3 => (go_simp; exact rfl)
        case zp3 =>
        refine wpU_at (i := 4) (v := .pointer (some ⟨b8, o8 + jj, none⟩)) (a1 := ?xp4) rfl (by kernel_rfl) (by kernel_rfl) (by kernel_rfl) (by kernel_rfl) (fun _ _ _ h => h) (Or.inl ⟨by rfl, ?yp4⟩) (by assumption) ?hp4 ?zp4
        case yp4 => (intro w hSw; (try dsimp only at hSw); go_simp; try (with_reducible rfl))
        case hp4 => (go_simp; exact rfl)
        case zp4 =>
        refine wpU_at (i := 5) (v := ?vp5) (a1 := ?xp5) rfl (by kernel_rfl) (by kernel_rfl) (by kernel_rfl) (by kernel_rfl) (fun _ _ _ h => h) (Or.inl ⟨by rfl, ?yp5⟩) (by assumption) ?hp5 ?zp5
        case yp5 => (intro w hSw; (try dsimp only at hSw); go_simp; try (with_reducible rfl))
        case hp5 => (go_simp; exact rfl)
        case zp5 =>
        refine wpU_at (i := 6) (v := ?vp6) (a1 := ?xp6) rfl (by kernel_rfl) (by kernel_rfl) (by kernel_rfl) (by kernel_rfl) (fun _ _ _ h => h) (Or.inl ⟨by rfl, ?yp6⟩) (by assumption) ?hp6 ?zp6
        case yp6 => (intro w hSw; (try dsimp only at hSw); go_simp; try (with_reducible rfl))
        case hp6 => (go_simp; exact rfl)
        case zp6 =>
        refine wpU_at (i := 7) (v := ?vp7) (a1 := ?xp7) rfl (by kernel_rfl) (by kernel_rfl) (by kernel_rfl) (by kernel_rfl) (fun _ _ _ h => h) (Or.inl ⟨by rfl, ?yp7⟩) (by assumption) ?hp7 ?zp7
        case yp7 => (intro w hSw; (try dsimp only at hSw); go_simp; try (with_reducible rfl))
        case hp7 => (go_simp; exact rfl)
        case zp7 =>
        refine wpU_at (i := 8) (v := .int .i64 ((jj : Int) + 1)) (a1 := ?xp8) rfl (by kernel_rfl) (by kernel_rfl) (by kernel_rfl) (by kernel_rfl) (fun _ _ _ h => h) (Or.inl ⟨by rfl, ?yp8⟩) (by assumption) ?hp8 ?zp8
        case yp8 => (intro w hSw; (try dsimp only at hSw); go_simp; try (with_reducible rfl))
        case hp8 => (go_simp; exact rfl)
        case zp8 =>
        refine wpU_at (i := 9) (v := .pointer (some ⟨b8, o8 + (jj + 1), none⟩)) (a1 := ?xp9) rfl (by kernel_rfl) (by kernel_rfl) (by kernel_rfl) (by kernel_rfl) (fun _ _ _ h => h) (Or.inl ⟨by rfl, ?yp9⟩) (by assumption) ?hp9 ?zp9
        case yp9 => (intro w hSw; (try dsimp only at hSw); go_simp; all_goals (intro hh; have := hh (by omega); omega))
        case hp9 => (go_simp; exact rfl)
        case zp9 =>
        refine wpU_at (i := 10) (v := ?vp10) (a1 := ?xp10) rfl (by kernel_rfl) (by kernel_rfl) (by kernel_rfl) (by kernel_rfl) (fun _ _ _ h => h) (Or.inl ⟨by rfl, ?yp10⟩) (by assumption) ?hp10 ?zp10
        case yp10 => (intro w hSw; (try dsimp only at hSw); go_simp; try (with_reducible rfl))
        case hp10 => (go_simp; exact rfl)
        case zp10 =>
        refine wpU_at (i := 11) (v := ?vp11) (a1 := ?xp11) rfl (by kernel_rfl) (by kernel_rfl) (by kernel_rfl) (by kernel_rfl) (fun _ _ _ h => h) (Or.inl ⟨by rfl, ?yp11⟩) (by assumption) ?hp11 ?zp11
        case yp11 => (intro w hSw; (try dsimp only at hSw); go_simp; try (with_reducible rfl))
        case hp11 => (go_simp; exact rfl)
        case zp11 =>
        refine wpU_ready (rs := [12]) (by kernel_rfl) (by simp) ?_
        refine AllU.cons (by decide) rfl (fun K hK => ?_) AllU.nil
        go_simp
        try go_wp2_with fail
        try go_wp2_with fail
        refine hK.out _ _ (by first | exact ⟨tag_cell DB10.out.1.b2 5 _ rfl, (DB10.out.2.cell HB8.out.1 HB8.out.2).trans TX.out, (DB10.out.2.cell HB8.out.1 HB8.out.2).trans TY.out⟩ | exact ⟨tag_cell DBA.out.1.b2 5 _ rfl, (DBA.out.2.cell HB8.out.1 HB8.out.2).trans TX.out, (DBA.out.2.cell HB8.out.1 HB8.out.2).trans TY.out⟩) (fun hHeld2 => ?_)
        clear hK K hHeld
        have hHeld := hHeld2
        clear hHeld2
        refine wpU_ready (rs := [13]) (by kernel_rfl) (by simp) ?_
        refine AllU.cons (by decide) rfl (fun K hK => ?_) AllU.nil
        refine mstep_wanted rfl (wp_append_own _ _ _ 23 rfl w3.heap.size 41 j0' _ 2 32 Tryz.underlying23 hj hjz0 hjz1 hjz2 rfl (by decide) (.slice q n cp) n (postV ts) rfl HOA.out ⟨wr.heap.size, 0, none⟩ 1 1 [.string tx, .string ty] rfl rfl hnew (by simp [Value.oneCell']) (by unfold maxLen; omega) (by omega) (by have := DBA.out.2.sz; exact this) ?_)
        intro u' w10 hown hg10 _
        obtain ⟨p9, c9, rfl, -⟩ := own_shape hown
        have DB10 : Hid (DB w w2.heap.size #[.int .i64 k, .int .i64 f, .int .i64 t, .int .i64 ep, .slice none 0 0, .slice q n cp, .int .i64 0, .slice none 0 0, .slice none 0 0, .slice none 0 0, .slice none 0 0, .slice none 0 0, .int .i64 0, .int .i64 0, .int .i64 0] w10 ∧ KP w2.heap.size w3 w10) := hide ⟨DBA.out.1.grown HOA.out DBI.out.bel.size (by decide) hg10, DBA.out.2.grown HOA.out hg10⟩
        have HO10 := hide hown
        clear hown hg10
        try go_simp
        refine hK.out _ _ (by first | exact ⟨tag_cell DB10.out.1.b2 5 _ rfl, (DB10.out.2.cell HB8.out.1 HB8.out.2).trans TX.out, (DB10.out.2.cell HB8.out.1 HB8.out.2).trans TY.out⟩ | exact ⟨tag_cell DBA.out.1.b2 5 _ rfl, (DBA.out.2.cell HB8.out.1 HB8.out.2).trans TX.out, (DBA.out.2.cell HB8.out.1 HB8.out.2).trans TY.out⟩) (fun hHeld2 => ?_)
        clear hK K hHeld
        have hHeld := hHeld2
        clear hHeld2
        refine wpU_at (i := 14) (v := ?vp14) (a1 := ?xp14) rfl (by kernel_rfl) (by kernel_rfl) (by kernel_rfl) (by kernel_rfl) (fun _ _ _ h => h) (Or.inl ⟨by rfl, ?yp14⟩) (by assumption) ?hp14 ?zp14
        case yp14 => (intro w hSw; (try dsimp only at hSw); go_simp; try (with_reducible rfl))
        case hp14 => (go_simp; exact rfl)
        case zp14 =>
        refine wpU_ready (rs := [15]) (by kernel_rfl) (by simp) ?_
        refine AllU.last rfl (fun K hK => ?_)
        have z5 := tag_cell DB10.out.1.b2 5 _ rfl
        have g5 := etag_free DB10.out.1.b2 5
        go_simp
        try go_wp2_with fail
        refine hK.out _ _ ?_
        clear hK K
        refine wpAny_done (by kernel_rfl) ?_ _
        go_wp2_with fail
        have H11 : Hid (DB w w2.heap.size #[.int .i64 k, .int .i64 f, .int .i64 t, .int .i64 ep, .slice none 0 0, .slice p9 (n + 1) c9, .int .i64 0, .slice none 0 0, .slice none 0 0, .slice none 0 0, .slice none 0 0, .slice none 0 0, .int .i64 0, .int .i64 0, .int .i64 0] (w10.setCell ⟨w2.heap.size, 5, none⟩ (.slice p9 (n + 1) c9)) ∧ KP w2.heap.size w3 (w10.setCell ⟨w2.heap.size, 5, none⟩ (.slice p9 (n + 1) c9))) := hide ⟨DB10.out.1.set 5 _, DB10.out.2.set 5 _⟩
        have H12 : Hid ((w10.setCell ⟨w2.heap.size, 5, none⟩ (.slice p9 (n + 1) c9)).ownsRow w3.heap.size 41 2 (.slice p9 (n + 1) c9) (n + 1) (postV (ts ++ [(tx, ty)])) ∧ ts ++ [(tx, ty)] = (prs L1).take (n + 1)) := hide (by
          refine ⟨?_, HPR.out.symm⟩
          rw [postV_app]
          exact eown_set HO10.out DB10.out.1.b2 (by decide) 5 _)
        go_roundg (gk - 1)
        case measure => have := HNG.out; omega
        case rel => exact ⟨n + 1, jj + 2, c9, p9, ts ++ [(tx, ty)], by have := HNG.out; omega, by first | rfl | simp, by have := HNG.out; omega, by omega, H11, H12⟩
      · have dlt : decide ((jj : Int) + 1 < (n8 : Int)) = false := decide_eq_false (by omega)
        have HTS : Hid (ts = prs L1) := hide (by
          rw [HR.out.2]
          refine List.take_of_length_le ?_
          rw [prs_len, HL8.out]
          omega)
        have hln : ts.length = n := by
          rw [HR.out.2, List.length_take, prs_len, HL8.out]
          omega
        have HLN := hide hln
        have hn8' : n ≤ 8000 := by omega
        have CAND2 : Hid (∀ m', MRight m' → textM m' = bl s → m' = ⟨k, f, t, ep, [], ts.map (fun x => (bl x.1, bl x.2)), Pol.zero⟩) := hide (by rw [HTS.out]; exact CAND.out)
        clear CAND
        have CAND := CAND2
        clear CAND2 hng hjj hln HTS
        go_upto_region 19 with fail
        clear y0
        obtain ⟨wt, hwt⟩ : ∃ wt, wt = wr := ⟨_, rfl⟩
        have DBT : Hid (DB w w2.heap.size #[.int .i64 k, .int .i64 f, .int .i64 t, .int .i64 ep, .slice none 0 0, .slice q n cp, .int .i64 0, .slice none 0 0, .slice none 0 0, .slice none 0 0, .slice none 0 0, .slice none 0 0, .int .i64 0, .int .i64 0, .int .i64 0] wt) := hide (by rw [hwt]; exact DBR.out.1)
        have HMV3 : Hid (MV wt ⟨k, f, t, ep, [], ts.map (fun x => (bl x.1, bl x.2)), Pol.zero⟩ (.slice none 0 0) (.slice q n cp) (.slice none 0 0) (.slice none 0 0) (.slice none 0 0) (.slice none 0 0) (.slice none 0 0) [] ts [] [] [] [] []) := hide (by rw [hwt]; exact (by
            have hb := MV.bare (w := wr) k f t ep (HG.out.below DBR.out.1.bel)
            exact ⟨hb.hi, own_post (B := w3.heap.size) (by rw [HLN.out]; exact HR.out.1), hb.hv, hb.ei, rfl, hb.hf, hb.li, by have := HLN.out; omega⟩))
        rw [← hwt]
        clear hwt DBR HR HLN hn8' HL8 S8 DBI DBS M6 HB6 K2 HB2 hk1 hk2 hk3 f1 f2 f3 e1 e2 e3 hlt dlt hjn
        have N3 := hide DBT.out.b2
        have K3 := hide DBT.out.b0
        have HB3 := hide DBT.out.bel
        clear DBT
        have y0 := tag_cell N3.out 0 _ rfl
        have y1 := tag_cell N3.out 1 _ rfl
        have y2 := tag_cell N3.out 2 _ rfl
        have y3 := tag_cell N3.out 3 _ rfl
        have y4 := tag_cell N3.out 4 _ rfl
        have y5 := tag_cell N3.out 5 _ rfl
        have y6 := tag_cell N3.out 6 _ rfl
        have y7 := tag_cell N3.out 7 _ rfl
        have y8 := tag_cell N3.out 8 _ rfl
        have y9 := tag_cell N3.out 9 _ rfl
        have y10 := tag_cell N3.out 10 _ rfl
        have y11 := tag_cell N3.out 11 _ rfl
        have y12 := tag_cell N3.out 12 _ rfl
        have y13 := tag_cell N3.out 13 _ rfl
        have y14 := tag_cell N3.out 14 _ rfl
        have C3 := hide (mencode_any (⟨k, f, t, ep, [], ts.map (fun x => (bl x.1, bl x.2)), Pol.zero⟩) _ _ _ _ _ _ _ [] ts [] [] [] [] [] wt HMV3.out)
        go_wp2_with fail
        refine C3.out.mono ?_
        rintro e w4 ⟨hq, hb4⟩
        have N4 : Hid (w4.heap[w2.heap.size]? = some (.cells #[.int .i64 k, .int .i64 f, .int .i64 t, .int .i64 ep, .slice none 0 0, .slice q n cp, .int .i64 0, .slice none 0 0, .slice none 0 0, .slice none 0 0, .slice none 0 0, .slice none 0 0, .int .i64 0, .int .i64 0, .int .i64 0] 27 (0, 0))) := hide ((hb4.block _ (Array.getElem?_eq_some_iff.1 N3.out).1).trans N3.out)
        have K4 : Hid (w4.heap[w.heap.size]? = some (.cells zmsg 27 (0, 0))) := hide ((hb4.block _ (Array.getElem?_eq_some_iff.1 K3.out).1).trans K3.out)
        have HB4 : Hid (Below w.heap.size w w4) := hide (HB3.out.trans (hb4.mono HB3.out.size))
        have HMV4 := hide (HMV3.out.below hb4)
        clear y0 y1 y2 y3 y4 y5 y6 y7 y8 y9 y10 y11 y12 y13 y14 C3 N3 K3 HB3 HMV3 hb4
        have HBAD : Hid (¬ (MRight (⟨k, f, t, ep, [], ts.map (fun x => (bl x.1, bl x.2)), Pol.zero⟩) ∧ textM (⟨k, f, t, ep, [], ts.map (fun x => (bl x.1, bl x.2)), Pol.zero⟩) = bl s) → Dcd (bl s) Ms.zero 2) := hide (fun hn => .inr ⟨fun m' h e => hn (by rw [← CAND.out m' h e]; exact ⟨h, e⟩), rfl, l, [], HFL0.out, rfl⟩)
        rcases hq with ⟨hR, rfl⟩ | ⟨hR, rfl⟩
        · obtain ⟨T, hT⟩ : ∃ T : ByteArray, T = ⟨(textM (⟨k, f, t, ep, [], ts.map (fun x => (bl x.1, bl x.2)), Pol.zero⟩)).toArray⟩ := ⟨_, rfl⟩
          have hTb : bl T = textM (⟨k, f, t, ep, [], ts.map (fun x => (bl x.1, bl x.2)), Pol.zero⟩) := by rw [hT]
          rw [← hT]
          by_cases he : bl T = bl s
          · have q1' := beq_same he
            have q2' : (T.toList != s.toList) = false := by rw [bne, q1']; rfl
            have HD : Hid (Dcd (bl s) (⟨k, f, t, ep, [], ts.map (fun x => (bl x.1, bl x.2)), Pol.zero⟩) 0) := hide (.inl ⟨hR, by rw [← hTb, he], rfl⟩)
            clear he hTb hT hR HBAD CAND
            go_upto_region 22 with fail
            go_step
            refine wpList_load_row rfl 27 _ rfl w2.heap.size rfl 27 #[.int .i64 k, .int .i64 f, .int .i64 t, .int .i64 ep, .slice none 0 0, .slice q n cp, .int .i64 0, .slice none 0 0, .slice none 0 0, .slice none 0 0, .slice none 0 0, .slice none 0 0, .int .i64 0, .int .i64 0, .int .i64 0] (0, 0) _ N4.out Tryz.underlying27 rfl (by kernel_rfl) ?_
            refine wpList_store_row rfl 27 _ _ rfl w.heap.size #[.int .i64 k, .int .i64 f, .int .i64 t, .int .i64 ep, .slice none 0 0, .slice q n cp, .int .i64 0, .slice none 0 0, .slice none 0 0, .slice none 0 0, .slice none 0 0, .slice none 0 0, .int .i64 0, .int .i64 0, .int .i64 0] rfl rfl 27 zmsg K4.out (by kernel_rfl) rfl (by simp [Value.oneCell']) ?_
            obtain ⟨w5, hw5⟩ : ∃ w5, w5 = w4.setRow w.heap.size #[.int .i64 k, .int .i64 f, .int .i64 t, .int .i64 ep, .slice none 0 0, .slice q n cp, .int .i64 0, .slice none 0 0, .slice none 0 0, .slice none 0 0, .slice none 0 0, .slice none 0 0, .int .i64 0, .int .i64 0, .int .i64 0] := ⟨_, rfl⟩
            have K5 : Hid (w5.heap[w.heap.size]? = some (.cells #[.int .i64 k, .int .i64 f, .int .i64 t, .int .i64 ep, .slice none 0 0, .slice q n cp, .int .i64 0, .slice none 0 0, .slice none 0 0, .slice none 0 0, .slice none 0 0, .slice none 0 0, .int .i64 0, .int .i64 0, .int .i64 0] 27 (0, 0))) := hide (by rw [hw5]; exact setRow_heap _ _ _ _ _ _ K4.out)
            have B5 : Hid (Below w.heap.size w w5) := hide (by rw [hw5]; exact below_row HB4.out (Nat.le_refl _) _)
            have M5 := hide (HMV4.out.at' (w' := w5) K4.out noS_zmsg (fun j hj => by rw [hw5]; exact setRow_other _ _ _ _ hj) (HG.out.below B5.out))
            rw [← hw5]
            clear hw5 K4 N4 HMV4 HB4 q1' q2'
            go_wp2_with fail
            refine bodyPost_ret (results_row_tmp rfl _ _ w.heap.size 27 #[.int .i64 k, .int .i64 f, .int .i64 t, .int .i64 ep, .slice none 0 0, .slice q n cp, .int .i64 0, .slice none 0 0, .slice none 0 0, .slice none 0 0, .slice none 0 0, .slice none 0 0, .int .i64 0, .int .i64 0, .int .i64 0] (0, 0) _ rfl K5.out Tryz.underlying27 rfl (by kernel_rfl)) rfl ?_
            exact ⟨⟨(⟨k, f, t, ep, [], ts.map (fun x => (bl x.1, bl x.2)), Pol.zero⟩), 0, _, _, _, _, _, _, _, [], ts, [], [], [], [], [], rfl, M5.out, HD.out⟩, B5.out⟩
          · have q1' := beq_ne he
            have q2' : (T.toList != s.toList) = true := by rw [bne, q1']; rfl
            have HD := hide (HBAD.out (fun h => he (by rw [hTb, h.2])))
            clear he hTb hT hR HBAD CAND HMV4 N4
            go_upto_region 21 with fail
            go_step
            go_step
            rename_i kk
            go_simp
            refine kk _ _ ?_
            clear kk
            refine wpList_store_row rfl 27 _ _ rfl w.heap.size zmsg rfl rfl 27 _ K4.out (by kernel_rfl) rfl (by simp [Value.oneCell']) ?_
            obtain ⟨w6, hw6⟩ : ∃ w6, w6 = w4.setRow w.heap.size zmsg := ⟨_, rfl⟩
            have K6 : Hid (w6.heap[w.heap.size]? = some (.cells zmsg 27 (0, 0))) := hide (by rw [hw6]; exact setRow_heap _ _ _ _ _ _ K4.out)
            have B6 : Hid (Below w.heap.size w w6) := hide (by rw [hw6]; exact below_row HB4.out (Nat.le_refl _) _)
            rw [← hw6]
            clear hw6 K4 HB4
            go_wp2_with fail
            refine bodyPost_ret (results_row_tmp rfl _ _ w.heap.size 27 zmsg (0, 0) _ rfl K6.out Tryz.underlying27 rfl (by kernel_rfl)) rfl ?_
            exact ⟨⟨Ms.zero, 2, _, _, _, _, _, _, _, [], [], [], [], [], [], [], rfl, MV.bare 0 0 0 0 (HG.out.below B6.out), HD.out⟩, B6.out⟩
        · have HD := hide (HBAD.out (fun h => hR h.1))
          clear hR HBAD CAND HMV4 N4
          go_upto_region 21 with fail
          go_step
          go_step
          rename_i kk
          go_simp
          refine kk _ _ ?_
          clear kk
          refine wpList_store_row rfl 27 _ _ rfl w.heap.size zmsg rfl rfl 27 _ K4.out (by kernel_rfl) rfl (by simp [Value.oneCell']) ?_
          obtain ⟨w6, hw6⟩ : ∃ w6, w6 = w4.setRow w.heap.size zmsg := ⟨_, rfl⟩
          have K6 : Hid (w6.heap[w.heap.size]? = some (.cells zmsg 27 (0, 0))) := hide (by rw [hw6]; exact setRow_heap _ _ _ _ _ _ K4.out)
          have B6 : Hid (Below w.heap.size w w6) := hide (by rw [hw6]; exact below_row HB4.out (Nat.le_refl _) _)
          rw [← hw6]
          clear hw6 K4 HB4
          go_wp2_with fail
          refine bodyPost_ret (results_row_tmp rfl _ _ w.heap.size 27 zmsg (0, 0) _ rfl K6.out Tryz.underlying27 rfl (by kernel_rfl)) rfl ?_
          exact ⟨⟨Ms.zero, 2, _, _, _, _, _, _, _, [], [], [], [], [], [], [], rfl, MV.bare 0 0 0 0 (HG.out.below B6.out), HD.out⟩, B6.out⟩
  by_cases hk3 : k = 3
  · have hk1 : ¬ k = 1 := by omega
    have hk2 : ¬ k = 2 := by omega
    have e1 : (k == 1) = false := beq_eq_false_iff_ne.2 hk1
    have f1 : decide (k = 1) = false := decide_eq_false hk1
    have e2 : (k == 2) = false := beq_eq_false_iff_ne.2 hk2
    have f2 : decide (k = 2) = false := decide_eq_false hk2
    have e3 : (k == 3) = true := beq_iff_eq.2 hk3
    have f3 : decide (k = 3) = true := decide_eq_true hk3
    have y0 := tag_cell M6.out 0 _ rfl
    by_cases hone : N - 4 = 1
    rotate_left
    · have d1 : (((N - 4 : Nat) : Int) == 1) = false := beq_eq_false_iff_ne.2 (by omega)
      have d2 : ((N - 4 : Nat) == 1) = false := beq_eq_false_iff_ne.2 hone
      have CAND : Hid (∀ m', MRight m' → textM m' = bl s → m' = ⟨k, f, t, ep, [], [], Pol.zero⟩) := hide (fun m' h e => by
        exfalso
        obtain ⟨c0, c1, c2, c3, c4⟩ := cand_head HFL0.out HL.out h e
        obtain ⟨g0, g1, g2, g3⟩ := HKS.out
        have hkm : m'.kind = 3 := by rw [c0, ← g0]; exact hk3
        have hb : body m' = [Pol8.text m'.pol] := by unfold body; rw [if_neg (by omega), if_neg (by omega), if_pos hkm]
        rw [hb] at c4
        have := congrArg List.length c4
        rw [List.length_map, L4.out] at this
        exact hone this.symm)
      clear S7 SR HC HV HCP HX8 HKS
      go_wp2_with fail
      go_loopg [10] 0 (fun g v10 wr => v10 = .int .i64 0 ∧ wr = w3)
      case atStart => exact ⟨rfl, rfl⟩
      case round =>
        obtain ⟨hv10, hwr⟩ := hrel
        subst hv10
        have hwr' := hwr.symm
        clear hwr
        subst hwr'
        go_upto_region 19 with fail
        clear y0
        have DB3 := DBI
        obtain ⟨wt, hwt⟩ : ∃ wt, wt = w3 := ⟨_, rfl⟩
        have DBT : Hid (DB w w2.heap.size #[.int .i64 k, .int .i64 f, .int .i64 t, .int .i64 ep, .slice none 0 0, .slice none 0 0, .int .i64 0, .slice none 0 0, .slice none 0 0, .slice none 0 0, .slice none 0 0, .slice none 0 0, .int .i64 0, .int .i64 0, .int .i64 0] wt) := hide (by rw [hwt]; exact DB3.out)
        have HMV3 : Hid (MV wt ⟨k, f, t, ep, [], [], Pol.zero⟩ (.slice none 0 0) (.slice none 0 0) (.slice none 0 0) (.slice none 0 0) (.slice none 0 0) (.slice none 0 0) (.slice none 0 0) [] [] [] [] [] [] []) := hide (by rw [hwt]; exact MV.bare k f t ep (HG.out.below DB3.out.bel))
        rw [← hwt]
        clear hwt DB3 DBI M6 HB6 K2 HB2 hk1 hk2 hk3 f1 f2 f3 e1 e2 e3 d1 d2 hone
        have N3 := hide DBT.out.b2
        have K3 := hide DBT.out.b0
        have HB3 := hide DBT.out.bel
        clear DBT
        have y0 := tag_cell N3.out 0 _ rfl
        have y1 := tag_cell N3.out 1 _ rfl
        have y2 := tag_cell N3.out 2 _ rfl
        have y3 := tag_cell N3.out 3 _ rfl
        have y4 := tag_cell N3.out 4 _ rfl
        have y5 := tag_cell N3.out 5 _ rfl
        have y6 := tag_cell N3.out 6 _ rfl
        have y7 := tag_cell N3.out 7 _ rfl
        have y8 := tag_cell N3.out 8 _ rfl
        have y9 := tag_cell N3.out 9 _ rfl
        have y10 := tag_cell N3.out 10 _ rfl
        have y11 := tag_cell N3.out 11 _ rfl
        have y12 := tag_cell N3.out 12 _ rfl
        have y13 := tag_cell N3.out 13 _ rfl
        have y14 := tag_cell N3.out 14 _ rfl
        have C3 := hide (mencode_any (⟨k, f, t, ep, [], [], Pol.zero⟩) _ _ _ _ _ _ _ [] [] [] [] [] [] [] wt HMV3.out)
        go_wp2_with fail
        refine C3.out.mono ?_
        rintro e w4 ⟨hq, hb4⟩
        have N4 : Hid (w4.heap[w2.heap.size]? = some (.cells #[.int .i64 k, .int .i64 f, .int .i64 t, .int .i64 ep, .slice none 0 0, .slice none 0 0, .int .i64 0, .slice none 0 0, .slice none 0 0, .slice none 0 0, .slice none 0 0, .slice none 0 0, .int .i64 0, .int .i64 0, .int .i64 0] 27 (0, 0))) := hide ((hb4.block _ (Array.getElem?_eq_some_iff.1 N3.out).1).trans N3.out)
        have K4 : Hid (w4.heap[w.heap.size]? = some (.cells zmsg 27 (0, 0))) := hide ((hb4.block _ (Array.getElem?_eq_some_iff.1 K3.out).1).trans K3.out)
        have HB4 : Hid (Below w.heap.size w w4) := hide (HB3.out.trans (hb4.mono HB3.out.size))
        have HMV4 := hide (HMV3.out.below hb4)
        clear y0 y1 y2 y3 y4 y5 y6 y7 y8 y9 y10 y11 y12 y13 y14 C3 N3 K3 HB3 HMV3 hb4
        have HBAD : Hid (¬ (MRight (⟨k, f, t, ep, [], [], Pol.zero⟩) ∧ textM (⟨k, f, t, ep, [], [], Pol.zero⟩) = bl s) → Dcd (bl s) Ms.zero 2) := hide (fun hn => .inr ⟨fun m' h e => hn (by rw [← CAND.out m' h e]; exact ⟨h, e⟩), rfl, l, [], HFL0.out, rfl⟩)
        rcases hq with ⟨hR, rfl⟩ | ⟨hR, rfl⟩
        · obtain ⟨T, hT⟩ : ∃ T : ByteArray, T = ⟨(textM (⟨k, f, t, ep, [], [], Pol.zero⟩)).toArray⟩ := ⟨_, rfl⟩
          have hTb : bl T = textM (⟨k, f, t, ep, [], [], Pol.zero⟩) := by rw [hT]
          rw [← hT]
          by_cases he : bl T = bl s
          · have q1' := beq_same he
            have q2' : (T.toList != s.toList) = false := by rw [bne, q1']; rfl
            have HD : Hid (Dcd (bl s) (⟨k, f, t, ep, [], [], Pol.zero⟩) 0) := hide (.inl ⟨hR, by rw [← hTb, he], rfl⟩)
            clear he hTb hT hR HBAD CAND
            go_upto_region 22 with fail
            go_step
            refine wpList_load_row rfl 27 _ rfl w2.heap.size rfl 27 #[.int .i64 k, .int .i64 f, .int .i64 t, .int .i64 ep, .slice none 0 0, .slice none 0 0, .int .i64 0, .slice none 0 0, .slice none 0 0, .slice none 0 0, .slice none 0 0, .slice none 0 0, .int .i64 0, .int .i64 0, .int .i64 0] (0, 0) _ N4.out Tryz.underlying27 rfl (by kernel_rfl) ?_
            refine wpList_store_row rfl 27 _ _ rfl w.heap.size #[.int .i64 k, .int .i64 f, .int .i64 t, .int .i64 ep, .slice none 0 0, .slice none 0 0, .int .i64 0, .slice none 0 0, .slice none 0 0, .slice none 0 0, .slice none 0 0, .slice none 0 0, .int .i64 0, .int .i64 0, .int .i64 0] rfl rfl 27 zmsg K4.out (by kernel_rfl) rfl (by simp [Value.oneCell']) ?_
            obtain ⟨w5, hw5⟩ : ∃ w5, w5 = w4.setRow w.heap.size #[.int .i64 k, .int .i64 f, .int .i64 t, .int .i64 ep, .slice none 0 0, .slice none 0 0, .int .i64 0, .slice none 0 0, .slice none 0 0, .slice none 0 0, .slice none 0 0, .slice none 0 0, .int .i64 0, .int .i64 0, .int .i64 0] := ⟨_, rfl⟩
            have K5 : Hid (w5.heap[w.heap.size]? = some (.cells #[.int .i64 k, .int .i64 f, .int .i64 t, .int .i64 ep, .slice none 0 0, .slice none 0 0, .int .i64 0, .slice none 0 0, .slice none 0 0, .slice none 0 0, .slice none 0 0, .slice none 0 0, .int .i64 0, .int .i64 0, .int .i64 0] 27 (0, 0))) := hide (by rw [hw5]; exact setRow_heap _ _ _ _ _ _ K4.out)
            have B5 : Hid (Below w.heap.size w w5) := hide (by rw [hw5]; exact below_row HB4.out (Nat.le_refl _) _)
            have M5 := hide (HMV4.out.at' (w' := w5) K4.out noS_zmsg (fun j hj => by rw [hw5]; exact setRow_other _ _ _ _ hj) (HG.out.below B5.out))
            rw [← hw5]
            clear hw5 K4 N4 HMV4 HB4 q1' q2'
            go_wp2_with fail
            refine bodyPost_ret (results_row_tmp rfl _ _ w.heap.size 27 #[.int .i64 k, .int .i64 f, .int .i64 t, .int .i64 ep, .slice none 0 0, .slice none 0 0, .int .i64 0, .slice none 0 0, .slice none 0 0, .slice none 0 0, .slice none 0 0, .slice none 0 0, .int .i64 0, .int .i64 0, .int .i64 0] (0, 0) _ rfl K5.out Tryz.underlying27 rfl (by kernel_rfl)) rfl ?_
            exact ⟨⟨(⟨k, f, t, ep, [], [], Pol.zero⟩), 0, _, _, _, _, _, _, _, [], [], [], [], [], [], [], rfl, M5.out, HD.out⟩, B5.out⟩
          · have q1' := beq_ne he
            have q2' : (T.toList != s.toList) = true := by rw [bne, q1']; rfl
            have HD := hide (HBAD.out (fun h => he (by rw [hTb, h.2])))
            clear he hTb hT hR HBAD CAND HMV4 N4
            go_upto_region 21 with fail
            go_step
            go_step
            rename_i kk
            go_simp
            refine kk _ _ ?_
            clear kk
            refine wpList_store_row rfl 27 _ _ rfl w.heap.size zmsg rfl rfl 27 _ K4.out (by kernel_rfl) rfl (by simp [Value.oneCell']) ?_
            obtain ⟨w6, hw6⟩ : ∃ w6, w6 = w4.setRow w.heap.size zmsg := ⟨_, rfl⟩
            have K6 : Hid (w6.heap[w.heap.size]? = some (.cells zmsg 27 (0, 0))) := hide (by rw [hw6]; exact setRow_heap _ _ _ _ _ _ K4.out)
            have B6 : Hid (Below w.heap.size w w6) := hide (by rw [hw6]; exact below_row HB4.out (Nat.le_refl _) _)
            rw [← hw6]
            clear hw6 K4 HB4
            go_wp2_with fail
            refine bodyPost_ret (results_row_tmp rfl _ _ w.heap.size 27 zmsg (0, 0) _ rfl K6.out Tryz.underlying27 rfl (by kernel_rfl)) rfl ?_
            exact ⟨⟨Ms.zero, 2, _, _, _, _, _, _, _, [], [], [], [], [], [], [], rfl, MV.bare 0 0 0 0 (HG.out.below B6.out), HD.out⟩, B6.out⟩
        · have HD := hide (HBAD.out (fun h => hR h.1))
          clear hR HBAD CAND HMV4 N4
          go_upto_region 21 with fail
          go_step
          go_step
          rename_i kk
          go_simp
          refine kk _ _ ?_
          clear kk
          refine wpList_store_row rfl 27 _ _ rfl w.heap.size zmsg rfl rfl 27 _ K4.out (by kernel_rfl) rfl (by simp [Value.oneCell']) ?_
          obtain ⟨w6, hw6⟩ : ∃ w6, w6 = w4.setRow w.heap.size zmsg := ⟨_, rfl⟩
          have K6 : Hid (w6.heap[w.heap.size]? = some (.cells zmsg 27 (0, 0))) := hide (by rw [hw6]; exact setRow_heap _ _ _ _ _ _ K4.out)
          have B6 : Hid (Below w.heap.size w w6) := hide (by rw [hw6]; exact below_row HB4.out (Nat.le_refl _) _)
          rw [← hw6]
          clear hw6 K4 HB4
          go_wp2_with fail
          refine bodyPost_ret (results_row_tmp rfl _ _ w.heap.size 27 zmsg (0, 0) _ rfl K6.out Tryz.underlying27 rfl (by kernel_rfl)) rfl ?_
          exact ⟨⟨Ms.zero, 2, _, _, _, _, _, _, _, [], [], [], [], [], [], [], rfl, MV.bare 0 0 0 0 (HG.out.below B6.out), HD.out⟩, B6.out⟩
    obtain ⟨x4, hrs⟩ : ∃ x4, rs = [x4] := by
      have := L4.out
      rw [hone] at this
      match rs, this with
      | [x], _ => exact ⟨x, rfl⟩
    have hx4 : x4.size ≤ 8000 := HX8.out x4 (by rw [hrs]; simp)
    obtain ⟨b7, o7, cc, he7, -, -, hb3⟩ := strs_off S7.out (by rw [hrs]; simp) DBI.out.b2 (noS_msg _ _ _ _ _ _ _ _ none none none none none none none 0 0 0 0 0 0 0 0 0 0 0 0 0 0)
    have yx := hb3 0 x4 (by rw [hrs]; rfl)
    rw [Nat.add_zero] at yx
    injection he7 with he71 he72 he73
    obtain ⟨Q, hQ⟩ : ∃ Q, Q = (readP (bl x4)).getD Pol.zero := ⟨_, rfl⟩
    obtain ⟨E, hE⟩ : ∃ E : Int, E = if (readP (bl x4)).isSome = true then 0 else 2 := ⟨_, rfl⟩
    have hfit := read_fits (bl x4) (by rw [bl_len]; omega)
    rw [← hQ] at hfit
    have HF := hide hfit
    have C8 := hide (read_shape (rread_any x4 w3 (by omega) (HG.out.below DBI.out.bel)) Q hQ E hE)
    have CAND : Hid (∀ m', MRight m' → textM m' = bl s → m' = ⟨k, f, t, ep, [], [], Q⟩) := hide (fun m' h e => by
      obtain ⟨c0, c1, c2, c3, c4⟩ := cand_head HFL0.out HL.out h e
      obtain ⟨g0, g1, g2, g3⟩ := HKS.out
      have hkm : m'.kind = 3 := by rw [c0, ← g0]; exact hk3
      have hb : body m' = [Pol8.text m'.pol] := by unfold body; rw [if_neg (by omega), if_neg (by omega), if_pos hkm]
      rw [hb, hrs] at c4
      injection c4 with c4
      have hp : m'.pol = Q := by
        rw [hQ, ← c4, read_text ((Pol8.right_iff _).1 (h.rpol hkm))]
        rfl
      exact Ms.ext' (c0.trans g0.symm) (c1.trans g1.symm) (c2.trans g2.symm) (c3.trans g3.symm) (h.ids (by omega)) (h.posts (by omega)) hp)
    rw [hone] at S7 ⊢
    subst he71
    clear S7 SR HC HV HCP HX8 HKS hQ hE hfit he72 he73 hb3 hx4 hrs hc7 hone L4
    go_wp2_with fail
    refine C8.out.mono ?_
    rintro e w8 ⟨⟨u1, n1, c1, u2, n2, c2, u3, n3, c3, u4, n4, c4, u5, n5, c5, l1, l2, l3, l4, l5, rfl, hv⟩, hb8⟩
    have HV := hide hv
    have H8 := hide (DBI.out.keep hb8)
    obtain ⟨w9, hw9⟩ : ∃ w9, w9 = w8.alloc (.cells #[.int .i64 Q.ep, .slice u1 n1 c1, .slice u2 n2 c2, .slice u3 n3 c3, .slice u4 n4 c4, .slice u5 n5 c5, .int .i64 Q.dp, .int .i64 Q.nd, .int .i64 Q.bt] 25) := ⟨_, rfl⟩
    have hb9 : Below w8.heap.size w8 w9 := by rw [hw9]; exact bel_alloc (Below.refl _ _) _
    have K9 : Hid (w9.heap[w8.heap.size]? = some (.cells #[.int .i64 Q.ep, .slice u1 n1 c1, .slice u2 n2 c2, .slice u3 n3 c3, .slice u4 n4 c4, .slice u5 n5 c5, .int .i64 Q.dp, .int .i64 Q.nd, .int .i64 Q.bt] 25 (0, 0))) := hide (by rw [hw9]; exact new_block _ _ _)
    have H9 := hide (H8.out.keep hb9)
    have HV9 := hide (HV.out.below hb9)
    have HTH : Hid (w9.there w2.heap.size 6 9) := hide (fun j hj => by
      have h1 := H9.out.b2
      constructor
      · match j, hj with
        | 0, _ => exact Option.isSome_iff_exists.2 ⟨_, tag_cell h1 6 _ rfl⟩
        | 1, _ => exact Option.isSome_iff_exists.2 ⟨_, tag_cell h1 7 _ rfl⟩
        | 2, _ => exact Option.isSome_iff_exists.2 ⟨_, tag_cell h1 8 _ rfl⟩
        | 3, _ => exact Option.isSome_iff_exists.2 ⟨_, tag_cell h1 9 _ rfl⟩
        | 4, _ => exact Option.isSome_iff_exists.2 ⟨_, tag_cell h1 10 _ rfl⟩
        | 5, _ => exact Option.isSome_iff_exists.2 ⟨_, tag_cell h1 11 _ rfl⟩
        | 6, _ => exact Option.isSome_iff_exists.2 ⟨_, tag_cell h1 12 _ rfl⟩
        | 7, _ => exact Option.isSome_iff_exists.2 ⟨_, tag_cell h1 13 _ rfl⟩
        | 8, _ => exact Option.isSome_iff_exists.2 ⟨_, tag_cell h1 14 _ rfl⟩
      · exact etag_free h1 _)
    clear hv hb8 hb9 C8 y0 yx HV
    go_upto_region 10 with fail
    rw [← hw9]
    clear hw9
    go_step
    refine wpList_load_row rfl 25 _ rfl w8.heap.size rfl 25 #[.int .i64 Q.ep, .slice u1 n1 c1, .slice u2 n2 c2, .slice u3 n3 c3, .slice u4 n4 c4, .slice u5 n5 c5, .int .i64 Q.dp, .int .i64 Q.nd, .int .i64 Q.bt] (0, 0) _ K9.out Tryz.underlying25 rfl (by kernel_rfl) ?_
    go_step
    rename_i kk
    go_simp
    refine kk _ _ ?_
    clear kk
    refine wpList_store_mid rfl 25 _ _ rfl w2.heap.size 6 #[.int .i64 Q.ep, .slice u1 n1 c1, .slice u2 n2 c2, .slice u3 n3 c3, .slice u4 n4 c4, .slice u5 n5 c5, .int .i64 Q.dp, .int .i64 Q.nd, .int .i64 Q.bt] rfl rfl HTH.out (by kernel_rfl) (by simp [Value.oneCell']) ?_
    clear K9
    obtain ⟨w10, hw10⟩ : ∃ w10, w10 = w9.setCells w2.heap.size 6 (#[.int .i64 Q.ep, .slice u1 n1 c1, .slice u2 n2 c2, .slice u3 n3 c3, .slice u4 n4 c4, .slice u5 n5 c5, .int .i64 Q.dp, .int .i64 Q.nd, .int .i64 Q.bt] : Array Value).toList := ⟨_, rfl⟩
    have DB10 : Hid (DB w w2.heap.size #[.int .i64 k, .int .i64 f, .int .i64 t, .int .i64 ep, .slice none 0 0, .slice none 0 0, .int .i64 Q.ep, .slice u1 n1 c1, .slice u2 n2 c2, .slice u3 n3 c3, .slice u4 n4 c4, .slice u5 n5 c5, .int .i64 Q.dp, .int .i64 Q.nd, .int .i64 Q.bt] w10) := hide (by
      rw [hw10]
      refine ⟨H9.out.lt, ?_, ?_, ?_⟩
      · rw [setCells_other (show w.heap.size ≠ w2.heap.size by have := H9.out.lt; omega)]
        exact H9.out.b0
      · exact block9 _ _ _ _ _ _ _ _ _ _ _ _ _ _ _ _ _ _ _ _ _ _ _ _ H9.out.b2
      · exact setCells_below (Nat.le_of_lt H9.out.lt) _ _ _ H9.out.bel)
    have MV10 : Hid (MV w10 ⟨k, f, t, ep, [], [], Q⟩ (.slice none 0 0) (.slice none 0 0) (.slice u1 n1 c1) (.slice u2 n2 c2) (.slice u3 n3 c3) (.slice u4 n4 c4) (.slice u5 n5 c5) [] [] l1 l2 l3 l4 l5) := hide (by
      have h0 : MV w9 ⟨k, f, t, ep, [], [], Q⟩ (.slice none 0 0) (.slice none 0 0) (.slice u1 n1 c1) (.slice u2 n2 c2) (.slice u3 n3 c3) (.slice u4 n4 c4) (.slice u5 n5 c5) [] [] l1 l2 l3 l4 l5 := ⟨strArg_nil _, postRow_nil _, HV9.out, rfl, rfl, HF.out, by simp, by simp⟩
      exact h0.at' H9.out.b2 (noS_msg _ _ _ _ _ _ _ _ none none none none none none none 0 0 0 0 0 0 0 0 0 0 0 0 0 0) (fun j hj => by rw [hw10]; exact setCells_other hj _ _ _) (HG.out.below DB10.out.bel))
    rw [← hw10]
    clear hw10 H9 HTH HV9 HF
    have y0 := tag_cell DB10.out.b2 0 _ rfl
    go_wp2_with fail
    go_loopg [10] 0 (fun g v10 wr => v10 = .int .i64 0 ∧ wr = w10)
    case atStart => exact ⟨rfl, rfl⟩
    case round =>
      obtain ⟨hv10, hwr⟩ := hrel
      subst hv10
      have hwr' := hwr.symm
      clear hwr
      subst hwr'
      go_upto_region 19 with fail
      clear y0
      obtain ⟨wt, hwt⟩ : ∃ wt, wt = w10 := ⟨_, rfl⟩
      have DBT : Hid (DB w w2.heap.size #[.int .i64 k, .int .i64 f, .int .i64 t, .int .i64 ep, .slice none 0 0, .slice none 0 0, .int .i64 Q.ep, .slice u1 n1 c1, .slice u2 n2 c2, .slice u3 n3 c3, .slice u4 n4 c4, .slice u5 n5 c5, .int .i64 Q.dp, .int .i64 Q.nd, .int .i64 Q.bt] wt) := hide (by rw [hwt]; exact DB10.out)
      have HMV3 : Hid (MV wt ⟨k, f, t, ep, [], [], Q⟩ (.slice none 0 0) (.slice none 0 0) (.slice u1 n1 c1) (.slice u2 n2 c2) (.slice u3 n3 c3) (.slice u4 n4 c4) (.slice u5 n5 c5) [] [] l1 l2 l3 l4 l5) := hide (by rw [hwt]; exact MV10.out)
      rw [← hwt]
      clear hwt DB10 MV10 DBI M6 HB6 K2 HB2 hk1 hk2 hk3 f1 f2 f3 e1 e2 e3
      have N3 := hide DBT.out.b2
      have K3 := hide DBT.out.b0
      have HB3 := hide DBT.out.bel
      clear DBT
      have y0 := tag_cell N3.out 0 _ rfl
      have y1 := tag_cell N3.out 1 _ rfl
      have y2 := tag_cell N3.out 2 _ rfl
      have y3 := tag_cell N3.out 3 _ rfl
      have y4 := tag_cell N3.out 4 _ rfl
      have y5 := tag_cell N3.out 5 _ rfl
      have y6 := tag_cell N3.out 6 _ rfl
      have y7 := tag_cell N3.out 7 _ rfl
      have y8 := tag_cell N3.out 8 _ rfl
      have y9 := tag_cell N3.out 9 _ rfl
      have y10 := tag_cell N3.out 10 _ rfl
      have y11 := tag_cell N3.out 11 _ rfl
      have y12 := tag_cell N3.out 12 _ rfl
      have y13 := tag_cell N3.out 13 _ rfl
      have y14 := tag_cell N3.out 14 _ rfl
      have C3 := hide (mencode_any (⟨k, f, t, ep, [], [], Q⟩) _ _ _ _ _ _ _ [] [] l1 l2 l3 l4 l5 wt HMV3.out)
      go_wp2_with fail
      refine C3.out.mono ?_
      rintro e w4 ⟨hq, hb4⟩
      have N4 : Hid (w4.heap[w2.heap.size]? = some (.cells #[.int .i64 k, .int .i64 f, .int .i64 t, .int .i64 ep, .slice none 0 0, .slice none 0 0, .int .i64 Q.ep, .slice u1 n1 c1, .slice u2 n2 c2, .slice u3 n3 c3, .slice u4 n4 c4, .slice u5 n5 c5, .int .i64 Q.dp, .int .i64 Q.nd, .int .i64 Q.bt] 27 (0, 0))) := hide ((hb4.block _ (Array.getElem?_eq_some_iff.1 N3.out).1).trans N3.out)
      have K4 : Hid (w4.heap[w.heap.size]? = some (.cells zmsg 27 (0, 0))) := hide ((hb4.block _ (Array.getElem?_eq_some_iff.1 K3.out).1).trans K3.out)
      have HB4 : Hid (Below w.heap.size w w4) := hide (HB3.out.trans (hb4.mono HB3.out.size))
      have HMV4 := hide (HMV3.out.below hb4)
      clear y0 y1 y2 y3 y4 y5 y6 y7 y8 y9 y10 y11 y12 y13 y14 C3 N3 K3 HB3 HMV3 hb4
      have HBAD : Hid (¬ (MRight (⟨k, f, t, ep, [], [], Q⟩) ∧ textM (⟨k, f, t, ep, [], [], Q⟩) = bl s) → Dcd (bl s) Ms.zero 2) := hide (fun hn => .inr ⟨fun m' h e => hn (by rw [← CAND.out m' h e]; exact ⟨h, e⟩), rfl, l, [], HFL0.out, rfl⟩)
      rcases hq with ⟨hR, rfl⟩ | ⟨hR, rfl⟩
      · obtain ⟨T, hT⟩ : ∃ T : ByteArray, T = ⟨(textM (⟨k, f, t, ep, [], [], Q⟩)).toArray⟩ := ⟨_, rfl⟩
        have hTb : bl T = textM (⟨k, f, t, ep, [], [], Q⟩) := by rw [hT]
        rw [← hT]
        by_cases he : bl T = bl s
        · have q1' := beq_same he
          have q2' : (T.toList != s.toList) = false := by rw [bne, q1']; rfl
          have HD : Hid (Dcd (bl s) (⟨k, f, t, ep, [], [], Q⟩) 0) := hide (.inl ⟨hR, by rw [← hTb, he], rfl⟩)
          clear he hTb hT hR HBAD CAND
          go_upto_region 22 with fail
          go_step
          refine wpList_load_row rfl 27 _ rfl w2.heap.size rfl 27 #[.int .i64 k, .int .i64 f, .int .i64 t, .int .i64 ep, .slice none 0 0, .slice none 0 0, .int .i64 Q.ep, .slice u1 n1 c1, .slice u2 n2 c2, .slice u3 n3 c3, .slice u4 n4 c4, .slice u5 n5 c5, .int .i64 Q.dp, .int .i64 Q.nd, .int .i64 Q.bt] (0, 0) _ N4.out Tryz.underlying27 rfl (by kernel_rfl) ?_
          refine wpList_store_row rfl 27 _ _ rfl w.heap.size #[.int .i64 k, .int .i64 f, .int .i64 t, .int .i64 ep, .slice none 0 0, .slice none 0 0, .int .i64 Q.ep, .slice u1 n1 c1, .slice u2 n2 c2, .slice u3 n3 c3, .slice u4 n4 c4, .slice u5 n5 c5, .int .i64 Q.dp, .int .i64 Q.nd, .int .i64 Q.bt] rfl rfl 27 zmsg K4.out (by kernel_rfl) rfl (by simp [Value.oneCell']) ?_
          obtain ⟨w5, hw5⟩ : ∃ w5, w5 = w4.setRow w.heap.size #[.int .i64 k, .int .i64 f, .int .i64 t, .int .i64 ep, .slice none 0 0, .slice none 0 0, .int .i64 Q.ep, .slice u1 n1 c1, .slice u2 n2 c2, .slice u3 n3 c3, .slice u4 n4 c4, .slice u5 n5 c5, .int .i64 Q.dp, .int .i64 Q.nd, .int .i64 Q.bt] := ⟨_, rfl⟩
          have K5 : Hid (w5.heap[w.heap.size]? = some (.cells #[.int .i64 k, .int .i64 f, .int .i64 t, .int .i64 ep, .slice none 0 0, .slice none 0 0, .int .i64 Q.ep, .slice u1 n1 c1, .slice u2 n2 c2, .slice u3 n3 c3, .slice u4 n4 c4, .slice u5 n5 c5, .int .i64 Q.dp, .int .i64 Q.nd, .int .i64 Q.bt] 27 (0, 0))) := hide (by rw [hw5]; exact setRow_heap _ _ _ _ _ _ K4.out)
          have B5 : Hid (Below w.heap.size w w5) := hide (by rw [hw5]; exact below_row HB4.out (Nat.le_refl _) _)
          have M5 := hide (HMV4.out.at' (w' := w5) K4.out noS_zmsg (fun j hj => by rw [hw5]; exact setRow_other _ _ _ _ hj) (HG.out.below B5.out))
          rw [← hw5]
          clear hw5 K4 N4 HMV4 HB4 q1' q2'
          go_wp2_with fail
          refine bodyPost_ret (results_row_tmp rfl _ _ w.heap.size 27 #[.int .i64 k, .int .i64 f, .int .i64 t, .int .i64 ep, .slice none 0 0, .slice none 0 0, .int .i64 Q.ep, .slice u1 n1 c1, .slice u2 n2 c2, .slice u3 n3 c3, .slice u4 n4 c4, .slice u5 n5 c5, .int .i64 Q.dp, .int .i64 Q.nd, .int .i64 Q.bt] (0, 0) _ rfl K5.out Tryz.underlying27 rfl (by kernel_rfl)) rfl ?_
          exact ⟨⟨(⟨k, f, t, ep, [], [], Q⟩), 0, _, _, _, _, _, _, _, [], [], l1, l2, l3, l4, l5, rfl, M5.out, HD.out⟩, B5.out⟩
        · have q1' := beq_ne he
          have q2' : (T.toList != s.toList) = true := by rw [bne, q1']; rfl
          have HD := hide (HBAD.out (fun h => he (by rw [hTb, h.2])))
          clear he hTb hT hR HBAD CAND HMV4 N4
          go_upto_region 21 with fail
          go_step
          go_step
          rename_i kk
          go_simp
          refine kk _ _ ?_
          clear kk
          refine wpList_store_row rfl 27 _ _ rfl w.heap.size zmsg rfl rfl 27 _ K4.out (by kernel_rfl) rfl (by simp [Value.oneCell']) ?_
          obtain ⟨w6, hw6⟩ : ∃ w6, w6 = w4.setRow w.heap.size zmsg := ⟨_, rfl⟩
          have K6 : Hid (w6.heap[w.heap.size]? = some (.cells zmsg 27 (0, 0))) := hide (by rw [hw6]; exact setRow_heap _ _ _ _ _ _ K4.out)
          have B6 : Hid (Below w.heap.size w w6) := hide (by rw [hw6]; exact below_row HB4.out (Nat.le_refl _) _)
          rw [← hw6]
          clear hw6 K4 HB4
          go_wp2_with fail
          refine bodyPost_ret (results_row_tmp rfl _ _ w.heap.size 27 zmsg (0, 0) _ rfl K6.out Tryz.underlying27 rfl (by kernel_rfl)) rfl ?_
          exact ⟨⟨Ms.zero, 2, _, _, _, _, _, _, _, [], [], [], [], [], [], [], rfl, MV.bare 0 0 0 0 (HG.out.below B6.out), HD.out⟩, B6.out⟩
      · have HD := hide (HBAD.out (fun h => hR h.1))
        clear hR HBAD CAND HMV4 N4
        go_upto_region 21 with fail
        go_step
        go_step
        rename_i kk
        go_simp
        refine kk _ _ ?_
        clear kk
        refine wpList_store_row rfl 27 _ _ rfl w.heap.size zmsg rfl rfl 27 _ K4.out (by kernel_rfl) rfl (by simp [Value.oneCell']) ?_
        obtain ⟨w6, hw6⟩ : ∃ w6, w6 = w4.setRow w.heap.size zmsg := ⟨_, rfl⟩
        have K6 : Hid (w6.heap[w.heap.size]? = some (.cells zmsg 27 (0, 0))) := hide (by rw [hw6]; exact setRow_heap _ _ _ _ _ _ K4.out)
        have B6 : Hid (Below w.heap.size w w6) := hide (by rw [hw6]; exact below_row HB4.out (Nat.le_refl _) _)
        rw [← hw6]
        clear hw6 K4 HB4
        go_wp2_with fail
        refine bodyPost_ret (results_row_tmp rfl _ _ w.heap.size 27 zmsg (0, 0) _ rfl K6.out Tryz.underlying27 rfl (by kernel_rfl)) rfl ?_
        exact ⟨⟨Ms.zero, 2, _, _, _, _, _, _, _, [], [], [], [], [], [], [], rfl, MV.bare 0 0 0 0 (HG.out.below B6.out), HD.out⟩, B6.out⟩
  have e1 : (k == 1) = false := beq_eq_false_iff_ne.2 hk1
  have f1 : decide (k = 1) = false := decide_eq_false hk1
  have e2 : (k == 2) = false := beq_eq_false_iff_ne.2 hk2
  have f2 : decide (k = 2) = false := decide_eq_false hk2
  have e3 : (k == 3) = false := beq_eq_false_iff_ne.2 hk3
  have f3 : decide (k = 3) = false := decide_eq_false hk3
  have CAND : Hid (∀ m', MRight m' → textM m' = bl s → m' = ⟨k, f, t, ep, [], [], Pol.zero⟩) := hide (fun m' h e => by
    obtain ⟨c0, c1, c2, c3, _⟩ := cand_head HFL0.out HL.out h e
    obtain ⟨g0, g1, g2, g3⟩ := HKS.out
    exact Ms.ext' (c0.trans g0.symm) (c1.trans g1.symm) (c2.trans g2.symm) (c3.trans g3.symm) (h.ids (by rw [c0, ← g0]; exact hk1)) (h.posts (by rw [c0, ← g0]; exact hk2)) (h.pol (by rw [c0, ← g0]; exact hk3)))
  have y0 := tag_cell M6.out 0 _ rfl
  clear S7 SR HC HV HCP HX8 HKS
  go_wp2_with fail
  go_loopg [10] 0 (fun g v10 wr => v10 = .int .i64 0 ∧ wr = w3)
  case atStart => exact ⟨rfl, rfl⟩
  case round =>
    obtain ⟨hv10, hwr⟩ := hrel
    subst hv10
    have hwr' := hwr.symm
    clear hwr
    subst hwr'
    go_upto_region 19 with fail
    clear y0
    have DB3 := DBI
    obtain ⟨wt, hwt⟩ : ∃ wt, wt = w3 := ⟨_, rfl⟩
    have DBT : Hid (DB w w2.heap.size #[.int .i64 k, .int .i64 f, .int .i64 t, .int .i64 ep, .slice none 0 0, .slice none 0 0, .int .i64 0, .slice none 0 0, .slice none 0 0, .slice none 0 0, .slice none 0 0, .slice none 0 0, .int .i64 0, .int .i64 0, .int .i64 0] wt) := hide (by rw [hwt]; exact DB3.out)
    have HMV3 : Hid (MV wt ⟨k, f, t, ep, [], [], Pol.zero⟩ (.slice none 0 0) (.slice none 0 0) (.slice none 0 0) (.slice none 0 0) (.slice none 0 0) (.slice none 0 0) (.slice none 0 0) [] [] [] [] [] [] []) := hide (by rw [hwt]; exact MV.bare k f t ep (HG.out.below DB3.out.bel))
    rw [← hwt]
    clear hwt DB3 DBI M6 HB6 K2 HB2 hk1 hk2 hk3 f1 f2 f3 e1 e2 e3
    have N3 := hide DBT.out.b2
    have K3 := hide DBT.out.b0
    have HB3 := hide DBT.out.bel
    clear DBT
    have y0 := tag_cell N3.out 0 _ rfl
    have y1 := tag_cell N3.out 1 _ rfl
    have y2 := tag_cell N3.out 2 _ rfl
    have y3 := tag_cell N3.out 3 _ rfl
    have y4 := tag_cell N3.out 4 _ rfl
    have y5 := tag_cell N3.out 5 _ rfl
    have y6 := tag_cell N3.out 6 _ rfl
    have y7 := tag_cell N3.out 7 _ rfl
    have y8 := tag_cell N3.out 8 _ rfl
    have y9 := tag_cell N3.out 9 _ rfl
    have y10 := tag_cell N3.out 10 _ rfl
    have y11 := tag_cell N3.out 11 _ rfl
    have y12 := tag_cell N3.out 12 _ rfl
    have y13 := tag_cell N3.out 13 _ rfl
    have y14 := tag_cell N3.out 14 _ rfl
    have C3 := hide (mencode_any (⟨k, f, t, ep, [], [], Pol.zero⟩) _ _ _ _ _ _ _ [] [] [] [] [] [] [] wt HMV3.out)
    go_wp2_with fail
    refine C3.out.mono ?_
    rintro e w4 ⟨hq, hb4⟩
    have N4 : Hid (w4.heap[w2.heap.size]? = some (.cells #[.int .i64 k, .int .i64 f, .int .i64 t, .int .i64 ep, .slice none 0 0, .slice none 0 0, .int .i64 0, .slice none 0 0, .slice none 0 0, .slice none 0 0, .slice none 0 0, .slice none 0 0, .int .i64 0, .int .i64 0, .int .i64 0] 27 (0, 0))) := hide ((hb4.block _ (Array.getElem?_eq_some_iff.1 N3.out).1).trans N3.out)
    have K4 : Hid (w4.heap[w.heap.size]? = some (.cells zmsg 27 (0, 0))) := hide ((hb4.block _ (Array.getElem?_eq_some_iff.1 K3.out).1).trans K3.out)
    have HB4 : Hid (Below w.heap.size w w4) := hide (HB3.out.trans (hb4.mono HB3.out.size))
    have HMV4 := hide (HMV3.out.below hb4)
    clear y0 y1 y2 y3 y4 y5 y6 y7 y8 y9 y10 y11 y12 y13 y14 C3 N3 K3 HB3 HMV3 hb4
    have HBAD : Hid (¬ (MRight (⟨k, f, t, ep, [], [], Pol.zero⟩) ∧ textM (⟨k, f, t, ep, [], [], Pol.zero⟩) = bl s) → Dcd (bl s) Ms.zero 2) := hide (fun hn => .inr ⟨fun m' h e => hn (by rw [← CAND.out m' h e]; exact ⟨h, e⟩), rfl, l, [], HFL0.out, rfl⟩)
    rcases hq with ⟨hR, rfl⟩ | ⟨hR, rfl⟩
    · obtain ⟨T, hT⟩ : ∃ T : ByteArray, T = ⟨(textM (⟨k, f, t, ep, [], [], Pol.zero⟩)).toArray⟩ := ⟨_, rfl⟩
      have hTb : bl T = textM (⟨k, f, t, ep, [], [], Pol.zero⟩) := by rw [hT]
      rw [← hT]
      by_cases he : bl T = bl s
      · have q1' := beq_same he
        have q2' : (T.toList != s.toList) = false := by rw [bne, q1']; rfl
        have HD : Hid (Dcd (bl s) (⟨k, f, t, ep, [], [], Pol.zero⟩) 0) := hide (.inl ⟨hR, by rw [← hTb, he], rfl⟩)
        clear he hTb hT hR HBAD CAND
        go_upto_region 22 with fail
        go_step
        refine wpList_load_row rfl 27 _ rfl w2.heap.size rfl 27 #[.int .i64 k, .int .i64 f, .int .i64 t, .int .i64 ep, .slice none 0 0, .slice none 0 0, .int .i64 0, .slice none 0 0, .slice none 0 0, .slice none 0 0, .slice none 0 0, .slice none 0 0, .int .i64 0, .int .i64 0, .int .i64 0] (0, 0) _ N4.out Tryz.underlying27 rfl (by kernel_rfl) ?_
        refine wpList_store_row rfl 27 _ _ rfl w.heap.size #[.int .i64 k, .int .i64 f, .int .i64 t, .int .i64 ep, .slice none 0 0, .slice none 0 0, .int .i64 0, .slice none 0 0, .slice none 0 0, .slice none 0 0, .slice none 0 0, .slice none 0 0, .int .i64 0, .int .i64 0, .int .i64 0] rfl rfl 27 zmsg K4.out (by kernel_rfl) rfl (by simp [Value.oneCell']) ?_
        obtain ⟨w5, hw5⟩ : ∃ w5, w5 = w4.setRow w.heap.size #[.int .i64 k, .int .i64 f, .int .i64 t, .int .i64 ep, .slice none 0 0, .slice none 0 0, .int .i64 0, .slice none 0 0, .slice none 0 0, .slice none 0 0, .slice none 0 0, .slice none 0 0, .int .i64 0, .int .i64 0, .int .i64 0] := ⟨_, rfl⟩
        have K5 : Hid (w5.heap[w.heap.size]? = some (.cells #[.int .i64 k, .int .i64 f, .int .i64 t, .int .i64 ep, .slice none 0 0, .slice none 0 0, .int .i64 0, .slice none 0 0, .slice none 0 0, .slice none 0 0, .slice none 0 0, .slice none 0 0, .int .i64 0, .int .i64 0, .int .i64 0] 27 (0, 0))) := hide (by rw [hw5]; exact setRow_heap _ _ _ _ _ _ K4.out)
        have B5 : Hid (Below w.heap.size w w5) := hide (by rw [hw5]; exact below_row HB4.out (Nat.le_refl _) _)
        have M5 := hide (HMV4.out.at' (w' := w5) K4.out noS_zmsg (fun j hj => by rw [hw5]; exact setRow_other _ _ _ _ hj) (HG.out.below B5.out))
        rw [← hw5]
        clear hw5 K4 N4 HMV4 HB4 q1' q2'
        go_wp2_with fail
        refine bodyPost_ret (results_row_tmp rfl _ _ w.heap.size 27 #[.int .i64 k, .int .i64 f, .int .i64 t, .int .i64 ep, .slice none 0 0, .slice none 0 0, .int .i64 0, .slice none 0 0, .slice none 0 0, .slice none 0 0, .slice none 0 0, .slice none 0 0, .int .i64 0, .int .i64 0, .int .i64 0] (0, 0) _ rfl K5.out Tryz.underlying27 rfl (by kernel_rfl)) rfl ?_
        exact ⟨⟨(⟨k, f, t, ep, [], [], Pol.zero⟩), 0, _, _, _, _, _, _, _, [], [], [], [], [], [], [], rfl, M5.out, HD.out⟩, B5.out⟩
      · have q1' := beq_ne he
        have q2' : (T.toList != s.toList) = true := by rw [bne, q1']; rfl
        have HD := hide (HBAD.out (fun h => he (by rw [hTb, h.2])))
        clear he hTb hT hR HBAD CAND HMV4 N4
        go_upto_region 21 with fail
        go_step
        go_step
        rename_i kk
        go_simp
        refine kk _ _ ?_
        clear kk
        refine wpList_store_row rfl 27 _ _ rfl w.heap.size zmsg rfl rfl 27 _ K4.out (by kernel_rfl) rfl (by simp [Value.oneCell']) ?_
        obtain ⟨w6, hw6⟩ : ∃ w6, w6 = w4.setRow w.heap.size zmsg := ⟨_, rfl⟩
        have K6 : Hid (w6.heap[w.heap.size]? = some (.cells zmsg 27 (0, 0))) := hide (by rw [hw6]; exact setRow_heap _ _ _ _ _ _ K4.out)
        have B6 : Hid (Below w.heap.size w w6) := hide (by rw [hw6]; exact below_row HB4.out (Nat.le_refl _) _)
        rw [← hw6]
        clear hw6 K4 HB4
        go_wp2_with fail
        refine bodyPost_ret (results_row_tmp rfl _ _ w.heap.size 27 zmsg (0, 0) _ rfl K6.out Tryz.underlying27 rfl (by kernel_rfl)) rfl ?_
        exact ⟨⟨Ms.zero, 2, _, _, _, _, _, _, _, [], [], [], [], [], [], [], rfl, MV.bare 0 0 0 0 (HG.out.below B6.out), HD.out⟩, B6.out⟩
    · have HD := hide (HBAD.out (fun h => hR h.1))
      clear hR HBAD CAND HMV4 N4
      go_upto_region 21 with fail
      go_step
      go_step
      rename_i kk
      go_simp
      refine kk _ _ ?_
      clear kk
      refine wpList_store_row rfl 27 _ _ rfl w.heap.size zmsg rfl rfl 27 _ K4.out (by kernel_rfl) rfl (by simp [Value.oneCell']) ?_
      obtain ⟨w6, hw6⟩ : ∃ w6, w6 = w4.setRow w.heap.size zmsg := ⟨_, rfl⟩
      have K6 : Hid (w6.heap[w.heap.size]? = some (.cells zmsg 27 (0, 0))) := hide (by rw [hw6]; exact setRow_heap _ _ _ _ _ _ K4.out)
      have B6 : Hid (Below w.heap.size w w6) := hide (by rw [hw6]; exact below_row HB4.out (Nat.le_refl _) _)
      rw [← hw6]
      clear hw6 K4 HB4
      go_wp2_with fail
      refine bodyPost_ret (results_row_tmp rfl _ _ w.heap.size 27 zmsg (0, 0) _ rfl K6.out Tryz.underlying27 rfl (by kernel_rfl)) rfl ?_
      exact ⟨⟨Ms.zero, 2, _, _, _, _, _, _, _, [], [], [], [], [], [], [], rfl, MV.bare 0 0 0 0 (HG.out.below B6.out), HD.out⟩, B6.out⟩
end Go.Proofs.YtebcpmgooodmpaaGreatDoor
