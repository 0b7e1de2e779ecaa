/-
  The document's builder: put.
-/
import Derived.Test.YtkdppcpkigpmdaaR22
namespace Go.Proofs.Ytkdppcpkigpmdaa
open Go.RowKit
open Utf1

theorem bl_same (b : ByteArray) : (⟨(bl b).toArray⟩ : ByteArray) = b := by cases b; simp [bl]
theorem infoFlat : (Try.prog.info? 69).map (fun i => (i.zero, i.size, i.bytes)) = some (some (.agg #[.string ⟨#[]⟩, .slice none 0 0, .string ⟨#[]⟩, .slice none 0 0, .int .i64 0]), 5, 88) := by kernel_rfl
theorem fl_one (a t : ByteArray) (p : Option Addr) (m c : Nat) (u : Int) : ∀ x ∈ #[Value.string a, .slice p m c, .string t, .slice none 0 0, .int .i64 u].toList, x.oneCell' = true := by
  intro x hx
  simp only [List.mem_cons, List.not_mem_nil, or_false] at hx
  rcases hx with rfl | rfl | rfl | rfl | rfl <;> rfl
theorem FB.row {w : World} {base R : Nat} {fl : List Fl} {op : List Nat} {bad : Bool} {lv ov : Value} (h : FB w base R fl op bad) (hR : RB w R lv ov bad) : w.ownsRow base 69 5 lv fl.length (flCells fl) := by
  obtain ⟨_, _, lv', ov', h3, h4, _⟩ := h
  have e : lv' = lv ∧ ov' = ov := by
    unfold RB at h3 hR
    rw [h3] at hR
    simpa using hR
  rw [← e.1]
  exact h4
theorem FB.ops {w : World} {base R : Nat} {fl : List Fl} {op : List Nat} {bad : Bool} {lv ov : Value} (h : FB w base R fl op bad) (hR : RB w R lv ov bad) : w.ownsRow base 3 1 ov op.length (opCells op) := by
  obtain ⟨_, _, lv', ov', h3, _, h4⟩ := h
  have e : lv' = lv ∧ ov' = ov := by
    unfold RB at h3 hR
    rw [h3] at hR
    simpa using hR
  rw [← e.2]
  exact h4
/-- One node more. -/
theorem app_fb {w w5 : World} {base R : Nat} {fl : List Fl} {op : List Nat} {bad : Bool} {lv ov v' : Value} {f : Fl} (h : FB w base R fl op bad) (hR : RB w R lv ov bad) (hown : w5.ownsRow base 69 5 v' (fl.length + 1) (flCells fl ++ flCells1 f)) (hgr : w.grownBy w5 lv.ownBlock) :
    RB w5 R lv ov bad ∧ FB (w5.setCell ⟨R, 0, none⟩ v') base R (fl ++ [f]) op bad ∧ Bel base w (w5.setCell ⟨R, 0, none⟩ v') := by
  have hro := h.row hR
  have hop := h.ops hR
  have hoB : lv.ownBlock ≠ some R := own_apart hro hR (by decide)
  have hR5 : RB w5 R lv ov bad := (hgr.block _ (lt_of_block hR) (fun e => hoB e.symm)).trans hR
  have hbel : Below base w w5 := (Below.refl base w).grown hgr h.2.1 (fun j hj => (hro.lt j hj).1)
  have hop5 : w5.ownsRow base 3 1 ov op.length (opCells op) := by
    refine own_stays (S := blk lv) hop ?_ ?_
    · intro k hk hm
      exact hgr.block k hk (fun e => hm (by unfold blk; rw [← e]; simp))
    · intro k hk hm
      exact own_two_ne hop hro (by decide) hk (by unfold blk at hm; simpa using hm)
  refine ⟨hR5, ⟨h.1, by simpa using Nat.le_trans h.2.1 hbel.size, v', ov, (rb_set hR5 v').1, ?_, own_set hop5 hR5 (by decide) 0 _⟩, (Bel.grown hgr h.2.1 hro (by decide)).trans (Bel.set hR5 (by decide) h.1 0 _)⟩
  have e : flCells (fl ++ [f]) = flCells fl ++ flCells1 f := by
    rw [flCells_app]
    show _ ++ (flCells1 f ++ []) = _
    rw [List.append_nil]
  rw [List.length_append, e]
  exact own_set hown hR5 (by decide) 0 _
theorem rb_bad {w : World} {R : Nat} {lv ov : Value} {bad : Bool} (h : RB w R lv ov bad) (b : Bool) : RB (w.setCell ⟨R, 2, none⟩ (.bool b)) R lv ov b := tok_set h 2 _
theorem FB.setBad {w : World} {base R : Nat} {fl : List Fl} {op : List Nat} {bad : Bool} (h : FB w base R fl op bad) (b : Bool) : FB (w.setCell ⟨R, 2, none⟩ (.bool b)) base R fl op b := by
  obtain ⟨h1, h2, lv, ov, h3, h4, h5⟩ := h
  exact ⟨h1, by simpa using h2, lv, ov, rb_bad h3 b, own_set h4 h3 (by decide) 2 _, own_set h5 h3 (by decide) 2 _⟩

set_option maxRecDepth 100000 in
set_option maxHeartbeats 8000000 in
theorem rput_st (w : World) (base R : Nat) (fl : List Fl) (op : List Nat) (bad : Bool) (name text : ByteArray) (ap : Option Addr) (am ac : Nat) (at' : List (List UInt8 × List UInt8)) (h : FB w base R fl op bad) (hl : op.length ≤ 100000) (hlf : fl.length ≤ 100000) :
    Calls Try.prog 38 #[.pointer (some ⟨R, 0, none⟩), .agg #[.string name, .slice ap am ac, .string text, .slice none 0 0]] w fun e w' => e = .returned (.tuple #[]) ∧ FB w' base R (fl ++ [⟨bl name, at', bl text, hereF op, ap, am, ac⟩]) op (bad || decide (2000 < fl.length + 1)) ∧ Bel base w w' := by
  obtain ⟨i0, hi, hz0, hz1, hz2⟩ := info_parts infoFlat
  obtain ⟨u, hu⟩ : ∃ u, u = hereF op := ⟨_, rfl⟩
  rw [← hu]
  have HU := hide hu
  obtain ⟨N, hN⟩ : ∃ N, N = w.heap.size := ⟨_, rfl⟩
  obtain ⟨w1, hw1⟩ : ∃ w1, w1 = w.alloc (.cells #[.string name, .slice ap am ac, .string text, .slice none 0 0] 40) := ⟨_, rfl⟩
  have hb1 : Below w.heap.size w w1 := by rw [hw1]; exact (Below.refl _ _).alloc (Nat.le_refl _) _
  obtain ⟨wd, hwd⟩ : ∃ wd, wd = w1.drew := ⟨_, rfl⟩
  have hbd : Below w1.heap.size w1 wd := by rw [hwd]; exact bel_one _
  have hfd := (h.under hb1).under hbd
  have HB := hide ((Bel.of hb1 h.2.1).trans (Bel.of hbd (h.under hb1).2.1))
  have HSZ := hide hfd.2.1
  obtain ⟨lp, lc, pp, pc, hR, -, -⟩ := hfd.reads
  obtain ⟨M, hM⟩ : ∃ M, M = fl.length := ⟨_, rfl⟩
  have c0 : wd.cell? ⟨R, 0, none⟩ = some (.slice lp fl.length lc) := tag_cell hR 0 _ rfl
  rw [← hM] at c0 hlf ⊢
  have HM := hide hM
  have m := four_new w (.string name) (.slice ap am ac) (.string text) (.slice none 0 0) 40
  rw [← hw1, ← hN] at m
  have n0 : wd.cell? ⟨N, 0, none⟩ = some (.string name) := by rw [hwd]; exact m 0 _ rfl
  have n1 : wd.cell? ⟨N, 1, none⟩ = some (.slice ap am ac) := by rw [hwd]; exact m 1 _ rfl
  have n2 : wd.cell? ⟨N, 2, none⟩ = some (.string text) := by rw [hwd]; exact m 2 _ rfl
  have n3 : wd.cell? ⟨N, 3, none⟩ = some (.slice none 0 0) := by rw [hwd]; exact m 3 _ rfl
  have HFB := hide hfd
  have hd0 : (2000 < M + 1) = (2000 < M + 1) := rfl
  clear h hb1 hbd hfd hR m hu hM hd0
  go_enter Try.func38, Try.ntmps38
  go_wp2_with fail
  rw [← hw1, ← hN]
  clear hw1 hN
  refine wp_region_any (by kernel_rfl) ?_
  try (change wpAny _ _ _ _ _ _ _ (World.drew _))
  rw [← hwd]
  clear hwd
  refine wpAny_to (i := 0) (v := .pointer (some ⟨R, 0, none⟩)) (a' := ?ax0q1) rfl (by kernel_rfl) (by kernel_rfl) (by kernel_rfl) (fun _ _ _ h => h) (Or.inl ⟨by rfl, ?yi⟩) ?ha ?_
  case yi => intro w; go_simp
  case ha => go_simp; try exact rfl
  refine wpAny_to (i := 1) (v := .pointer (some ⟨R, 0, none⟩)) (a' := ?ax1q2) rfl (by kernel_rfl) (by kernel_rfl) (by kernel_rfl) (fun _ _ _ h => h) (Or.inl ⟨by rfl, ?yi⟩) ?ha ?_
  case yi => intro w; go_simp
  case ha => go_simp; try exact rfl
  refine wpAny_to (i := 2) (v := .pointer (some ⟨R, 0, none⟩)) (a' := ?ax2q3) rfl (by kernel_rfl) (by kernel_rfl) (by kernel_rfl) (fun _ _ _ h => h) (Or.inl ⟨by rfl, ?yi⟩) ?ha ?_
  case yi => intro w; go_simp
  case ha => go_simp; try exact rfl
  refine wpAny_to (i := 3) (v := .pointer (some ⟨R, 0, none⟩)) (a' := ?ax3q4) rfl (by kernel_rfl) (by kernel_rfl) (by kernel_rfl) (fun _ _ _ h => h) (Or.inl ⟨by rfl, ?yi⟩) ?ha ?_
  case yi => intro w; go_simp
  case ha => go_simp; try exact rfl
  refine wpAny_to (i := 6) (v := .pointer (some ⟨R, 0, none⟩)) (a' := ?ax6q5) rfl (by kernel_rfl) (by kernel_rfl) (by kernel_rfl) (fun _ _ _ h => h) (Or.inl ⟨by rfl, ?yi⟩) ?ha ?_
  case yi => intro w; go_simp
  case ha => go_simp; try exact rfl
  refine wpAny_ready (rs := [4, 5, 7]) (by kernel_rfl) (by simp) ?_
  refine AllReady.cons rfl (fun K hK => ?_) (AllReady.cons rfl (fun K hK => ?_) (AllReady.cons rfl (fun K hK => ?_) AllReady.nil))
  · go_simp
    go_wp2_with fail
    refine wpAny_ready (rs := [5, 7]) (by kernel_rfl) (by simp) ?_
    refine AllReady.cons rfl (fun K hK => ?_) (AllReady.cons rfl (fun K hK => ?_) AllReady.nil)
    · go_simp
      go_wp2_with fail
      refine wpAny_ready (rs := [7]) (by kernel_rfl) (by simp) ?_
      refine AllReady.cons rfl (fun K hK => ?_) AllReady.nil
      go_simp
      go_wp2_with fail
      refine (here_st _ base R fl op bad HFB.out hl).mono ?_
      rintro e wn ⟨rfl, kn, hkn⟩
      have hbn : Below wd.heap.size wd wn := by rw [hkn]; exact bel_drewN _ _
      replace c0 := cell_keep c0 hbn
      replace n0 := cell_keep n0 hbn
      replace n1 := cell_keep n1 hbn
      replace n2 := cell_keep n2 hbn
      replace n3 := cell_keep n3 hbn
      replace HFB := hide (HFB.out.under hbn)
      replace HB := hide (HB.out.trans (Bel.of hbn HSZ.out))
      clear hbn hkn
      rw [← HU.out]
      go_wp2_with fail
      refine wpAny_to (i := 8) (v := .agg #[.string name, .slice ap am ac, .string text, .slice none 0 0, .int .i64 u]) (a' := ?ax8q6) rfl (by kernel_rfl) (by kernel_rfl) (by kernel_rfl) (fun _ _ _ h => h) (Or.inl ⟨by rfl, ?yi⟩) ?ha ?_
      case yi => intro w; go_simp
      case ha => go_simp; try exact rfl
      refine wpAny_ready (rs := [9]) (by kernel_rfl) (by simp) ?_
      refine AllReady.cons rfl (fun K hK => ?_) AllReady.nil
      go_simp
      go_wp2_with fail
      have hal : Below wn.heap.size wn (wn.alloc (.cells #[.string name, .slice ap am ac, .string text, .slice none 0 0, .int .i64 u] 69)) := (Below.refl _ _).alloc (Nat.le_refl _) _
      obtain ⟨wa, hwa⟩ : ∃ wa, wa = wn.alloc (.cells #[.string name, .slice ap am ac, .string text, .slice none 0 0, .int .i64 u] 69) := ⟨_, rfl⟩
      have na := five_newA wn #[.string name, .slice ap am ac, .string text, .slice none 0 0, .int .i64 u] 69
      rw [← hwa] at hal na ⊢
      have HNA := hide na
      replace c0 := cell_keep c0 hal
      replace HB := hide (HB.out.trans (Bel.of hal HFB.out.2.1))
      replace HFB := hide (HFB.out.under hal)
      clear hal hwa na n0 n1 n2 n3
      have hfb := HFB.out
      obtain ⟨lp', lc', pp, pc, hR, -, -⟩ := hfb.reads
      have hlv := (tag_cell hR 0 _ rfl).symm.trans c0
      injection hlv with hlv
      injection hlv with hlv1 _ hlv3
      subst hlv1
      subst hlv3
      have hro := hfb.row hR
      rw [← HM.out] at hro
      have HFB2 := hide (And.intro hfb hR)
      have hzz := hfb.2.1
      have hbR := hfb.1
      clear hfb hR HFB
      refine wpAny_ready (rs := [10]) (by kernel_rfl) (by simp) ?_
      refine AllReady.cons rfl (fun K hK => ?_) AllReady.nil
      rw [if_pos (by rfl)]
      refine wp_append_own _ (.tmp 8) (.tmp 13) 54 rfl base 69 i0 _ 5 88 Try.underlying54 hi hz0 hz1 hz2 rfl (by decide) (.slice lp' M lc') M (flCells fl) rfl hro ⟨wn.heap.size, 0, none⟩ 1 1 #[.string name, .slice ap am ac, .string text, .slice none 0 0, .int .i64 u].toList rfl rfl HNA.out (fl_one _ _ _ _ _ _) (by unfold maxLen; omega) (by omega) hzz ?_
      intro v' w5 hown5 hgr5 _
      obtain ⟨bp, bm, bc, rfl⟩ := own_slice hown5
      have e1 : flCells1 ⟨bl name, at', bl text, u, ap, am, ac⟩ = [.string name, .slice ap am ac, .string text, .slice none 0 0, .int .i64 u] := by unfold flCells1; rw [bl_same, bl_same]
      have h5 : w5.ownsRow base 69 5 (.slice bp bm bc) (fl.length + 1) (flCells fl ++ flCells1 ⟨bl name, at', bl text, u, ap, am, ac⟩) := by rw [e1, ← HM.out]; exact hown5
      rw [HM.out] at hgr5
      have hpf := app_fb HFB2.out.1 HFB2.out.2 h5 hgr5
      clear e1 h5
      obtain ⟨hR5, hfb5, hbl5⟩ := hpf
      have s0 : w5.cell? ⟨R, 0, none⟩ = some (.slice lp' fl.length lc') := tag_cell hR5 0 _ rfl
      have sf := tag_free hR5 0
      rw [← HM.out] at s0
      have HFB3 := hide hfb5
      have HB3 := hide (HB.out.trans hbl5)
      clear hR5 hfb5 hbl5 hown5 hgr5 HFB2 HB hro HNA
      refine hK _ _ ?_
      clear hK K
      refine wpAny_to (i := 11) (v := .pointer (some ⟨R, 0, none⟩)) (a' := ?ax11q7) rfl (by kernel_rfl) (by kernel_rfl) (by kernel_rfl) (fun _ _ _ h => h) (Or.inl ⟨by rfl, ?yi⟩) ?ha ?_
      case yi => intro w; go_simp
      case ha => go_simp; try exact rfl
      refine wpAny_to (i := 12) (v := .pointer (some ⟨R, 0, none⟩)) (a' := ?ax12q8) rfl (by kernel_rfl) (by kernel_rfl) (by kernel_rfl) (fun _ _ _ h => h) (Or.inl ⟨by rfl, ?yi⟩) ?ha ?_
      case yi => intro w; go_simp
      case ha => go_simp; try exact rfl
      refine wpAny_ready (rs := [13]) (by kernel_rfl) (by simp) ?_
      refine AllReady.cons rfl (fun K hK => ?_) AllReady.nil
      go_simp
      go_wp2_with fail
      refine wpAny_done (by kernel_rfl) ?_ _
      obtain ⟨w6, hw6⟩ : ∃ w6, w6 = w5.setCell ⟨R, 0, none⟩ (.slice bp bm bc) := ⟨_, rfl⟩
      rw [← hw6] at HFB3 HB3 ⊢
      obtain ⟨lp6, lc6, pp6, pc6, hR6, -, -⟩ := HFB3.out.reads
      have t0 : w6.cell? ⟨R, 0, none⟩ = some (.slice lp6 (M + 1) lc6) := by
        have := tag_cell hR6 0 _ rfl
        rw [List.length_append, ← HM.out] at this
        exact this
      have t2 : w6.cell? ⟨R, 2, none⟩ = some (.bool bad) := tag_cell hR6 2 _ rfl
      have tf := tag_free hR6 2
      clear hw6 s0 sf
      by_cases hbig : 2000 < M + 1
      · have hd : decide ((2000 : Int) < (M : Int) + 1) = true := decide_eq_true (by omega)
        have HE := hide (And.intro (HFB3.out.setBad true) (HB3.out.trans (Bel.set hR6 (by decide) hbR 2 (.bool true))))
        clear hR6
        go_wp2_with fail
        go_end0
        refine ⟨rfl, ?_⟩
        rw [decide_eq_true (show 2000 < M + 1 by omega), Bool.or_true]
        exact HE.out
      · have hd : decide ((2000 : Int) < (M : Int) + 1) = false := decide_eq_false (by omega)
        clear hR6
        go_wp2_with fail
        go_end0
        refine ⟨rfl, ?_⟩
        rw [decide_eq_false (show ¬ 2000 < M + 1 by omega), Bool.or_false]
        exact ⟨HFB3.out, HB3.out⟩
    · go_simp
      go_wp2_with fail
      refine (here_st _ base R fl op bad HFB.out hl).mono ?_
      rintro e wn ⟨rfl, kn, hkn⟩
      have hbn : Below wd.heap.size wd wn := by rw [hkn]; exact bel_drewN _ _
      replace c0 := cell_keep c0 hbn
      replace n0 := cell_keep n0 hbn
      replace n1 := cell_keep n1 hbn
      replace n2 := cell_keep n2 hbn
      replace n3 := cell_keep n3 hbn
      replace HFB := hide (HFB.out.under hbn)
      replace HB := hide (HB.out.trans (Bel.of hbn HSZ.out))
      clear hbn hkn
      rw [← HU.out]
      go_wp2_with fail
      refine wpAny_ready (rs := [5]) (by kernel_rfl) (by simp) ?_
      refine AllReady.cons rfl (fun K hK => ?_) AllReady.nil
      go_simp
      go_wp2_with fail
      refine wpAny_to (i := 8) (v := .agg #[.string name, .slice ap am ac, .string text, .slice none 0 0, .int .i64 u]) (a' := ?ax8q9) rfl (by kernel_rfl) (by kernel_rfl) (by kernel_rfl) (fun _ _ _ h => h) (Or.inl ⟨by rfl, ?yi⟩) ?ha ?_
      case yi => intro w; go_simp
      case ha => go_simp; try exact rfl
      refine wpAny_ready (rs := [9]) (by kernel_rfl) (by simp) ?_
      refine AllReady.cons rfl (fun K hK => ?_) AllReady.nil
      go_simp
      go_wp2_with fail
      have hal : Below wn.heap.size wn (wn.alloc (.cells #[.string name, .slice ap am ac, .string text, .slice none 0 0, .int .i64 u] 69)) := (Below.refl _ _).alloc (Nat.le_refl _) _
      obtain ⟨wa, hwa⟩ : ∃ wa, wa = wn.alloc (.cells #[.string name, .slice ap am ac, .string text, .slice none 0 0, .int .i64 u] 69) := ⟨_, rfl⟩
      have na := five_newA wn #[.string name, .slice ap am ac, .string text, .slice none 0 0, .int .i64 u] 69
      rw [← hwa] at hal na ⊢
      have HNA := hide na
      replace c0 := cell_keep c0 hal
      replace HB := hide (HB.out.trans (Bel.of hal HFB.out.2.1))
      replace HFB := hide (HFB.out.under hal)
      clear hal hwa na n0 n1 n2 n3
      have hfb := HFB.out
      obtain ⟨lp', lc', pp, pc, hR, -, -⟩ := hfb.reads
      have hlv := (tag_cell hR 0 _ rfl).symm.trans c0
      injection hlv with hlv
      injection hlv with hlv1 _ hlv3
      subst hlv1
      subst hlv3
      have hro := hfb.row hR
      rw [← HM.out] at hro
      have HFB2 := hide (And.intro hfb hR)
      have hzz := hfb.2.1
      have hbR := hfb.1
      clear hfb hR HFB
      refine wpAny_ready (rs := [10]) (by kernel_rfl) (by simp) ?_
      refine AllReady.cons rfl (fun K hK => ?_) AllReady.nil
      rw [if_pos (by rfl)]
      refine wp_append_own _ (.tmp 8) (.tmp 13) 54 rfl base 69 i0 _ 5 88 Try.underlying54 hi hz0 hz1 hz2 rfl (by decide) (.slice lp' M lc') M (flCells fl) rfl hro ⟨wn.heap.size, 0, none⟩ 1 1 #[.string name, .slice ap am ac, .string text, .slice none 0 0, .int .i64 u].toList rfl rfl HNA.out (fl_one _ _ _ _ _ _) (by unfold maxLen; omega) (by omega) hzz ?_
      intro v' w5 hown5 hgr5 _
      obtain ⟨bp, bm, bc, rfl⟩ := own_slice hown5
      have e1 : flCells1 ⟨bl name, at', bl text, u, ap, am, ac⟩ = [.string name, .slice ap am ac, .string text, .slice none 0 0, .int .i64 u] := by unfold flCells1; rw [bl_same, bl_same]
      have h5 : w5.ownsRow base 69 5 (.slice bp bm bc) (fl.length + 1) (flCells fl ++ flCells1 ⟨bl name, at', bl text, u, ap, am, ac⟩) := by rw [e1, ← HM.out]; exact hown5
      rw [HM.out] at hgr5
      have hpf := app_fb HFB2.out.1 HFB2.out.2 h5 hgr5
      clear e1 h5
      obtain ⟨hR5, hfb5, hbl5⟩ := hpf
      have s0 : w5.cell? ⟨R, 0, none⟩ = some (.slice lp' fl.length lc') := tag_cell hR5 0 _ rfl
      have sf := tag_free hR5 0
      rw [← HM.out] at s0
      have HFB3 := hide hfb5
      have HB3 := hide (HB.out.trans hbl5)
      clear hR5 hfb5 hbl5 hown5 hgr5 HFB2 HB hro HNA
      refine hK _ _ ?_
      clear hK K
      refine wpAny_to (i := 11) (v := .pointer (some ⟨R, 0, none⟩)) (a' := ?ax11q10) rfl (by kernel_rfl) (by kernel_rfl) (by kernel_rfl) (fun _ _ _ h => h) (Or.inl ⟨by rfl, ?yi⟩) ?ha ?_
      case yi => intro w; go_simp
      case ha => go_simp; try exact rfl
      refine wpAny_to (i := 12) (v := .pointer (some ⟨R, 0, none⟩)) (a' := ?ax12q11) rfl (by kernel_rfl) (by kernel_rfl) (by kernel_rfl) (fun _ _ _ h => h) (Or.inl ⟨by rfl, ?yi⟩) ?ha ?_
      case yi => intro w; go_simp
      case ha => go_simp; try exact rfl
      refine wpAny_ready (rs := [13]) (by kernel_rfl) (by simp) ?_
      refine AllReady.cons rfl (fun K hK => ?_) AllReady.nil
      go_simp
      go_wp2_with fail
      refine wpAny_done (by kernel_rfl) ?_ _
      obtain ⟨w6, hw6⟩ : ∃ w6, w6 = w5.setCell ⟨R, 0, none⟩ (.slice bp bm bc) := ⟨_, rfl⟩
      rw [← hw6] at HFB3 HB3 ⊢
      obtain ⟨lp6, lc6, pp6, pc6, hR6, -, -⟩ := HFB3.out.reads
      have t0 : w6.cell? ⟨R, 0, none⟩ = some (.slice lp6 (M + 1) lc6) := by
        have := tag_cell hR6 0 _ rfl
        rw [List.length_append, ← HM.out] at this
        exact this
      have t2 : w6.cell? ⟨R, 2, none⟩ = some (.bool bad) := tag_cell hR6 2 _ rfl
      have tf := tag_free hR6 2
      clear hw6 s0 sf
      by_cases hbig : 2000 < M + 1
      · have hd : decide ((2000 : Int) < (M : Int) + 1) = true := decide_eq_true (by omega)
        have HE := hide (And.intro (HFB3.out.setBad true) (HB3.out.trans (Bel.set hR6 (by decide) hbR 2 (.bool true))))
        clear hR6
        go_wp2_with fail
        go_end0
        refine ⟨rfl, ?_⟩
        rw [decide_eq_true (show 2000 < M + 1 by omega), Bool.or_true]
        exact HE.out
      · have hd : decide ((2000 : Int) < (M : Int) + 1) = false := decide_eq_false (by omega)
        clear hR6
        go_wp2_with fail
        go_end0
        refine ⟨rfl, ?_⟩
        rw [decide_eq_false (show ¬ 2000 < M + 1 by omega), Bool.or_false]
        exact ⟨HFB3.out, HB3.out⟩
  · go_simp
    go_wp2_with fail
    refine wpAny_ready (rs := [4, 7]) (by kernel_rfl) (by simp) ?_
    refine AllReady.cons rfl (fun K hK => ?_) (AllReady.cons rfl (fun K hK => ?_) AllReady.nil)
    · go_simp
      go_wp2_with fail
      refine wpAny_ready (rs := [7]) (by kernel_rfl) (by simp) ?_
      refine AllReady.cons rfl (fun K hK => ?_) AllReady.nil
      go_simp
      go_wp2_with fail
      refine (here_st _ base R fl op bad HFB.out hl).mono ?_
      rintro e wn ⟨rfl, kn, hkn⟩
      have hbn : Below wd.heap.size wd wn := by rw [hkn]; exact bel_drewN _ _
      replace c0 := cell_keep c0 hbn
      replace n0 := cell_keep n0 hbn
      replace n1 := cell_keep n1 hbn
      replace n2 := cell_keep n2 hbn
      replace n3 := cell_keep n3 hbn
      replace HFB := hide (HFB.out.under hbn)
      replace HB := hide (HB.out.trans (Bel.of hbn HSZ.out))
      clear hbn hkn
      rw [← HU.out]
      go_wp2_with fail
      refine wpAny_to (i := 8) (v := .agg #[.string name, .slice ap am ac, .string text, .slice none 0 0, .int .i64 u]) (a' := ?ax8q12) rfl (by kernel_rfl) (by kernel_rfl) (by kernel_rfl) (fun _ _ _ h => h) (Or.inl ⟨by rfl, ?yi⟩) ?ha ?_
      case yi => intro w; go_simp
      case ha => go_simp; try exact rfl
      refine wpAny_ready (rs := [9]) (by kernel_rfl) (by simp) ?_
      refine AllReady.cons rfl (fun K hK => ?_) AllReady.nil
      go_simp
      go_wp2_with fail
      have hal : Below wn.heap.size wn (wn.alloc (.cells #[.string name, .slice ap am ac, .string text, .slice none 0 0, .int .i64 u] 69)) := (Below.refl _ _).alloc (Nat.le_refl _) _
      obtain ⟨wa, hwa⟩ : ∃ wa, wa = wn.alloc (.cells #[.string name, .slice ap am ac, .string text, .slice none 0 0, .int .i64 u] 69) := ⟨_, rfl⟩
      have na := five_newA wn #[.string name, .slice ap am ac, .string text, .slice none 0 0, .int .i64 u] 69
      rw [← hwa] at hal na ⊢
      have HNA := hide na
      replace c0 := cell_keep c0 hal
      replace HB := hide (HB.out.trans (Bel.of hal HFB.out.2.1))
      replace HFB := hide (HFB.out.under hal)
      clear hal hwa na n0 n1 n2 n3
      have hfb := HFB.out
      obtain ⟨lp', lc', pp, pc, hR, -, -⟩ := hfb.reads
      have hlv := (tag_cell hR 0 _ rfl).symm.trans c0
      injection hlv with hlv
      injection hlv with hlv1 _ hlv3
      subst hlv1
      subst hlv3
      have hro := hfb.row hR
      rw [← HM.out] at hro
      have HFB2 := hide (And.intro hfb hR)
      have hzz := hfb.2.1
      have hbR := hfb.1
      clear hfb hR HFB
      refine wpAny_ready (rs := [10]) (by kernel_rfl) (by simp) ?_
      refine AllReady.cons rfl (fun K hK => ?_) AllReady.nil
      rw [if_pos (by rfl)]
      refine wp_append_own _ (.tmp 8) (.tmp 13) 54 rfl base 69 i0 _ 5 88 Try.underlying54 hi hz0 hz1 hz2 rfl (by decide) (.slice lp' M lc') M (flCells fl) rfl hro ⟨wn.heap.size, 0, none⟩ 1 1 #[.string name, .slice ap am ac, .string text, .slice none 0 0, .int .i64 u].toList rfl rfl HNA.out (fl_one _ _ _ _ _ _) (by unfold maxLen; omega) (by omega) hzz ?_
      intro v' w5 hown5 hgr5 _
      obtain ⟨bp, bm, bc, rfl⟩ := own_slice hown5
      have e1 : flCells1 ⟨bl name, at', bl text, u, ap, am, ac⟩ = [.string name, .slice ap am ac, .string text, .slice none 0 0, .int .i64 u] := by unfold flCells1; rw [bl_same, bl_same]
      have h5 : w5.ownsRow base 69 5 (.slice bp bm bc) (fl.length + 1) (flCells fl ++ flCells1 ⟨bl name, at', bl text, u, ap, am, ac⟩) := by rw [e1, ← HM.out]; exact hown5
      rw [HM.out] at hgr5
      have hpf := app_fb HFB2.out.1 HFB2.out.2 h5 hgr5
      clear e1 h5
      obtain ⟨hR5, hfb5, hbl5⟩ := hpf
      have s0 : w5.cell? ⟨R, 0, none⟩ = some (.slice lp' fl.length lc') := tag_cell hR5 0 _ rfl
      have sf := tag_free hR5 0
      rw [← HM.out] at s0
      have HFB3 := hide hfb5
      have HB3 := hide (HB.out.trans hbl5)
      clear hR5 hfb5 hbl5 hown5 hgr5 HFB2 HB hro HNA
      refine hK _ _ ?_
      clear hK K
      refine wpAny_to (i := 11) (v := .pointer (some ⟨R, 0, none⟩)) (a' := ?ax11q13) rfl (by kernel_rfl) (by kernel_rfl) (by kernel_rfl) (fun _ _ _ h => h) (Or.inl ⟨by rfl, ?yi⟩) ?ha ?_
      case yi => intro w; go_simp
      case ha => go_simp; try exact rfl
      refine wpAny_to (i := 12) (v := .pointer (some ⟨R, 0, none⟩)) (a' := ?ax12q14) rfl (by kernel_rfl) (by kernel_rfl) (by kernel_rfl) (fun _ _ _ h => h) (Or.inl ⟨by rfl, ?yi⟩) ?ha ?_
      case yi => intro w; go_simp
      case ha => go_simp; try exact rfl
      refine wpAny_ready (rs := [13]) (by kernel_rfl) (by simp) ?_
      refine AllReady.cons rfl (fun K hK => ?_) AllReady.nil
      go_simp
      go_wp2_with fail
      refine wpAny_done (by kernel_rfl) ?_ _
      obtain ⟨w6, hw6⟩ : ∃ w6, w6 = w5.setCell ⟨R, 0, none⟩ (.slice bp bm bc) := ⟨_, rfl⟩
      rw [← hw6] at HFB3 HB3 ⊢
      obtain ⟨lp6, lc6, pp6, pc6, hR6, -, -⟩ := HFB3.out.reads
      have t0 : w6.cell? ⟨R, 0, none⟩ = some (.slice lp6 (M + 1) lc6) := by
        have := tag_cell hR6 0 _ rfl
        rw [List.length_append, ← HM.out] at this
        exact this
      have t2 : w6.cell? ⟨R, 2, none⟩ = some (.bool bad) := tag_cell hR6 2 _ rfl
      have tf := tag_free hR6 2
      clear hw6 s0 sf
      by_cases hbig : 2000 < M + 1
      · have hd : decide ((2000 : Int) < (M : Int) + 1) = true := decide_eq_true (by omega)
        have HE := hide (And.intro (HFB3.out.setBad true) (HB3.out.trans (Bel.set hR6 (by decide) hbR 2 (.bool true))))
        clear hR6
        go_wp2_with fail
        go_end0
        refine ⟨rfl, ?_⟩
        rw [decide_eq_true (show 2000 < M + 1 by omega), Bool.or_true]
        exact HE.out
      · have hd : decide ((2000 : Int) < (M : Int) + 1) = false := decide_eq_false (by omega)
        clear hR6
        go_wp2_with fail
        go_end0
        refine ⟨rfl, ?_⟩
        rw [decide_eq_false (show ¬ 2000 < M + 1 by omega), Bool.or_false]
        exact ⟨HFB3.out, HB3.out⟩
    · go_simp
      go_wp2_with fail
      refine (here_st _ base R fl op bad HFB.out hl).mono ?_
      rintro e wn ⟨rfl, kn, hkn⟩
      have hbn : Below wd.heap.size wd wn := by rw [hkn]; exact bel_drewN _ _
      replace c0 := cell_keep c0 hbn
      replace n0 := cell_keep n0 hbn
      replace n1 := cell_keep n1 hbn
      replace n2 := cell_keep n2 hbn
      replace n3 := cell_keep n3 hbn
      replace HFB := hide (HFB.out.under hbn)
      replace HB := hide (HB.out.trans (Bel.of hbn HSZ.out))
      clear hbn hkn
      rw [← HU.out]
      go_wp2_with fail
      refine wpAny_to (i := 8) (v := .agg #[.string name, .slice ap am ac, .string text, .slice none 0 0, .int .i64 u]) (a' := ?ax8q15) rfl (by kernel_rfl) (by kernel_rfl) (by kernel_rfl) (fun _ _ _ h => h) (Or.inl ⟨by rfl, ?yi⟩) ?ha ?_
      case yi => intro w; go_simp
      case ha => go_simp; try exact rfl
      refine wpAny_ready (rs := [4, 9]) (by kernel_rfl) (by simp) ?_
      refine AllReady.cons rfl (fun K hK => ?_) (AllReady.cons rfl (fun K hK => ?_) AllReady.nil)
      · go_simp
        go_wp2_with fail
        refine wpAny_ready (rs := [9]) (by kernel_rfl) (by simp) ?_
        refine AllReady.cons rfl (fun K hK => ?_) AllReady.nil
        go_simp
        go_wp2_with fail
        have hal : Below wn.heap.size wn (wn.alloc (.cells #[.string name, .slice ap am ac, .string text, .slice none 0 0, .int .i64 u] 69)) := (Below.refl _ _).alloc (Nat.le_refl _) _
        obtain ⟨wa, hwa⟩ : ∃ wa, wa = wn.alloc (.cells #[.string name, .slice ap am ac, .string text, .slice none 0 0, .int .i64 u] 69) := ⟨_, rfl⟩
        have na := five_newA wn #[.string name, .slice ap am ac, .string text, .slice none 0 0, .int .i64 u] 69
        rw [← hwa] at hal na ⊢
        have HNA := hide na
        replace c0 := cell_keep c0 hal
        replace HB := hide (HB.out.trans (Bel.of hal HFB.out.2.1))
        replace HFB := hide (HFB.out.under hal)
        clear hal hwa na n0 n1 n2 n3
        have hfb := HFB.out
        obtain ⟨lp', lc', pp, pc, hR, -, -⟩ := hfb.reads
        have hlv := (tag_cell hR 0 _ rfl).symm.trans c0
        injection hlv with hlv
        injection hlv with hlv1 _ hlv3
        subst hlv1
        subst hlv3
        have hro := hfb.row hR
        rw [← HM.out] at hro
        have HFB2 := hide (And.intro hfb hR)
        have hzz := hfb.2.1
        have hbR := hfb.1
        clear hfb hR HFB
        refine wpAny_ready (rs := [10]) (by kernel_rfl) (by simp) ?_
        refine AllReady.cons rfl (fun K hK => ?_) AllReady.nil
        rw [if_pos (by rfl)]
        refine wp_append_own _ (.tmp 8) (.tmp 13) 54 rfl base 69 i0 _ 5 88 Try.underlying54 hi hz0 hz1 hz2 rfl (by decide) (.slice lp' M lc') M (flCells fl) rfl hro ⟨wn.heap.size, 0, none⟩ 1 1 #[.string name, .slice ap am ac, .string text, .slice none 0 0, .int .i64 u].toList rfl rfl HNA.out (fl_one _ _ _ _ _ _) (by unfold maxLen; omega) (by omega) hzz ?_
        intro v' w5 hown5 hgr5 _
        obtain ⟨bp, bm, bc, rfl⟩ := own_slice hown5
        have e1 : flCells1 ⟨bl name, at', bl text, u, ap, am, ac⟩ = [.string name, .slice ap am ac, .string text, .slice none 0 0, .int .i64 u] := by unfold flCells1; rw [bl_same, bl_same]
        have h5 : w5.ownsRow base 69 5 (.slice bp bm bc) (fl.length + 1) (flCells fl ++ flCells1 ⟨bl name, at', bl text, u, ap, am, ac⟩) := by rw [e1, ← HM.out]; exact hown5
        rw [HM.out] at hgr5
        have hpf := app_fb HFB2.out.1 HFB2.out.2 h5 hgr5
        clear e1 h5
        obtain ⟨hR5, hfb5, hbl5⟩ := hpf
        have s0 : w5.cell? ⟨R, 0, none⟩ = some (.slice lp' fl.length lc') := tag_cell hR5 0 _ rfl
        have sf := tag_free hR5 0
        rw [← HM.out] at s0
        have HFB3 := hide hfb5
        have HB3 := hide (HB.out.trans hbl5)
        clear hR5 hfb5 hbl5 hown5 hgr5 HFB2 HB hro HNA
        refine hK _ _ ?_
        clear hK K
        refine wpAny_to (i := 11) (v := .pointer (some ⟨R, 0, none⟩)) (a' := ?ax11q16) rfl (by kernel_rfl) (by kernel_rfl) (by kernel_rfl) (fun _ _ _ h => h) (Or.inl ⟨by rfl, ?yi⟩) ?ha ?_
        case yi => intro w; go_simp
        case ha => go_simp; try exact rfl
        refine wpAny_to (i := 12) (v := .pointer (some ⟨R, 0, none⟩)) (a' := ?ax12q17) rfl (by kernel_rfl) (by kernel_rfl) (by kernel_rfl) (fun _ _ _ h => h) (Or.inl ⟨by rfl, ?yi⟩) ?ha ?_
        case yi => intro w; go_simp
        case ha => go_simp; try exact rfl
        refine wpAny_ready (rs := [13]) (by kernel_rfl) (by simp) ?_
        refine AllReady.cons rfl (fun K hK => ?_) AllReady.nil
        go_simp
        go_wp2_with fail
        refine wpAny_done (by kernel_rfl) ?_ _
        obtain ⟨w6, hw6⟩ : ∃ w6, w6 = w5.setCell ⟨R, 0, none⟩ (.slice bp bm bc) := ⟨_, rfl⟩
        rw [← hw6] at HFB3 HB3 ⊢
        obtain ⟨lp6, lc6, pp6, pc6, hR6, -, -⟩ := HFB3.out.reads
        have t0 : w6.cell? ⟨R, 0, none⟩ = some (.slice lp6 (M + 1) lc6) := by
          have := tag_cell hR6 0 _ rfl
          rw [List.length_append, ← HM.out] at this
          exact this
        have t2 : w6.cell? ⟨R, 2, none⟩ = some (.bool bad) := tag_cell hR6 2 _ rfl
        have tf := tag_free hR6 2
        clear hw6 s0 sf
        by_cases hbig : 2000 < M + 1
        · have hd : decide ((2000 : Int) < (M : Int) + 1) = true := decide_eq_true (by omega)
          have HE := hide (And.intro (HFB3.out.setBad true) (HB3.out.trans (Bel.set hR6 (by decide) hbR 2 (.bool true))))
          clear hR6
          go_wp2_with fail
          go_end0
          refine ⟨rfl, ?_⟩
          rw [decide_eq_true (show 2000 < M + 1 by omega), Bool.or_true]
          exact HE.out
        · have hd : decide ((2000 : Int) < (M : Int) + 1) = false := decide_eq_false (by omega)
          clear hR6
          go_wp2_with fail
          go_end0
          refine ⟨rfl, ?_⟩
          rw [decide_eq_false (show ¬ 2000 < M + 1 by omega), Bool.or_false]
          exact ⟨HFB3.out, HB3.out⟩
      · go_simp
        go_wp2_with fail
        have hal : Below wn.heap.size wn (wn.alloc (.cells #[.string name, .slice ap am ac, .string text, .slice none 0 0, .int .i64 u] 69)) := (Below.refl _ _).alloc (Nat.le_refl _) _
        obtain ⟨wa, hwa⟩ : ∃ wa, wa = wn.alloc (.cells #[.string name, .slice ap am ac, .string text, .slice none 0 0, .int .i64 u] 69) := ⟨_, rfl⟩
        have na := five_newA wn #[.string name, .slice ap am ac, .string text, .slice none 0 0, .int .i64 u] 69
        rw [← hwa] at hal na ⊢
        have HNA := hide na
        replace c0 := cell_keep c0 hal
        replace HB := hide (HB.out.trans (Bel.of hal HFB.out.2.1))
        replace HFB := hide (HFB.out.under hal)
        clear hal hwa na n0 n1 n2 n3
        refine wpAny_ready (rs := [4]) (by kernel_rfl) (by simp) ?_
        refine AllReady.cons rfl (fun K hK => ?_) AllReady.nil
        go_simp
        go_wp2_with fail
        have hfb := HFB.out
        obtain ⟨lp', lc', pp, pc, hR, -, -⟩ := hfb.reads
        have hlv := (tag_cell hR 0 _ rfl).symm.trans c0
        injection hlv with hlv
        injection hlv with hlv1 _ hlv3
        subst hlv1
        subst hlv3
        have hro := hfb.row hR
        rw [← HM.out] at hro
        have HFB2 := hide (And.intro hfb hR)
        have hzz := hfb.2.1
        have hbR := hfb.1
        clear hfb hR HFB
        refine wpAny_ready (rs := [10]) (by kernel_rfl) (by simp) ?_
        refine AllReady.cons rfl (fun K hK => ?_) AllReady.nil
        rw [if_pos (by rfl)]
        refine wp_append_own _ (.tmp 8) (.tmp 13) 54 rfl base 69 i0 _ 5 88 Try.underlying54 hi hz0 hz1 hz2 rfl (by decide) (.slice lp' M lc') M (flCells fl) rfl hro ⟨wn.heap.size, 0, none⟩ 1 1 #[.string name, .slice ap am ac, .string text, .slice none 0 0, .int .i64 u].toList rfl rfl HNA.out (fl_one _ _ _ _ _ _) (by unfold maxLen; omega) (by omega) hzz ?_
        intro v' w5 hown5 hgr5 _
        obtain ⟨bp, bm, bc, rfl⟩ := own_slice hown5
        have e1 : flCells1 ⟨bl name, at', bl text, u, ap, am, ac⟩ = [.string name, .slice ap am ac, .string text, .slice none 0 0, .int .i64 u] := by unfold flCells1; rw [bl_same, bl_same]
        have h5 : w5.ownsRow base 69 5 (.slice bp bm bc) (fl.length + 1) (flCells fl ++ flCells1 ⟨bl name, at', bl text, u, ap, am, ac⟩) := by rw [e1, ← HM.out]; exact hown5
        rw [HM.out] at hgr5
        have hpf := app_fb HFB2.out.1 HFB2.out.2 h5 hgr5
        clear e1 h5
        obtain ⟨hR5, hfb5, hbl5⟩ := hpf
        have s0 : w5.cell? ⟨R, 0, none⟩ = some (.slice lp' fl.length lc') := tag_cell hR5 0 _ rfl
        have sf := tag_free hR5 0
        rw [← HM.out] at s0
        have HFB3 := hide hfb5
        have HB3 := hide (HB.out.trans hbl5)
        clear hR5 hfb5 hbl5 hown5 hgr5 HFB2 HB hro HNA
        refine hK _ _ ?_
        clear hK K
        refine wpAny_to (i := 11) (v := .pointer (some ⟨R, 0, none⟩)) (a' := ?ax11q18) rfl (by kernel_rfl) (by kernel_rfl) (by kernel_rfl) (fun _ _ _ h => h) (Or.inl ⟨by rfl, ?yi⟩) ?ha ?_
        case yi => intro w; go_simp
        case ha => go_simp; try exact rfl
        refine wpAny_to (i := 12) (v := .pointer (some ⟨R, 0, none⟩)) (a' := ?ax12q19) rfl (by kernel_rfl) (by kernel_rfl) (by kernel_rfl) (fun _ _ _ h => h) (Or.inl ⟨by rfl, ?yi⟩) ?ha ?_
        case yi => intro w; go_simp
        case ha => go_simp; try exact rfl
        refine wpAny_ready (rs := [13]) (by kernel_rfl) (by simp) ?_
        refine AllReady.cons rfl (fun K hK => ?_) AllReady.nil
        go_simp
        go_wp2_with fail
        refine wpAny_done (by kernel_rfl) ?_ _
        obtain ⟨w6, hw6⟩ : ∃ w6, w6 = w5.setCell ⟨R, 0, none⟩ (.slice bp bm bc) := ⟨_, rfl⟩
        rw [← hw6] at HFB3 HB3 ⊢
        obtain ⟨lp6, lc6, pp6, pc6, hR6, -, -⟩ := HFB3.out.reads
        have t0 : w6.cell? ⟨R, 0, none⟩ = some (.slice lp6 (M + 1) lc6) := by
          have := tag_cell hR6 0 _ rfl
          rw [List.length_append, ← HM.out] at this
          exact this
        have t2 : w6.cell? ⟨R, 2, none⟩ = some (.bool bad) := tag_cell hR6 2 _ rfl
        have tf := tag_free hR6 2
        clear hw6 s0 sf
        by_cases hbig : 2000 < M + 1
        · have hd : decide ((2000 : Int) < (M : Int) + 1) = true := decide_eq_true (by omega)
          have HE := hide (And.intro (HFB3.out.setBad true) (HB3.out.trans (Bel.set hR6 (by decide) hbR 2 (.bool true))))
          clear hR6
          go_wp2_with fail
          go_end0
          refine ⟨rfl, ?_⟩
          rw [decide_eq_true (show 2000 < M + 1 by omega), Bool.or_true]
          exact HE.out
        · have hd : decide ((2000 : Int) < (M : Int) + 1) = false := decide_eq_false (by omega)
          clear hR6
          go_wp2_with fail
          go_end0
          refine ⟨rfl, ?_⟩
          rw [decide_eq_false (show ¬ 2000 < M + 1 by omega), Bool.or_false]
          exact ⟨HFB3.out, HB3.out⟩
  · go_simp
    go_wp2_with fail
    refine (here_st _ base R fl op bad HFB.out hl).mono ?_
    rintro e wn ⟨rfl, kn, hkn⟩
    have hbn : Below wd.heap.size wd wn := by rw [hkn]; exact bel_drewN _ _
    replace c0 := cell_keep c0 hbn
    replace n0 := cell_keep n0 hbn
    replace n1 := cell_keep n1 hbn
    replace n2 := cell_keep n2 hbn
    replace n3 := cell_keep n3 hbn
    replace HFB := hide (HFB.out.under hbn)
    replace HB := hide (HB.out.trans (Bel.of hbn HSZ.out))
    clear hbn hkn
    rw [← HU.out]
    go_wp2_with fail
    refine wpAny_ready (rs := [4, 5]) (by kernel_rfl) (by simp) ?_
    refine AllReady.cons rfl (fun K hK => ?_) (AllReady.cons rfl (fun K hK => ?_) AllReady.nil)
    · go_simp
      go_wp2_with fail
      refine wpAny_ready (rs := [5]) (by kernel_rfl) (by simp) ?_
      refine AllReady.cons rfl (fun K hK => ?_) AllReady.nil
      go_simp
      go_wp2_with fail
      refine wpAny_to (i := 8) (v := .agg #[.string name, .slice ap am ac, .string text, .slice none 0 0, .int .i64 u]) (a' := ?ax8q20) rfl (by kernel_rfl) (by kernel_rfl) (by kernel_rfl) (fun _ _ _ h => h) (Or.inl ⟨by rfl, ?yi⟩) ?ha ?_
      case yi => intro w; go_simp
      case ha => go_simp; try exact rfl
      refine wpAny_ready (rs := [9]) (by kernel_rfl) (by simp) ?_
      refine AllReady.cons rfl (fun K hK => ?_) AllReady.nil
      go_simp
      go_wp2_with fail
      have hal : Below wn.heap.size wn (wn.alloc (.cells #[.string name, .slice ap am ac, .string text, .slice none 0 0, .int .i64 u] 69)) := (Below.refl _ _).alloc (Nat.le_refl _) _
      obtain ⟨wa, hwa⟩ : ∃ wa, wa = wn.alloc (.cells #[.string name, .slice ap am ac, .string text, .slice none 0 0, .int .i64 u] 69) := ⟨_, rfl⟩
      have na := five_newA wn #[.string name, .slice ap am ac, .string text, .slice none 0 0, .int .i64 u] 69
      rw [← hwa] at hal na ⊢
      have HNA := hide na
      replace c0 := cell_keep c0 hal
      replace HB := hide (HB.out.trans (Bel.of hal HFB.out.2.1))
      replace HFB := hide (HFB.out.under hal)
      clear hal hwa na n0 n1 n2 n3
      have hfb := HFB.out
      obtain ⟨lp', lc', pp, pc, hR, -, -⟩ := hfb.reads
      have hlv := (tag_cell hR 0 _ rfl).symm.trans c0
      injection hlv with hlv
      injection hlv with hlv1 _ hlv3
      subst hlv1
      subst hlv3
      have hro := hfb.row hR
      rw [← HM.out] at hro
      have HFB2 := hide (And.intro hfb hR)
      have hzz := hfb.2.1
      have hbR := hfb.1
      clear hfb hR HFB
      refine wpAny_ready (rs := [10]) (by kernel_rfl) (by simp) ?_
      refine AllReady.cons rfl (fun K hK => ?_) AllReady.nil
      rw [if_pos (by rfl)]
      refine wp_append_own _ (.tmp 8) (.tmp 13) 54 rfl base 69 i0 _ 5 88 Try.underlying54 hi hz0 hz1 hz2 rfl (by decide) (.slice lp' M lc') M (flCells fl) rfl hro ⟨wn.heap.size, 0, none⟩ 1 1 #[.string name, .slice ap am ac, .string text, .slice none 0 0, .int .i64 u].toList rfl rfl HNA.out (fl_one _ _ _ _ _ _) (by unfold maxLen; omega) (by omega) hzz ?_
      intro v' w5 hown5 hgr5 _
      obtain ⟨bp, bm, bc, rfl⟩ := own_slice hown5
      have e1 : flCells1 ⟨bl name, at', bl text, u, ap, am, ac⟩ = [.string name, .slice ap am ac, .string text, .slice none 0 0, .int .i64 u] := by unfold flCells1; rw [bl_same, bl_same]
      have h5 : w5.ownsRow base 69 5 (.slice bp bm bc) (fl.length + 1) (flCells fl ++ flCells1 ⟨bl name, at', bl text, u, ap, am, ac⟩) := by rw [e1, ← HM.out]; exact hown5
      rw [HM.out] at hgr5
      have hpf := app_fb HFB2.out.1 HFB2.out.2 h5 hgr5
      clear e1 h5
      obtain ⟨hR5, hfb5, hbl5⟩ := hpf
      have s0 : w5.cell? ⟨R, 0, none⟩ = some (.slice lp' fl.length lc') := tag_cell hR5 0 _ rfl
      have sf := tag_free hR5 0
      rw [← HM.out] at s0
      have HFB3 := hide hfb5
      have HB3 := hide (HB.out.trans hbl5)
      clear hR5 hfb5 hbl5 hown5 hgr5 HFB2 HB hro HNA
      refine hK _ _ ?_
      clear hK K
      refine wpAny_to (i := 11) (v := .pointer (some ⟨R, 0, none⟩)) (a' := ?ax11q21) rfl (by kernel_rfl) (by kernel_rfl) (by kernel_rfl) (fun _ _ _ h => h) (Or.inl ⟨by rfl, ?yi⟩) ?ha ?_
      case yi => intro w; go_simp
      case ha => go_simp; try exact rfl
      refine wpAny_to (i := 12) (v := .pointer (some ⟨R, 0, none⟩)) (a' := ?ax12q22) rfl (by kernel_rfl) (by kernel_rfl) (by kernel_rfl) (fun _ _ _ h => h) (Or.inl ⟨by rfl, ?yi⟩) ?ha ?_
      case yi => intro w; go_simp
      case ha => go_simp; try exact rfl
      refine wpAny_ready (rs := [13]) (by kernel_rfl) (by simp) ?_
      refine AllReady.cons rfl (fun K hK => ?_) AllReady.nil
      go_simp
      go_wp2_with fail
      refine wpAny_done (by kernel_rfl) ?_ _
      obtain ⟨w6, hw6⟩ : ∃ w6, w6 = w5.setCell ⟨R, 0, none⟩ (.slice bp bm bc) := ⟨_, rfl⟩
      rw [← hw6] at HFB3 HB3 ⊢
      obtain ⟨lp6, lc6, pp6, pc6, hR6, -, -⟩ := HFB3.out.reads
      have t0 : w6.cell? ⟨R, 0, none⟩ = some (.slice lp6 (M + 1) lc6) := by
        have := tag_cell hR6 0 _ rfl
        rw [List.length_append, ← HM.out] at this
        exact this
      have t2 : w6.cell? ⟨R, 2, none⟩ = some (.bool bad) := tag_cell hR6 2 _ rfl
      have tf := tag_free hR6 2
      clear hw6 s0 sf
      by_cases hbig : 2000 < M + 1
      · have hd : decide ((2000 : Int) < (M : Int) + 1) = true := decide_eq_true (by omega)
        have HE := hide (And.intro (HFB3.out.setBad true) (HB3.out.trans (Bel.set hR6 (by decide) hbR 2 (.bool true))))
        clear hR6
        go_wp2_with fail
        go_end0
        refine ⟨rfl, ?_⟩
        rw [decide_eq_true (show 2000 < M + 1 by omega), Bool.or_true]
        exact HE.out
      · have hd : decide ((2000 : Int) < (M : Int) + 1) = false := decide_eq_false (by omega)
        clear hR6
        go_wp2_with fail
        go_end0
        refine ⟨rfl, ?_⟩
        rw [decide_eq_false (show ¬ 2000 < M + 1 by omega), Bool.or_false]
        exact ⟨HFB3.out, HB3.out⟩
    · go_simp
      go_wp2_with fail
      refine wpAny_to (i := 8) (v := .agg #[.string name, .slice ap am ac, .string text, .slice none 0 0, .int .i64 u]) (a' := ?ax8q23) rfl (by kernel_rfl) (by kernel_rfl) (by kernel_rfl) (fun _ _ _ h => h) (Or.inl ⟨by rfl, ?yi⟩) ?ha ?_
      case yi => intro w; go_simp
      case ha => go_simp; try exact rfl
      refine wpAny_ready (rs := [4, 9]) (by kernel_rfl) (by simp) ?_
      refine AllReady.cons rfl (fun K hK => ?_) (AllReady.cons rfl (fun K hK => ?_) AllReady.nil)
      · go_simp
        go_wp2_with fail
        refine wpAny_ready (rs := [9]) (by kernel_rfl) (by simp) ?_
        refine AllReady.cons rfl (fun K hK => ?_) AllReady.nil
        go_simp
        go_wp2_with fail
        have hal : Below wn.heap.size wn (wn.alloc (.cells #[.string name, .slice ap am ac, .string text, .slice none 0 0, .int .i64 u] 69)) := (Below.refl _ _).alloc (Nat.le_refl _) _
        obtain ⟨wa, hwa⟩ : ∃ wa, wa = wn.alloc (.cells #[.string name, .slice ap am ac, .string text, .slice none 0 0, .int .i64 u] 69) := ⟨_, rfl⟩
        have na := five_newA wn #[.string name, .slice ap am ac, .string text, .slice none 0 0, .int .i64 u] 69
        rw [← hwa] at hal na ⊢
        have HNA := hide na
        replace c0 := cell_keep c0 hal
        replace HB := hide (HB.out.trans (Bel.of hal HFB.out.2.1))
        replace HFB := hide (HFB.out.under hal)
        clear hal hwa na n0 n1 n2 n3
        have hfb := HFB.out
        obtain ⟨lp', lc', pp, pc, hR, -, -⟩ := hfb.reads
        have hlv := (tag_cell hR 0 _ rfl).symm.trans c0
        injection hlv with hlv
        injection hlv with hlv1 _ hlv3
        subst hlv1
        subst hlv3
        have hro := hfb.row hR
        rw [← HM.out] at hro
        have HFB2 := hide (And.intro hfb hR)
        have hzz := hfb.2.1
        have hbR := hfb.1
        clear hfb hR HFB
        refine wpAny_ready (rs := [10]) (by kernel_rfl) (by simp) ?_
        refine AllReady.cons rfl (fun K hK => ?_) AllReady.nil
        rw [if_pos (by rfl)]
        refine wp_append_own _ (.tmp 8) (.tmp 13) 54 rfl base 69 i0 _ 5 88 Try.underlying54 hi hz0 hz1 hz2 rfl (by decide) (.slice lp' M lc') M (flCells fl) rfl hro ⟨wn.heap.size, 0, none⟩ 1 1 #[.string name, .slice ap am ac, .string text, .slice none 0 0, .int .i64 u].toList rfl rfl HNA.out (fl_one _ _ _ _ _ _) (by unfold maxLen; omega) (by omega) hzz ?_
        intro v' w5 hown5 hgr5 _
        obtain ⟨bp, bm, bc, rfl⟩ := own_slice hown5
        have e1 : flCells1 ⟨bl name, at', bl text, u, ap, am, ac⟩ = [.string name, .slice ap am ac, .string text, .slice none 0 0, .int .i64 u] := by unfold flCells1; rw [bl_same, bl_same]
        have h5 : w5.ownsRow base 69 5 (.slice bp bm bc) (fl.length + 1) (flCells fl ++ flCells1 ⟨bl name, at', bl text, u, ap, am, ac⟩) := by rw [e1, ← HM.out]; exact hown5
        rw [HM.out] at hgr5
        have hpf := app_fb HFB2.out.1 HFB2.out.2 h5 hgr5
        clear e1 h5
        obtain ⟨hR5, hfb5, hbl5⟩ := hpf
        have s0 : w5.cell? ⟨R, 0, none⟩ = some (.slice lp' fl.length lc') := tag_cell hR5 0 _ rfl
        have sf := tag_free hR5 0
        rw [← HM.out] at s0
        have HFB3 := hide hfb5
        have HB3 := hide (HB.out.trans hbl5)
        clear hR5 hfb5 hbl5 hown5 hgr5 HFB2 HB hro HNA
        refine hK _ _ ?_
        clear hK K
        refine wpAny_to (i := 11) (v := .pointer (some ⟨R, 0, none⟩)) (a' := ?ax11q24) rfl (by kernel_rfl) (by kernel_rfl) (by kernel_rfl) (fun _ _ _ h => h) (Or.inl ⟨by rfl, ?yi⟩) ?ha ?_
        case yi => intro w; go_simp
        case ha => go_simp; try exact rfl
        refine wpAny_to (i := 12) (v := .pointer (some ⟨R, 0, none⟩)) (a' := ?ax12q25) rfl (by kernel_rfl) (by kernel_rfl) (by kernel_rfl) (fun _ _ _ h => h) (Or.inl ⟨by rfl, ?yi⟩) ?ha ?_
        case yi => intro w; go_simp
        case ha => go_simp; try exact rfl
        refine wpAny_ready (rs := [13]) (by kernel_rfl) (by simp) ?_
        refine AllReady.cons rfl (fun K hK => ?_) AllReady.nil
        go_simp
        go_wp2_with fail
        refine wpAny_done (by kernel_rfl) ?_ _
        obtain ⟨w6, hw6⟩ : ∃ w6, w6 = w5.setCell ⟨R, 0, none⟩ (.slice bp bm bc) := ⟨_, rfl⟩
        rw [← hw6] at HFB3 HB3 ⊢
        obtain ⟨lp6, lc6, pp6, pc6, hR6, -, -⟩ := HFB3.out.reads
        have t0 : w6.cell? ⟨R, 0, none⟩ = some (.slice lp6 (M + 1) lc6) := by
          have := tag_cell hR6 0 _ rfl
          rw [List.length_append, ← HM.out] at this
          exact this
        have t2 : w6.cell? ⟨R, 2, none⟩ = some (.bool bad) := tag_cell hR6 2 _ rfl
        have tf := tag_free hR6 2
        clear hw6 s0 sf
        by_cases hbig : 2000 < M + 1
        · have hd : decide ((2000 : Int) < (M : Int) + 1) = true := decide_eq_true (by omega)
          have HE := hide (And.intro (HFB3.out.setBad true) (HB3.out.trans (Bel.set hR6 (by decide) hbR 2 (.bool true))))
          clear hR6
          go_wp2_with fail
          go_end0
          refine ⟨rfl, ?_⟩
          rw [decide_eq_true (show 2000 < M + 1 by omega), Bool.or_true]
          exact HE.out
        · have hd : decide ((2000 : Int) < (M : Int) + 1) = false := decide_eq_false (by omega)
          clear hR6
          go_wp2_with fail
          go_end0
          refine ⟨rfl, ?_⟩
          rw [decide_eq_false (show ¬ 2000 < M + 1 by omega), Bool.or_false]
          exact ⟨HFB3.out, HB3.out⟩
      · go_simp
        go_wp2_with fail
        have hal : Below wn.heap.size wn (wn.alloc (.cells #[.string name, .slice ap am ac, .string text, .slice none 0 0, .int .i64 u] 69)) := (Below.refl _ _).alloc (Nat.le_refl _) _
        obtain ⟨wa, hwa⟩ : ∃ wa, wa = wn.alloc (.cells #[.string name, .slice ap am ac, .string text, .slice none 0 0, .int .i64 u] 69) := ⟨_, rfl⟩
        have na := five_newA wn #[.string name, .slice ap am ac, .string text, .slice none 0 0, .int .i64 u] 69
        rw [← hwa] at hal na ⊢
        have HNA := hide na
        replace c0 := cell_keep c0 hal
        replace HB := hide (HB.out.trans (Bel.of hal HFB.out.2.1))
        replace HFB := hide (HFB.out.under hal)
        clear hal hwa na n0 n1 n2 n3
        refine wpAny_ready (rs := [4]) (by kernel_rfl) (by simp) ?_
        refine AllReady.cons rfl (fun K hK => ?_) AllReady.nil
        go_simp
        go_wp2_with fail
        have hfb := HFB.out
        obtain ⟨lp', lc', pp, pc, hR, -, -⟩ := hfb.reads
        have hlv := (tag_cell hR 0 _ rfl).symm.trans c0
        injection hlv with hlv
        injection hlv with hlv1 _ hlv3
        subst hlv1
        subst hlv3
        have hro := hfb.row hR
        rw [← HM.out] at hro
        have HFB2 := hide (And.intro hfb hR)
        have hzz := hfb.2.1
        have hbR := hfb.1
        clear hfb hR HFB
        refine wpAny_ready (rs := [10]) (by kernel_rfl) (by simp) ?_
        refine AllReady.cons rfl (fun K hK => ?_) AllReady.nil
        rw [if_pos (by rfl)]
        refine wp_append_own _ (.tmp 8) (.tmp 13) 54 rfl base 69 i0 _ 5 88 Try.underlying54 hi hz0 hz1 hz2 rfl (by decide) (.slice lp' M lc') M (flCells fl) rfl hro ⟨wn.heap.size, 0, none⟩ 1 1 #[.string name, .slice ap am ac, .string text, .slice none 0 0, .int .i64 u].toList rfl rfl HNA.out (fl_one _ _ _ _ _ _) (by unfold maxLen; omega) (by omega) hzz ?_
        intro v' w5 hown5 hgr5 _
        obtain ⟨bp, bm, bc, rfl⟩ := own_slice hown5
        have e1 : flCells1 ⟨bl name, at', bl text, u, ap, am, ac⟩ = [.string name, .slice ap am ac, .string text, .slice none 0 0, .int .i64 u] := by unfold flCells1; rw [bl_same, bl_same]
        have h5 : w5.ownsRow base 69 5 (.slice bp bm bc) (fl.length + 1) (flCells fl ++ flCells1 ⟨bl name, at', bl text, u, ap, am, ac⟩) := by rw [e1, ← HM.out]; exact hown5
        rw [HM.out] at hgr5
        have hpf := app_fb HFB2.out.1 HFB2.out.2 h5 hgr5
        clear e1 h5
        obtain ⟨hR5, hfb5, hbl5⟩ := hpf
        have s0 : w5.cell? ⟨R, 0, none⟩ = some (.slice lp' fl.length lc') := tag_cell hR5 0 _ rfl
        have sf := tag_free hR5 0
        rw [← HM.out] at s0
        have HFB3 := hide hfb5
        have HB3 := hide (HB.out.trans hbl5)
        clear hR5 hfb5 hbl5 hown5 hgr5 HFB2 HB hro HNA
        refine hK _ _ ?_
        clear hK K
        refine wpAny_to (i := 11) (v := .pointer (some ⟨R, 0, none⟩)) (a' := ?ax11q26) rfl (by kernel_rfl) (by kernel_rfl) (by kernel_rfl) (fun _ _ _ h => h) (Or.inl ⟨by rfl, ?yi⟩) ?ha ?_
        case yi => intro w; go_simp
        case ha => go_simp; try exact rfl
        refine wpAny_to (i := 12) (v := .pointer (some ⟨R, 0, none⟩)) (a' := ?ax12q27) rfl (by kernel_rfl) (by kernel_rfl) (by kernel_rfl) (fun _ _ _ h => h) (Or.inl ⟨by rfl, ?yi⟩) ?ha ?_
        case yi => intro w; go_simp
        case ha => go_simp; try exact rfl
        refine wpAny_ready (rs := [13]) (by kernel_rfl) (by simp) ?_
        refine AllReady.cons rfl (fun K hK => ?_) AllReady.nil
        go_simp
        go_wp2_with fail
        refine wpAny_done (by kernel_rfl) ?_ _
        obtain ⟨w6, hw6⟩ : ∃ w6, w6 = w5.setCell ⟨R, 0, none⟩ (.slice bp bm bc) := ⟨_, rfl⟩
        rw [← hw6] at HFB3 HB3 ⊢
        obtain ⟨lp6, lc6, pp6, pc6, hR6, -, -⟩ := HFB3.out.reads
        have t0 : w6.cell? ⟨R, 0, none⟩ = some (.slice lp6 (M + 1) lc6) := by
          have := tag_cell hR6 0 _ rfl
          rw [List.length_append, ← HM.out] at this
          exact this
        have t2 : w6.cell? ⟨R, 2, none⟩ = some (.bool bad) := tag_cell hR6 2 _ rfl
        have tf := tag_free hR6 2
        clear hw6 s0 sf
        by_cases hbig : 2000 < M + 1
        · have hd : decide ((2000 : Int) < (M : Int) + 1) = true := decide_eq_true (by omega)
          have HE := hide (And.intro (HFB3.out.setBad true) (HB3.out.trans (Bel.set hR6 (by decide) hbR 2 (.bool true))))
          clear hR6
          go_wp2_with fail
          go_end0
          refine ⟨rfl, ?_⟩
          rw [decide_eq_true (show 2000 < M + 1 by omega), Bool.or_true]
          exact HE.out
        · have hd : decide ((2000 : Int) < (M : Int) + 1) = false := decide_eq_false (by omega)
          clear hR6
          go_wp2_with fail
          go_end0
          refine ⟨rfl, ?_⟩
          rw [decide_eq_false (show ¬ 2000 < M + 1 by omega), Bool.or_false]
          exact ⟨HFB3.out, HB3.out⟩
end Go.Proofs.Ytkdppcpkigpmdaa
