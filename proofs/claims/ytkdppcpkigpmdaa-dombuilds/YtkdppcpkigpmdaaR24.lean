/-
  The document's builder: start.
-/
import Derived.Test.YtkdppcpkigpmdaaR23
import Derived.Test.YtkdppcpkigpmdaaG2
import Derived.Deep.Cut
import Derived.BigQuiet
namespace Go.Proofs.Ytkdppcpkigpmdaa
open Go.RowKit
open Utf1

theorem infoInt : (Try.prog.info? 3).map (fun i => (i.zero, i.size, i.bytes)) = some (some (.int .i64 0), 1, 8) := by kernel_rfl
/-- One open one more. -/
theorem open_fb {w w5 : World} {base R : Nat} {fl : List Fl} {op : List Nat} {bad : Bool} {lv ov v' : Value} {k : Nat} (h : FB w base R fl op bad) (hR : RB w R lv ov bad) (hown : w5.ownsRow base 3 1 v' (op.length + 1) (opCells op ++ [.int .i64 (k : Int)])) (hgr : w.grownBy w5 ov.ownBlock) :
    RB w5 R lv ov bad ∧ FB (w5.setCell ⟨R, 1, none⟩ v') base R fl (op ++ [k]) bad ∧ Bel base w (w5.setCell ⟨R, 1, none⟩ v') := by
  have hro := h.row hR
  have hop := h.ops hR
  have hoB : ov.ownBlock ≠ some R := own_apart hop hR (by decide)
  have hR5 : RB w5 R lv ov bad := (hgr.block _ (lt_of_block hR) (fun e => hoB e.symm)).trans hR
  have hbel : Below base w w5 := (Below.refl base w).grown hgr h.2.1 (fun j hj => (hop.lt j hj).1)
  have hro5 : w5.ownsRow base 69 5 lv fl.length (flCells fl) := by
    refine own_stays (S := blk ov) hro ?_ ?_
    · intro j hj hm
      exact hgr.block j hj (fun e => hm (by unfold blk; rw [← e]; simp))
    · intro j hj hm
      exact own_two_ne hro hop (by decide) hj (by unfold blk at hm; simpa using hm)
  refine ⟨hR5, ⟨h.1, by simpa using Nat.le_trans h.2.1 hbel.size, lv, v', (rb_set hR5 v').2, own_set hro5 hR5 (by decide) 1 _, ?_⟩, (Bel.grown hgr h.2.1 hop (by decide)).trans (Bel.set hR5 (by decide) h.1 1 _)⟩
  have e : opCells (op ++ [k]) = opCells op ++ [.int .i64 (k : Int)] := by
    unfold opCells
    rw [List.map_append]
    rfl
  rw [List.length_append, e]
  exact own_set hown hR5 (by decide) 1 _

/-- What is open once the innermost one of a name is closed. -/
def rclose (name : List UInt8) (fl : List Fl) (op : List Nat) : List Nat := if 0 < innerF [name] (nmsF fl op) then op.take (innerF [name] (nmsF fl op) - 1) else op
theorem rclose_sub (name : List UInt8) (fl : List Fl) (op : List Nat) : (∀ k ∈ rclose name fl op, k ∈ op) ∧ (rclose name fl op).length ≤ op.length := by
  unfold rclose
  split
  · exact ⟨fun k hk => List.mem_of_mem_take hk, by rw [List.length_take]; omega⟩
  · exact ⟨fun k hk => hk, Nat.le_refl _⟩
def rway1 (name : List UInt8) (fl : List Fl) (op : List Nat) : List Nat := if name ∈ blocks then rclose [112] fl op else op
def rk (fl : List Fl) (op : List Nat) : Nat := innerF [[108, 105], [117, 108], [111, 108]] (nmsF fl op)
def rli (name : List UInt8) (fl : List Fl) (op : List Nat) : Bool := decide (name = [108, 105]) && (decide (0 < rk fl op) && decide (nmF fl (op.getD (rk fl op - 1) 0) = [108, 105]))
def rway (name : List UInt8) (fl : List Fl) (op : List Nat) : List Nat := if rli name fl (rway1 name fl op) = true then (rway1 name fl op).take (rk fl (rway1 name fl op) - 1) else rway1 name fl op
theorem rway1_sub (name : List UInt8) (fl : List Fl) (op : List Nat) : (∀ k ∈ rway1 name fl op, k ∈ op) ∧ (rway1 name fl op).length ≤ op.length := by
  unfold rway1
  split
  · exact rclose_sub _ _ _
  · exact ⟨fun k hk => hk, Nat.le_refl _⟩

set_option maxRecDepth 100000 in
set_option maxHeartbeats 8000000 in
theorem rstart_st (w : World) (base R : Nat) (fl : List Fl) (op : List Nat) (bad : Bool) (name : ByteArray) (ap : Option Addr) (am ac : Nat) (at' : List (List UInt8 × List UInt8)) (h : FB w base R fl op bad) (hin : ∀ k ∈ op, k < fl.length) (hl : op.length ≤ 10000) (hlf : fl.length ≤ 10000) :
    Calls Try.prog 39 #[.pointer (some ⟨R, 0, none⟩), .string name, .slice ap am ac] w fun e w' => e = .returned (.tuple #[]) ∧ FB w' base R (fl ++ [⟨bl name, at', [], hereF (rway (bl name) fl op), ap, am, ac⟩]) (if bl name ∈ voids then rway (bl name) fl op else rway (bl name) fl op ++ [fl.length]) (if bl name ∈ voids then bad || decide (2000 < fl.length + 1) else bad || decide (2000 < fl.length + 1) || decide (64 < (rway (bl name) fl op).length + 1)) ∧ Bel base w w' := by
  have s1 := rway1_sub (bl name) fl op
  obtain ⟨op1, hop1⟩ : ∃ op1, op1 = rway1 (bl name) fl op := ⟨_, rfl⟩
  have hway : rway (bl name) fl op = if rli (bl name) fl op1 = true then op1.take (rk fl op1 - 1) else op1 := by rw [hop1]; rfl
  obtain ⟨op2, hop2⟩ : ∃ op2, op2 = rway (bl name) fl op := ⟨_, rfl⟩
  rw [← hop2] at hway ⊢
  rw [← hop1] at s1
  obtain ⟨opx, hopx⟩ : ∃ opx, opx = if bl name ∈ voids then op2 else op2 ++ [fl.length] := ⟨_, rfl⟩
  obtain ⟨bdx, hbdx⟩ : ∃ bdx, bdx = if bl name ∈ voids then bad || decide (2000 < fl.length + 1) else bad || decide (2000 < fl.length + 1) || decide (64 < op2.length + 1) := ⟨_, rfl⟩
  rw [← hopx, ← hbdx]
  have HOX := hide (And.intro hopx hbdx)
  clear hopx hbdx
  have hin1 : ∀ k ∈ op1, k < fl.length := fun k hk => hin k (s1.1 k hk)
  have hl1 : op1.length ≤ 10000 := Nat.le_trans s1.2 hl
  have hsub2 : op2.length ≤ op1.length := by
    rw [hway]
    split
    · rw [List.length_take]; omega
    · exact Nat.le_refl _
  have HCL : Hid (bl name ∈ blocks → ∀ wx, FB wx base R fl op bad → Calls Try.prog 40 #[.pointer (some ⟨R, 0, none⟩), .string ⟨#[112]⟩] wx fun e w' => (∃ b, e = .returned (.bool b)) ∧ FB w' base R fl op1 bad ∧ Bel base wx w') := hide (by
    intro hb wx hx
    refine (close_st wx base R fl op bad ⟨#[112]⟩ hx hin (by omega) (by omega)).mono ?_
    rintro e w' ⟨rfl, h1, h2⟩
    refine ⟨⟨_, rfl⟩, ?_, h2⟩
    rw [hop1]
    unfold rway1
    rw [if_pos hb]
    exact h1)
  have HNB : Hid (bl name ∉ blocks → op1 = op) := hide (fun hb => by rw [hop1]; unfold rway1; rw [if_neg hb])
  have HFB := hide h
  have HWAY := hide hway
  have HIN1 := hide hin1
  have hbR := h.1
  clear h hin hop1 hop2 hway hin1 s1
  obtain ⟨BB, hBB⟩ : ∃ B, B = decide (bl name ∈ blocks) := ⟨_, rfl⟩
  have HBK := hide (rblock_any name w)
  rw [← hBB] at HBK
  have HBB := hide hBB
  clear hBB
  go_enter Try.func39, Try.ntmps39
  go_wp2_with fail
  refine HBK.out.mono ?_
  rintro e w1 ⟨rfl, hb1⟩
  have HF1 := hide (HFB.out.under hb1)
  have HB1 := hide (Bel.of hb1 HFB.out.2.1)
  clear hb1 HFB
  go_upto_if 8 with fail
  go_cut [10] from 9 (fun c wx => Hid (FB wx base R fl op1 bad) ∧ Hid (Bel base w wx))
  case first =>
    cases BB with
    | true =>
      have HC := hide (HCL.out (of_decide_eq_true HBB.out.symm) w1 HF1.out)
      clear HCL HNB HBB HBK
      go_wp2_with fail
      refine HC.out.mono ?_
      rintro e w2 ⟨⟨b, rfl⟩, m1, m2⟩
      have H1 := hide m1
      have H2 := hide (HB1.out.trans m2)
      clear m1 m2 HC HF1 HB1
      go_wp2_with fail
      go_meet
      exact ⟨H1, H2⟩
    | false =>
      have e := HNB.out (of_decide_eq_false HBB.out.symm)
      subst e
      clear HCL HNB HBB HBK
      go_wp2_with fail
      go_meet
      exact ⟨HF1, HB1⟩
  case rest =>
  obtain ⟨HF2, HB2⟩ := hcut
  clear HCL HNB HF1 HB1 HBK HBB
  have hbz := HF2.out.2.1
  have HI : Hid (∀ ty, Calls Try.prog 47 #[.pointer (some ⟨R, 0, none⟩), .slice (some ⟨wc.heap.size, 0, none⟩) 3 3] (wc.alloc (.cells #[.string ⟨#[108, 105]⟩, .string ⟨#[117, 108]⟩, .string ⟨#[111, 108]⟩] ty)) fun e w' => e = .returned (.int .i64 (rk fl op1 : Int)) ∧ FB w' base R fl op1 bad ∧ Bel base w w') := hide (by
    intro ty
    have hal : Below wc.heap.size wc (wc.alloc (.cells #[.string ⟨#[108, 105]⟩, .string ⟨#[117, 108]⟩, .string ⟨#[111, 108]⟩] ty)) := (Below.refl _ _).alloc (Nat.le_refl _) _
    refine (inner_st _ base R fl op1 bad [⟨#[108, 105]⟩, ⟨#[117, 108]⟩, ⟨#[111, 108]⟩] wc.heap.size 3 (HF2.out.under hal) HIN1.out (by omega) (by omega) (by decide) ?_).mono ?_
    · intro i x hx
      rw [new_cell]
      match i, hx with
      | 0, hx => cases hx; rfl
      | 1, hx => cases hx; rfl
      | 2, hx => cases hx; rfl
    · rintro e w' ⟨rfl, n, rfl⟩
      have hb2 := bel2 hal (bel_drewN _ n)
      exact ⟨rfl, HF2.out.under hb2, HB2.out.trans (Bel.of hb2 hbz)⟩)
  clear HF2 HB2
  go_wp2_with fail
  refine (HI.out _).mono ?_
  rintro e w3 ⟨rfl, m1, m2⟩
  have HF3 := hide m1
  have HB3 := hide m2
  clear m1 m2 HI
  obtain ⟨K, hK⟩ : ∃ K, K = rk fl op1 := ⟨_, rfl⟩
  have hkl : K ≤ op1.length := by
    rw [hK]
    have := innerF_le [[108, 105], [117, 108], [111, 108]] (nmsF fl op1)
    have e : (nmsF fl op1).length = op1.length := by unfold nmsF; simp
    unfold rk
    omega
  rw [← hK]
  have hli : rli (bl name) fl op1 = (decide (bl name = [108, 105]) && (decide (0 < K) && decide (nmF fl (op1.getD (K - 1) 0) = [108, 105]))) := by rw [hK]; rfl
  rw [← hK] at HWAY
  obtain ⟨RL, hRL⟩ : ∃ RL, RL = rli (bl name) fl op1 := ⟨_, rfl⟩
  rw [← hRL] at hli HWAY
  have HLI := hide hli
  clear hK hli hRL
  go_upto_region 3 with fail
  go_cut [38] from 14 (fun c wx => c = .bool RL ∧ Hid (FB wx base R fl op1 bad) ∧ Hid (Bel base w wx))
  case first =>
    have f0 := eqlit name [108, 105]
    by_cases e1 : bl name = [108, 105]
    · rw [decide_eq_true e1] at f0
      by_cases e2 : 0 < K
      · have hd : decide ((0 : Int) < (K : Int)) = true := decide_eq_true (by omega)
        obtain ⟨k, hk⟩ : ∃ k, K = k + 1 := ⟨K - 1, by omega⟩
        have hgo : op1[k]? = some op1[k] := List.getElem?_eq_getElem (by omega)
        have hgk := HIN1.out op1[k] (List.getElem_mem _)
        have hgd : op1.getD (K - 1) 0 = op1[k] := by
          have e : K - 1 = k := by omega
          rw [e, List.getD_eq_getElem?_getD, hgo]
          rfl
        have hrl := HLI.out
        rw [hgd, decide_eq_true e1, decide_eq_true e2] at hrl
        generalize op1[k] = q at hgo hgk hrl
        have hgf : fl[q]? = some fl[q] := List.getElem?_eq_getElem hgk
        generalize fl[q] = f at hgf
        obtain ⟨lp, lc, pp, pc, hR, hf, ho⟩ := HF3.out.reads
        obtain ⟨g2, rfl, x0, -⟩ := hf q f hgf
        obtain ⟨g1, rfl, x1⟩ := ho k q hgo
        have c0 : w3.cell? ⟨R, 0, none⟩ = some (.slice (some ⟨g2, 0, none⟩) fl.length lc) := tag_cell hR 0 _ rfl
        have c1 : w3.cell? ⟨R, 1, none⟩ = some (.slice (some ⟨g1, 0, none⟩) op1.length pc) := tag_cell hR 1 _ rfl
        have hnm : nmF fl q = f.name := by unfold nmF; rw [hgf]; rfl
        rw [hnm] at hrl
        obtain ⟨XN, hXN⟩ : ∃ X : ByteArray, X = ⟨f.name.toArray⟩ := ⟨_, rfl⟩
        rw [← hXN] at x0
        have f1 : (XN.toList == [108, 105]) = decide (f.name = [108, 105]) := by rw [eqlit, hXN]
        obtain ⟨T, hT⟩ : ∃ T : Bool, T = decide (f.name = [108, 105]) := ⟨_, rfl⟩
        rw [← hT] at f1 hrl
        have hkl1 : k < op1.length := by omega
        have HRL : Hid (RL = T) := hide (by rw [hrl]; simp)
        clear hR hf ho hgf hgo hgd hnm hXN hT e1 e2 HLI HWAY hrl
        subst hk
        cases T with
        | true =>
          go_quiet (fail)
          go_wp2_with fail
          go_meet
          exact ⟨by rw [HRL.out], hide (HF3.out.under (bel_drewN _ _)), hide (HB3.out.trans (Bel.of (bel_drewN _ _) HF3.out.2.1))⟩
        | false =>
          go_quiet (fail)
          go_wp2_with fail
          go_meet
          exact ⟨by rw [HRL.out], hide (HF3.out.under (bel_drewN _ _)), hide (HB3.out.trans (Bel.of (bel_drewN _ _) HF3.out.2.1))⟩
      · have hk0 : K = 0 := by omega
        have hrl := HLI.out
        rw [decide_eq_false e2, Bool.false_and, Bool.and_false] at hrl
        have HRL := hide hrl
        subst hk0
        clear e1 e2 HLI HWAY hrl
        go_quiet (fail)
        go_wp2_with fail
        go_meet
        exact ⟨by rw [HRL.out], hide (HF3.out.under (bel_drewN _ _)), hide (HB3.out.trans (Bel.of (bel_drewN _ _) HF3.out.2.1))⟩
    · rw [decide_eq_false e1] at f0
      have hrl := HLI.out
      rw [decide_eq_false e1, Bool.false_and] at hrl
      have HRL := hide hrl
      clear e1 HLI HWAY hrl
      go_quiet (fail)
      go_wp2_with fail
      go_meet
      exact ⟨by rw [HRL.out], hide (HF3.out.under (bel_drewN _ _)), hide (HB3.out.trans (Bel.of (bel_drewN _ _) HF3.out.2.1))⟩
  case rest =>
  obtain ⟨rfl, HF4, HB4⟩ := hcut
  clear HF3 HB3
  go_upto_if 38 with fail
  go_cut [46] from 39 (fun c wx => Hid (FB wx base R fl op2 bad) ∧ Hid (Bel base w wx))
  case first =>
    cases RL with
    | true =>
      have hw2 : op2 = op1.take (K - 1) := HWAY.out
      by_cases hk0 : K = 0
      · have := HLI.out
        rw [hk0] at this
        simp at this
      · obtain ⟨k, hk⟩ : ∃ k, K = k + 1 := ⟨K - 1, by omega⟩
        obtain ⟨lp, lc, pp, pc, hR, -, ho⟩ := HF4.out.reads
        have hcap := HF4.out.cap hR
        have c1 : wc.cell? ⟨R, 1, none⟩ = some (.slice pp op1.length pc) := tag_cell hR 1 _ rfl
        have f1 := tag_free hR 1
        obtain ⟨g, hg, -⟩ := ho 0 _ (List.getElem?_eq_getElem (by omega))
        have HE := hide (And.intro (HF4.out.shut hR (m := K - 1) (by omega) (by rw [hg]; simp)) (HB4.out.trans (Bel.set hR (by decide) hbR 1 (.slice pp (K - 1) pc))))
        rw [← hw2] at HE
        subst hg
        subst hk
        clear hR ho HF4 HB4 hw2 HWAY hk0 HLI
        go_wp2_with fail
        go_meet
        exact ⟨hide HE.out.1, hide HE.out.2⟩
    | false =>
      have hw2 : op2 = op1 := HWAY.out
      subst hw2
      clear HWAY HLI
      go_wp2_with fail
      go_meet
      exact ⟨HF4, HB4⟩
  case rest =>
  obtain ⟨HF5, HB5⟩ := hcut
  clear HF4 HB4 HWAY HLI
  have HPUT := hide (rput_st wc base R fl op2 bad name ⟨#[]⟩ ap am ac at' HF5.out (by omega) (by omega))
  go_wp2_with fail
  refine HPUT.out.mono ?_
  rintro e w6 ⟨rfl, m1, m2⟩
  have HF6 := hide m1
  have HB6 := hide (HB5.out.trans m2)
  clear m1 m2 HPUT HF5 HB5
  obtain ⟨flx, hflx⟩ : ∃ flx : List Fl, flx = fl ++ [⟨bl name, at', [], hereF op2, ap, am, ac⟩] := ⟨_, rfl⟩
  obtain ⟨bx, hbx⟩ : ∃ bx : Bool, bx = (bad || decide (2000 < fl.length + 1)) := ⟨_, rfl⟩
  replace HF6 : Hid (FB w6 base R flx op2 bx) := hide (by rw [hflx, hbx]; exact HF6.out)
  have HX := hide (And.intro hflx hbx)
  have hfl : flx.length = fl.length + 1 := by rw [hflx]; simp
  clear hflx hbx
  obtain ⟨V, hV⟩ : ∃ V, V = decide (bl name ∈ voids) := ⟨_, rfl⟩
  have HVO := hide (rvoid_any name w6)
  rw [← hV] at HVO
  have HV := hide hV
  clear hV
  go_wp2_with fail
  refine HVO.out.mono ?_
  rintro e w7 ⟨rfl, hb7⟩
  have HF7 := hide (HF6.out.under hb7)
  have HB7 := hide (HB6.out.trans (Bel.of hb7 HF6.out.2.1))
  clear hb7 HF6 HB6 HVO
  cases V with
  | true =>
    have hv := of_decide_eq_true HV.out.symm
    have HE : Hid (FB w7 base R (fl ++ [⟨bl name, at', [], hereF op2, ap, am, ac⟩]) opx bdx ∧ Bel base w w7) := hide (by
      rw [HOX.out.1, HOX.out.2, if_pos hv, if_pos hv, ← HX.out.1, ← HX.out.2]
      exact ⟨HF7.out, HB7.out⟩)
    clear hv HV HX HOX
    go_wp2_with fail
    go_end0
    exact ⟨rfl, HE.out⟩
  | false =>
  have hv := of_decide_eq_false HV.out.symm
  have HVV := hide hv
  clear hv HV
  obtain ⟨i0, hi, hz0, hz1, hz2⟩ := info_parts infoInt
  obtain ⟨M, hM⟩ : ∃ M, M = fl.length := ⟨_, rfl⟩
  obtain ⟨N, hN⟩ : ∃ N, N = op2.length := ⟨_, rfl⟩
  rw [← hM] at hfl hlf
  rw [← hN] at hsub2
  obtain ⟨wd, hwd⟩ : ∃ wd, wd = w7.drew := ⟨_, rfl⟩
  have hbd : Below w7.heap.size w7 wd := by rw [hwd]; exact bel_one _
  have hfd := HF7.out.under hbd
  have HB := hide (HB7.out.trans (Bel.of hbd HF7.out.2.1))
  obtain ⟨lp, lc, pp, pc, hR, -, -⟩ := hfd.reads
  have c0 : wd.cell? ⟨R, 0, none⟩ = some (.slice lp flx.length lc) := tag_cell hR 0 _ rfl
  have c1 : wd.cell? ⟨R, 1, none⟩ = some (.slice pp op2.length pc) := tag_cell hR 1 _ rfl
  rw [hfl] at c0
  rw [← hN] at c1
  have HFB := hide hfd
  have HN := hide hN
  have HM := hide hM
  clear hbd hfd hR hM hN HF7 HB7 hfl
  go_wp2_with fail
  refine wp_region_any (by kernel_rfl) ?_
  try (change wpAny _ _ _ _ _ _ _ (World.drew _))
  rw [← hwd]
  clear hwd
  refine wpAny_to (i := 0) (v := .pointer (some ⟨R, 0, none⟩)) (a' := ?ax0q1) rfl (by kernel_rfl) (by kernel_rfl) (by kernel_rfl) (fun _ _ _ h => h) (Or.inl ⟨by rfl, ?yi⟩) ?ha ?_
  case yi => intro w; go_simp; try omega
  case ha => go_simp; try exact rfl
  refine wpAny_to (i := 1) (v := .pointer (some ⟨R, 0, none⟩)) (a' := ?ax1q2) rfl (by kernel_rfl) (by kernel_rfl) (by kernel_rfl) (fun _ _ _ h => h) (Or.inl ⟨by rfl, ?yi⟩) ?ha ?_
  case yi => intro w; go_simp; try omega
  case ha => go_simp; try exact rfl
  refine wpAny_to (i := 2) (v := .pointer (some ⟨R, 0, none⟩)) (a' := ?ax2q3) rfl (by kernel_rfl) (by kernel_rfl) (by kernel_rfl) (fun _ _ _ h => h) (Or.inl ⟨by rfl, ?yi⟩) ?ha ?_
  case yi => intro w; go_simp; try omega
  case ha => go_simp; try exact rfl
  refine wpAny_to (i := 3) (v := .pointer (some ⟨R, 1, none⟩)) (a' := ?ax3q4) rfl (by kernel_rfl) (by kernel_rfl) (by kernel_rfl) (fun _ _ _ h => h) (Or.inl ⟨by rfl, ?yi⟩) ?ha ?_
  case yi => intro w; go_simp; try omega
  case ha => go_simp; try exact rfl
  refine wpAny_to (i := 5) (v := .pointer (some ⟨R, 0, none⟩)) (a' := ?ax5q5) rfl (by kernel_rfl) (by kernel_rfl) (by kernel_rfl) (fun _ _ _ h => h) (Or.inl ⟨by rfl, ?yi⟩) ?ha ?_
  case yi => intro w; go_simp; try omega
  case ha => go_simp; try exact rfl
  refine wpAny_to (i := 6) (v := .pointer (some ⟨R, 0, none⟩)) (a' := ?ax6q6) rfl (by kernel_rfl) (by kernel_rfl) (by kernel_rfl) (fun _ _ _ h => h) (Or.inl ⟨by rfl, ?yi⟩) ?ha ?_
  case yi => intro w; go_simp; try omega
  case ha => go_simp; try exact rfl
  refine wpAny_to (i := 7) (v := .pointer (some ⟨R, 0, none⟩)) (a' := ?ax7q7) rfl (by kernel_rfl) (by kernel_rfl) (by kernel_rfl) (fun _ _ _ h => h) (Or.inl ⟨by rfl, ?yi⟩) ?ha ?_
  case yi => intro w; go_simp; try omega
  case ha => go_simp; try exact rfl
  refine wpAny_ready (rs := [4, 8]) (by kernel_rfl) (by simp) ?_
  refine AllReady.cons rfl (fun K hK => ?_) (AllReady.cons rfl (fun K hK => ?_) AllReady.nil)
  · go_simp
    go_wp2_with fail
    refine wpAny_ready (rs := [8]) (by kernel_rfl) (by simp) ?_
    refine AllReady.cons rfl (fun K hK => ?_) AllReady.nil
    go_simp
    go_wp2_with fail
    refine wpAny_to (i := 9) (v := .int .i64 ((M : Int) + 1)) (a' := ?ax9q8) rfl (by kernel_rfl) (by kernel_rfl) (by kernel_rfl) (fun _ _ _ h => h) (Or.inl ⟨by rfl, ?yi⟩) ?ha ?_
    case yi => intro w; go_simp; try omega
    case ha => go_simp; try exact rfl
    refine wpAny_to (i := 10) (v := .int .i64 (M : Int)) (a' := ?ax10q9) rfl (by kernel_rfl) (by kernel_rfl) (by kernel_rfl) (fun _ _ _ h => h) (Or.inl ⟨by rfl, ?yi⟩) ?ha ?_
    case yi => intro w; go_simp; try exact IntWalk.i64_in _ (by omega)
    case ha => go_simp; try exact rfl
    refine wpAny_ready (rs := [11]) (by kernel_rfl) (by simp) ?_
    refine AllReady.cons rfl (fun K hK => ?_) AllReady.nil
    go_simp
    go_wp2_with fail
    have hal : Below wd.heap.size wd (wd.alloc (.cells #[.int .i64 (M : Int)] 3)) := (Below.refl _ _).alloc (Nat.le_refl _) _
    obtain ⟨wa, hwa⟩ : ∃ wa, wa = wd.alloc (.cells #[.int .i64 (M : Int)] 3) := ⟨_, rfl⟩
    rw [← hwa] at hal ⊢
    have na := five_newA wd #[.int .i64 (M : Int)] 3
    rw [← hwa] at na
    have HNA := hide na
    replace c0 := cell_keep c0 hal
    replace c1 := cell_keep c1 hal
    have HFA := hide (HFB.out.under hal)
    have HBA := hide (HB.out.trans (Bel.of hal HFB.out.2.1))
    clear hal hwa na
    refine wpAny_ready (rs := [12]) (by kernel_rfl) (by simp) ?_
    refine AllReady.cons rfl (fun K hK => ?_) AllReady.nil
    rw [if_pos (by rfl)]
    obtain ⟨lp', lc', pp', pc', hR, -, -⟩ := HFA.out.reads
    have hov := (tag_cell hR 1 _ rfl).symm.trans c1
    injection hov with hov
    injection hov with hov1 _ hov3
    subst hov1
    subst hov3
    have hro := HFA.out.ops hR
    rw [← HN.out] at hro
    have hzz := HFA.out.2.1
    have hbR := HFA.out.1
    have HR := hide hR
    clear hR
    refine wp_append_own _ (.tmp 61) (.tmp 68) 55 rfl base 3 i0 _ 1 8 Try.underlying55 hi hz0 hz1 hz2 rfl (by decide) (.slice pp' N pc') N (opCells op2) rfl hro ⟨wd.heap.size, 0, none⟩ 1 1 [.int .i64 (M : Int)] rfl rfl HNA.out (by intro u hu; simp only [List.mem_cons, List.not_mem_nil, or_false] at hu; rw [hu]; rfl) (by unfold maxLen; omega) (by omega) hzz ?_
    intro v' w5 hown5 hgr5 _
    obtain ⟨bp, bm, bc, rfl⟩ := own_slice hown5
    have h5 : w5.ownsRow base 3 1 (.slice bp bm bc) (op2.length + 1) (opCells op2 ++ [.int .i64 (M : Int)]) := by rw [← HN.out]; exact hown5
    rw [HN.out] at hgr5
    have hpf := open_fb HFA.out HR.out h5 hgr5
    obtain ⟨hR5, hfb5, hbl5⟩ := hpf
    have s0 : w5.cell? ⟨R, 1, none⟩ = some (.slice pp' op2.length pc') := tag_cell hR5 1 _ rfl
    have sf := tag_free hR5 1
    rw [← HN.out] at s0
    have HFB3 := hide hfb5
    have HB3 := hide (HBA.out.trans hbl5)
    clear hR5 hfb5 hbl5 hown5 hgr5 h5 hro HFA HBA HR HNA
    refine hK _ _ ?_
    clear hK K
    refine wpAny_to (i := 13) (v := .pointer (some ⟨R, 0, none⟩)) (a' := ?ax13q10) rfl (by kernel_rfl) (by kernel_rfl) (by kernel_rfl) (fun _ _ _ h => h) (Or.inl ⟨by rfl, ?yi⟩) ?ha ?_
    case yi => intro w; go_simp; try omega
    case ha => go_simp; try exact rfl
    refine wpAny_to (i := 14) (v := .pointer (some ⟨R, 1, none⟩)) (a' := ?ax14q11) rfl (by kernel_rfl) (by kernel_rfl) (by kernel_rfl) (fun _ _ _ h => h) (Or.inl ⟨by rfl, ?yi⟩) ?ha ?_
    case yi => intro w; go_simp; try omega
    case ha => go_simp; try exact rfl
    refine wpAny_ready (rs := [15]) (by kernel_rfl) (by simp) ?_
    refine AllReady.cons rfl (fun K hK => ?_) AllReady.nil
    go_simp
    go_wp2_with fail
    refine wpAny_done (by kernel_rfl) ?_ _
    obtain ⟨w6, hw6⟩ : ∃ w6, w6 = w5.setCell ⟨R, 1, none⟩ (.slice bp bm bc) := ⟨_, rfl⟩
    rw [← hw6] at HFB3 HB3 ⊢
    obtain ⟨lp6, lc6, pp6, pc6, hR6, -, -⟩ := HFB3.out.reads
    have t1 : w6.cell? ⟨R, 1, none⟩ = some (.slice pp6 (N + 1) pc6) := by
      have := tag_cell hR6 1 _ rfl
      rw [List.length_append, ← HN.out] at this
      exact this
    have t2 : w6.cell? ⟨R, 2, none⟩ = some (.bool bx) := tag_cell hR6 2 _ rfl
    have tf := tag_free hR6 2
    have HOF : Hid (opx = op2 ++ [M] ∧ bdx = (bx || decide (64 < N + 1))) := hide (by rw [HOX.out.1, HOX.out.2, if_neg HVV.out, if_neg HVV.out, HM.out, HN.out, HX.out.2]; exact ⟨rfl, rfl⟩)
    have HXX : Hid (flx = fl ++ [⟨bl name, at', [], hereF op2, ap, am, ac⟩]) := hide HX.out.1
    clear hw6 s0 sf HOX HX HVV HN HM
    by_cases hbig : 64 < N + 1
    · have hd : decide ((64 : Int) < (N : Int) + 1) = true := decide_eq_true (by omega)
      have HE := hide (And.intro (HFB3.out.setBad true) (HB3.out.trans (Bel.set hR6 (by decide) hbR 2 (.bool true))))
      clear HFB3 HB3 hR6
      go_wp2_with fail
      go_end0
      refine ⟨rfl, ?_⟩
      rw [HOF.out.1, HOF.out.2, decide_eq_true (show 64 < N + 1 by omega), Bool.or_true, ← HXX.out]
      exact HE.out
    · have hd : decide ((64 : Int) < (N : Int) + 1) = false := decide_eq_false (by omega)
      clear hR6
      go_wp2_with fail
      go_end0
      refine ⟨rfl, ?_⟩
      rw [HOF.out.1, HOF.out.2, decide_eq_false (show ¬ 64 < N + 1 by omega), Bool.or_false, ← HXX.out]
      exact ⟨HFB3.out, HB3.out⟩
  · go_simp
    go_wp2_with fail
    refine wpAny_to (i := 9) (v := .int .i64 ((M : Int) + 1)) (a' := ?ax9q12) rfl (by kernel_rfl) (by kernel_rfl) (by kernel_rfl) (fun _ _ _ h => h) (Or.inl ⟨by rfl, ?yi⟩) ?ha ?_
    case yi => intro w; go_simp; try omega
    case ha => go_simp; try exact rfl
    refine wpAny_to (i := 10) (v := .int .i64 (M : Int)) (a' := ?ax10q13) rfl (by kernel_rfl) (by kernel_rfl) (by kernel_rfl) (fun _ _ _ h => h) (Or.inl ⟨by rfl, ?yi⟩) ?ha ?_
    case yi => intro w; go_simp; try exact IntWalk.i64_in _ (by omega)
    case ha => go_simp; try exact rfl
    refine wpAny_ready (rs := [4, 11]) (by kernel_rfl) (by simp) ?_
    refine AllReady.cons rfl (fun K hK => ?_) (AllReady.cons rfl (fun K hK => ?_) AllReady.nil)
    · go_simp
      go_wp2_with fail
      refine wpAny_ready (rs := [11]) (by kernel_rfl) (by simp) ?_
      refine AllReady.cons rfl (fun K hK => ?_) AllReady.nil
      go_simp
      go_wp2_with fail
      have hal : Below wd.heap.size wd (wd.alloc (.cells #[.int .i64 (M : Int)] 3)) := (Below.refl _ _).alloc (Nat.le_refl _) _
      obtain ⟨wa, hwa⟩ : ∃ wa, wa = wd.alloc (.cells #[.int .i64 (M : Int)] 3) := ⟨_, rfl⟩
      rw [← hwa] at hal ⊢
      have na := five_newA wd #[.int .i64 (M : Int)] 3
      rw [← hwa] at na
      have HNA := hide na
      replace c0 := cell_keep c0 hal
      replace c1 := cell_keep c1 hal
      have HFA := hide (HFB.out.under hal)
      have HBA := hide (HB.out.trans (Bel.of hal HFB.out.2.1))
      clear hal hwa na
      refine wpAny_ready (rs := [12]) (by kernel_rfl) (by simp) ?_
      refine AllReady.cons rfl (fun K hK => ?_) AllReady.nil
      rw [if_pos (by rfl)]
      obtain ⟨lp', lc', pp', pc', hR, -, -⟩ := HFA.out.reads
      have hov := (tag_cell hR 1 _ rfl).symm.trans c1
      injection hov with hov
      injection hov with hov1 _ hov3
      subst hov1
      subst hov3
      have hro := HFA.out.ops hR
      rw [← HN.out] at hro
      have hzz := HFA.out.2.1
      have hbR := HFA.out.1
      have HR := hide hR
      clear hR
      refine wp_append_own _ (.tmp 61) (.tmp 68) 55 rfl base 3 i0 _ 1 8 Try.underlying55 hi hz0 hz1 hz2 rfl (by decide) (.slice pp' N pc') N (opCells op2) rfl hro ⟨wd.heap.size, 0, none⟩ 1 1 [.int .i64 (M : Int)] rfl rfl HNA.out (by intro u hu; simp only [List.mem_cons, List.not_mem_nil, or_false] at hu; rw [hu]; rfl) (by unfold maxLen; omega) (by omega) hzz ?_
      intro v' w5 hown5 hgr5 _
      obtain ⟨bp, bm, bc, rfl⟩ := own_slice hown5
      have h5 : w5.ownsRow base 3 1 (.slice bp bm bc) (op2.length + 1) (opCells op2 ++ [.int .i64 (M : Int)]) := by rw [← HN.out]; exact hown5
      rw [HN.out] at hgr5
      have hpf := open_fb HFA.out HR.out h5 hgr5
      obtain ⟨hR5, hfb5, hbl5⟩ := hpf
      have s0 : w5.cell? ⟨R, 1, none⟩ = some (.slice pp' op2.length pc') := tag_cell hR5 1 _ rfl
      have sf := tag_free hR5 1
      rw [← HN.out] at s0
      have HFB3 := hide hfb5
      have HB3 := hide (HBA.out.trans hbl5)
      clear hR5 hfb5 hbl5 hown5 hgr5 h5 hro HFA HBA HR HNA
      refine hK _ _ ?_
      clear hK K
      refine wpAny_to (i := 13) (v := .pointer (some ⟨R, 0, none⟩)) (a' := ?ax13q14) rfl (by kernel_rfl) (by kernel_rfl) (by kernel_rfl) (fun _ _ _ h => h) (Or.inl ⟨by rfl, ?yi⟩) ?ha ?_
      case yi => intro w; go_simp; try omega
      case ha => go_simp; try exact rfl
      refine wpAny_to (i := 14) (v := .pointer (some ⟨R, 1, none⟩)) (a' := ?ax14q15) rfl (by kernel_rfl) (by kernel_rfl) (by kernel_rfl) (fun _ _ _ h => h) (Or.inl ⟨by rfl, ?yi⟩) ?ha ?_
      case yi => intro w; go_simp; try omega
      case ha => go_simp; try exact rfl
      refine wpAny_ready (rs := [15]) (by kernel_rfl) (by simp) ?_
      refine AllReady.cons rfl (fun K hK => ?_) AllReady.nil
      go_simp
      go_wp2_with fail
      refine wpAny_done (by kernel_rfl) ?_ _
      obtain ⟨w6, hw6⟩ : ∃ w6, w6 = w5.setCell ⟨R, 1, none⟩ (.slice bp bm bc) := ⟨_, rfl⟩
      rw [← hw6] at HFB3 HB3 ⊢
      obtain ⟨lp6, lc6, pp6, pc6, hR6, -, -⟩ := HFB3.out.reads
      have t1 : w6.cell? ⟨R, 1, none⟩ = some (.slice pp6 (N + 1) pc6) := by
        have := tag_cell hR6 1 _ rfl
        rw [List.length_append, ← HN.out] at this
        exact this
      have t2 : w6.cell? ⟨R, 2, none⟩ = some (.bool bx) := tag_cell hR6 2 _ rfl
      have tf := tag_free hR6 2
      have HOF : Hid (opx = op2 ++ [M] ∧ bdx = (bx || decide (64 < N + 1))) := hide (by rw [HOX.out.1, HOX.out.2, if_neg HVV.out, if_neg HVV.out, HM.out, HN.out, HX.out.2]; exact ⟨rfl, rfl⟩)
      have HXX : Hid (flx = fl ++ [⟨bl name, at', [], hereF op2, ap, am, ac⟩]) := hide HX.out.1
      clear hw6 s0 sf HOX HX HVV HN HM
      by_cases hbig : 64 < N + 1
      · have hd : decide ((64 : Int) < (N : Int) + 1) = true := decide_eq_true (by omega)
        have HE := hide (And.intro (HFB3.out.setBad true) (HB3.out.trans (Bel.set hR6 (by decide) hbR 2 (.bool true))))
        clear HFB3 HB3 hR6
        go_wp2_with fail
        go_end0
        refine ⟨rfl, ?_⟩
        rw [HOF.out.1, HOF.out.2, decide_eq_true (show 64 < N + 1 by omega), Bool.or_true, ← HXX.out]
        exact HE.out
      · have hd : decide ((64 : Int) < (N : Int) + 1) = false := decide_eq_false (by omega)
        clear hR6
        go_wp2_with fail
        go_end0
        refine ⟨rfl, ?_⟩
        rw [HOF.out.1, HOF.out.2, decide_eq_false (show ¬ 64 < N + 1 by omega), Bool.or_false, ← HXX.out]
        exact ⟨HFB3.out, HB3.out⟩
    · go_simp
      go_wp2_with fail
      have hal : Below wd.heap.size wd (wd.alloc (.cells #[.int .i64 (M : Int)] 3)) := (Below.refl _ _).alloc (Nat.le_refl _) _
      obtain ⟨wa, hwa⟩ : ∃ wa, wa = wd.alloc (.cells #[.int .i64 (M : Int)] 3) := ⟨_, rfl⟩
      rw [← hwa] at hal ⊢
      have na := five_newA wd #[.int .i64 (M : Int)] 3
      rw [← hwa] at na
      have HNA := hide na
      replace c0 := cell_keep c0 hal
      replace c1 := cell_keep c1 hal
      have HFA := hide (HFB.out.under hal)
      have HBA := hide (HB.out.trans (Bel.of hal HFB.out.2.1))
      clear hal hwa na
      refine wpAny_ready (rs := [4]) (by kernel_rfl) (by simp) ?_
      refine AllReady.cons rfl (fun K hK => ?_) AllReady.nil
      go_simp
      go_wp2_with fail
      refine wpAny_ready (rs := [12]) (by kernel_rfl) (by simp) ?_
      refine AllReady.cons rfl (fun K hK => ?_) AllReady.nil
      rw [if_pos (by rfl)]
      obtain ⟨lp', lc', pp', pc', hR, -, -⟩ := HFA.out.reads
      have hov := (tag_cell hR 1 _ rfl).symm.trans c1
      injection hov with hov
      injection hov with hov1 _ hov3
      subst hov1
      subst hov3
      have hro := HFA.out.ops hR
      rw [← HN.out] at hro
      have hzz := HFA.out.2.1
      have hbR := HFA.out.1
      have HR := hide hR
      clear hR
      refine wp_append_own _ (.tmp 61) (.tmp 68) 55 rfl base 3 i0 _ 1 8 Try.underlying55 hi hz0 hz1 hz2 rfl (by decide) (.slice pp' N pc') N (opCells op2) rfl hro ⟨wd.heap.size, 0, none⟩ 1 1 [.int .i64 (M : Int)] rfl rfl HNA.out (by intro u hu; simp only [List.mem_cons, List.not_mem_nil, or_false] at hu; rw [hu]; rfl) (by unfold maxLen; omega) (by omega) hzz ?_
      intro v' w5 hown5 hgr5 _
      obtain ⟨bp, bm, bc, rfl⟩ := own_slice hown5
      have h5 : w5.ownsRow base 3 1 (.slice bp bm bc) (op2.length + 1) (opCells op2 ++ [.int .i64 (M : Int)]) := by rw [← HN.out]; exact hown5
      rw [HN.out] at hgr5
      have hpf := open_fb HFA.out HR.out h5 hgr5
      obtain ⟨hR5, hfb5, hbl5⟩ := hpf
      have s0 : w5.cell? ⟨R, 1, none⟩ = some (.slice pp' op2.length pc') := tag_cell hR5 1 _ rfl
      have sf := tag_free hR5 1
      rw [← HN.out] at s0
      have HFB3 := hide hfb5
      have HB3 := hide (HBA.out.trans hbl5)
      clear hR5 hfb5 hbl5 hown5 hgr5 h5 hro HFA HBA HR HNA
      refine hK _ _ ?_
      clear hK K
      refine wpAny_to (i := 13) (v := .pointer (some ⟨R, 0, none⟩)) (a' := ?ax13q16) rfl (by kernel_rfl) (by kernel_rfl) (by kernel_rfl) (fun _ _ _ h => h) (Or.inl ⟨by rfl, ?yi⟩) ?ha ?_
      case yi => intro w; go_simp; try omega
      case ha => go_simp; try exact rfl
      refine wpAny_to (i := 14) (v := .pointer (some ⟨R, 1, none⟩)) (a' := ?ax14q17) rfl (by kernel_rfl) (by kernel_rfl) (by kernel_rfl) (fun _ _ _ h => h) (Or.inl ⟨by rfl, ?yi⟩) ?ha ?_
      case yi => intro w; go_simp; try omega
      case ha => go_simp; try exact rfl
      refine wpAny_ready (rs := [15]) (by kernel_rfl) (by simp) ?_
      refine AllReady.cons rfl (fun K hK => ?_) AllReady.nil
      go_simp
      go_wp2_with fail
      refine wpAny_done (by kernel_rfl) ?_ _
      obtain ⟨w6, hw6⟩ : ∃ w6, w6 = w5.setCell ⟨R, 1, none⟩ (.slice bp bm bc) := ⟨_, rfl⟩
      rw [← hw6] at HFB3 HB3 ⊢
      obtain ⟨lp6, lc6, pp6, pc6, hR6, -, -⟩ := HFB3.out.reads
      have t1 : w6.cell? ⟨R, 1, none⟩ = some (.slice pp6 (N + 1) pc6) := by
        have := tag_cell hR6 1 _ rfl
        rw [List.length_append, ← HN.out] at this
        exact this
      have t2 : w6.cell? ⟨R, 2, none⟩ = some (.bool bx) := tag_cell hR6 2 _ rfl
      have tf := tag_free hR6 2
      have HOF : Hid (opx = op2 ++ [M] ∧ bdx = (bx || decide (64 < N + 1))) := hide (by rw [HOX.out.1, HOX.out.2, if_neg HVV.out, if_neg HVV.out, HM.out, HN.out, HX.out.2]; exact ⟨rfl, rfl⟩)
      have HXX : Hid (flx = fl ++ [⟨bl name, at', [], hereF op2, ap, am, ac⟩]) := hide HX.out.1
      clear hw6 s0 sf HOX HX HVV HN HM
      by_cases hbig : 64 < N + 1
      · have hd : decide ((64 : Int) < (N : Int) + 1) = true := decide_eq_true (by omega)
        have HE := hide (And.intro (HFB3.out.setBad true) (HB3.out.trans (Bel.set hR6 (by decide) hbR 2 (.bool true))))
        clear HFB3 HB3 hR6
        go_wp2_with fail
        go_end0
        refine ⟨rfl, ?_⟩
        rw [HOF.out.1, HOF.out.2, decide_eq_true (show 64 < N + 1 by omega), Bool.or_true, ← HXX.out]
        exact HE.out
      · have hd : decide ((64 : Int) < (N : Int) + 1) = false := decide_eq_false (by omega)
        clear hR6
        go_wp2_with fail
        go_end0
        refine ⟨rfl, ?_⟩
        rw [HOF.out.1, HOF.out.2, decide_eq_false (show ¬ 64 < N + 1 by omega), Bool.or_false, ← HXX.out]
        exact ⟨HFB3.out, HB3.out⟩
end Go.Proofs.Ytkdppcpkigpmdaa
