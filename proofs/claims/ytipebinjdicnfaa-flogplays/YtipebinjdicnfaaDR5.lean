/-
  The document's device, walked: Append.
-/
import Derived.Test.YtipebinjdicnfaaDR4
namespace Go.Proofs.Ytipebinjdicnfaa
open Go.RowKit

def Rv.app (s : Rv) (b : List UInt8) : Rv × Int :=
  if s.off then (s, 11) else if 60000 < s.la.length + s.wa.length + b.length then (s, 10) else if s.n = 0 then (s.goes, 11) else (⟨s.la, s.wa ++ b, s.goes.n, false⟩, 0)

set_option maxHeartbeats 2000000 in
theorem rappend_any (w : World) (B : Nat) (s : Rv) (F : List Nat) (v : Value) (l : List UInt8) (h : RefIn w B s F) (hv : IsBytes w v l) (hvF : l ≠ [] → ∀ k, v.ownBlock = some k → k ∉ F) (hvl : l.length ≤ 100000) :
    Calls Try.prog 32 #[.pointer (some ⟨B, 0, none⟩), v] w fun e w' => e = .returned (.int .i64 (s.app l).2) ∧ RLeft w w' B (s.app l).1 F := by
  have HGA : Hid (∀ w0, RefIn w0 B s F → Calls Try.prog 40 #[.pointer (some ⟨B, 0, none⟩)] w0 fun e w' => e = .returned (.bool (s.n == 0)) ∧ RLeft w0 w' B s.goes F) := hide (fun w0 h0 => rgoes_any w0 B s F h0)
  have HD := hide h
  have HV := hide hv
  have HVF := hide hvF
  have HDR : Hid (RefIn w.drew B s F) := hide (h.keep (keep_below (bel_one w) []) (by simp))
  obtain ⟨vp, vc, rfl⟩ := hv.slice
  obtain ⟨lv, wv, hb, hl, hw, _, hk, _⟩ := h
  have h6 := hk.1
  obtain ⟨lp, lc, rfl⟩ := own_len hl
  obtain ⟨wp, wc, rfl⟩ := own_len hw
  have c3 : w.cell? ⟨B, 3, none⟩ = some (.bool s.off) := tag_cell hb 3 _ rfl
  have c0 : w.cell? ⟨B, 0, none⟩ = some (.slice lp s.la.length lc) := tag_cell hb 0 _ rfl
  have c1 : w.cell? ⟨B, 1, none⟩ = some (.slice wp s.wa.length wc) := tag_cell hb 1 _ rfl
  have ew : IntKind.i64.wrap ((s.la.length : Int) + (s.wa.length : Int)) = (s.la.length : Int) + (s.wa.length : Int) := IntWalk.i64_in _ (by omega)
  have ew2 : IntKind.i64.wrap ((s.la.length : Int) + (s.wa.length : Int) + (l.length : Int)) = (s.la.length : Int) + (s.wa.length : Int) + (l.length : Int) := IntWalk.i64_in _ (by omega)
  clear hb hl hw hk hv hvF
  have HRR : Hid (RLeft w w.drew B s F) := hide ⟨F, HDR.out, Near.refl _ _, (Keep.refl w F).drew⟩
  cases hoff : s.off with
  | true =>
    rw [hoff] at c3
    have hs : s.app l = (s, 11) := by unfold Rv.app; rw [if_pos hoff]
    rw [hs]
    clear hs hoff
    go_enter Try.func32, Try.ntmps32
    go_wp2_with fail
    go_ret
    exact ⟨rfl, RLeft.refl HD.out⟩
  | false =>
    rw [hoff] at c3
    by_cases h1 : 60000 < s.la.length + s.wa.length + l.length
    · have hs : s.app l = (s, 10) := by unfold Rv.app; rw [if_neg (by rw [hoff]; decide), if_pos h1]
      rw [hs]
      have e1 : decide ((60000 : Int) < (s.la.length : Int) + (s.wa.length : Int) + (l.length : Int)) = true := by simp; omega
      clear hs hoff h1
      go_enter Try.func32, Try.ntmps32
      go_wp2_with fail
      go_region
      go_wp2_with fail
      go_ret
      exact ⟨rfl, HRR.out⟩
    have e1 : decide ((60000 : Int) < (s.la.length : Int) + (s.wa.length : Int) + (l.length : Int)) = false := by simp; omega
    by_cases h2 : s.n = 0
    · have hs : s.app l = (s.goes, 11) := by unfold Rv.app; rw [if_neg (by rw [hoff]; decide), if_neg h1, if_pos h2]
      rw [hs]
      have e2 : (s.n == 0) = true := by rw [h2]; rfl
      rw [e2] at HGA
      clear hs hoff h1 h2 e2
      go_enter Try.func32, Try.ntmps32
      go_wp2_with fail
      go_region
      go_wp2_with fail
      refine (HGA.out _ HDR.out).mono ?_
      rintro e w1 ⟨rfl, hl⟩
      have HL : Hid (RLeft w w1 B s.goes F) := hide (RLeft.then (Near.refl _ _) (Keep.refl w F).drew hl)
      clear hl
      go_wp2_with fail
      go_ret
      exact ⟨rfl, HL.out⟩
    have hs : s.app l = (⟨s.la, s.wa ++ l, s.goes.n, false⟩, 0) := by unfold Rv.app; rw [if_neg (by rw [hoff]; decide), if_neg h1, if_neg h2]
    rw [hs]
    have e2 : (s.n == 0) = false := beq_eq_false_iff_ne.2 h2
    rw [e2] at HGA
    have HO := hide ((s.goes_off h2).trans hoff)
    have H1 := hide h1
    clear hs hoff h1 h2 e2
    go_enter Try.func32, Try.ntmps32
    go_wp2_with fail
    go_region
    go_wp2_with fail
    refine (HGA.out _ HDR.out).mono ?_
    rintro e w1 ⟨rfl, F1, hd1, hn1, hk1⟩
    have HN1 : Hid (Near w F F1) := hide hn1
    have HK1 : Hid (Keep w w1 F) := hide ((Keep.refl w F).drew.trans (Near.refl _ _) hk1)
    have HBV : Hid (IsBytes w1 (.slice vp l.length vc) l) := hide (HK1.out.bytes HV.out HVF.out)
    clear hn1 hk1
    obtain ⟨lv1, wv1, hb1, hl1, hw1, hd, hok, hF1⟩ := hd1
    rw [s.goes_same.1] at hl1
    rw [s.goes_same.2] at hw1
    obtain ⟨wp1, wc1, rfl⟩ := own_len hw1
    have d1 : w1.cell? ⟨B, 1, none⟩ = some (.slice wp1 s.wa.length wc1) := tag_cell hb1 1 _ rfl
    have hbl : B < w1.heap.size := lt_of_block hb1
    have hne : ∀ k, (Value.slice wp1 s.wa.length wc1).ownBlock = some k → k ≠ B := fun k hk e => own_apart hw1 hb1 (by decide) (by rw [hk, e])
    have HB1 := hide hb1
    have HL1 := hide hl1
    have HW1 := hide hw1
    have HDD := hide hd
    have HOK := hide hok
    have HF1 := hide hF1
    have HNE := hide hne
    clear hb1 hl1 hw1 hd hok hF1 hne
    go_wp2_with (at_builtin; refine wpList_append_bytes rfl _ _ rfl 0 (.slice wp1 s.wa.length wc1) s.wa rfl HW1.out (.slice vp l.length vc) l rfl HBV.out (by omega) (Nat.zero_le _) ?_)
    intro v2 w2 ho2 hg2 hat2
    have hb2 : RB w2 B lv1 (.slice wp1 s.wa.length wc1) s.goes := (hg2.block B hbl (fun e => HNE.out B e.symm rfl)).trans HB1.out
    have g1 := tag_free hb2 1
    have d2 : w2.cell? ⟨B, 1, none⟩ = some (.slice wp1 s.wa.length wc1) := tag_cell hb2 1 _ rfl
    obtain ⟨p2, c2, rfl⟩ := own_len ho2
    have HX : Hid (RLeft w (w2.setCell ⟨B, 1, none⟩ (.slice p2 (s.wa.length + l.length) c2)) B ⟨s.la, s.wa ++ l, s.goes.n, false⟩ F) := hide (by
      have hm : B ∈ F1 := by rw [HF1.out]; exact List.mem_cons_self ..
      have hln : ∀ k, lv1.ownBlock = some k → k < w1.heap.size := fun k hk => (HL1.out.lt k hk).2
      refine RLeft.then HN1.out HK1.out ⟨_, ⟨lv1, .slice p2 (s.wa.length + l.length) c2, ?_, ?_, ?_, ?_, ?_, rfl⟩, ?_, ?_⟩
      · have h := tok_set hb2 1 (.slice p2 (s.wa.length + l.length) c2)
        rw [HO.out] at h
        exact h
      · refine own_set ?_ hb2 (by decide) 1 _
        refine HL1.out.kept hg2 ?_
        cases hv : lv1.ownBlock with
        | none => exact .inl rfl
        | some g => exact .inr (fun e => HDD.out g hv e.symm)
      · show World.ownsRow _ 0 5 1 _ (s.wa ++ l).length _
        rw [List.length_append]
        exact own_set ho2 hb2 (by decide) 1 _
      · intro k hk e
        rcases hat2 with h | h
        · exact HDD.out k hk (by rw [← h]; exact e)
        · rw [e] at h
          injection h with h
          have := hln k hk
          omega
      · have h := HOK.out
        unfold Rv.ok at h ⊢
        rw [s.goes_same.1, s.goes_same.2] at h
        have := H1.out
        refine ⟨?_, h.2⟩
        show s.la.length + (s.wa ++ l).length ≤ _
        rw [List.length_append]
        omega
      · intro k hk
        rw [HF1.out]
        rcases List.mem_cons.1 hk with rfl | hk
        · exact .inl (List.mem_cons_self ..)
        · rcases List.mem_append.1 hk with hk | hk
          · exact .inl (List.mem_cons_of_mem _ (List.mem_append_left _ hk))
          · rw [mem_blk] at hk
            rcases hat2 with h | h
            · exact .inl (List.mem_cons_of_mem _ (List.mem_append_right _ (mem_blk.2 (by rw [← h]; exact hk))))
            · rw [hk] at h
              injection h with h
              exact .inr (by omega)
      · refine ((Keep.refl w1 F1).grown hg2 (fun k hk => .inl ?_)).set (p := ⟨B, 1, none⟩) hm _
        rw [HF1.out]
        exact List.mem_cons_of_mem _ (List.mem_append_right _ (mem_blk.2 hk)))
    obtain ⟨NA, hNA⟩ : ∃ NA, NA = s.wa.length + l.length := ⟨_, rfl⟩
    rw [← hNA] at HX ⊢
    clear ho2 hg2 hat2 hb2 hNA
    go_wp2_with fail
    go_ret
    exact ⟨rfl, HX.out⟩
end Go.Proofs.Ytipebinjdicnfaa
