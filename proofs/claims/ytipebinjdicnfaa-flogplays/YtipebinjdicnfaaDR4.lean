/-
  The document's device, walked: Trim, Append.
-/
import Derived.Test.YtipebinjdicnfaaDR3
namespace Go.Proofs.Ytipebinjdicnfaa
open Go.RowKit

def Rv.trim (s : Rv) (n : Int) : Rv × Int :=
  if s.off then (s, 11) else if n < 0 ∨ ((s.la ++ s.wa).length : Int) < n then (s, 1) else if s.n = 0 then (s.goes, 11) else (⟨(s.la ++ s.wa).take n.toNat, [], s.goes.n, false⟩, 0)

set_option maxHeartbeats 1000000 in
theorem rtrim_any (w : World) (B : Nat) (s : Rv) (F : List Nat) (n : Int) (h : RefIn w B s F) (hn : -9223372036854775808 ≤ n ∧ n ≤ 9223372036854775807) :
    Calls Try.prog 36 #[.pointer (some ⟨B, 0, none⟩), .int .i64 n] w fun e w' => e = .returned (.int .i64 (s.trim n).2) ∧ RLeft w w' B (s.trim n).1 F := by
  have HGA : Hid (∀ w0, RefIn w0 B s F → Calls Try.prog 40 #[.pointer (some ⟨B, 0, none⟩)] w0 fun e w' => e = .returned (.bool (s.n == 0)) ∧ RLeft w0 w' B s.goes F) := hide (fun w0 h0 => rgoes_any w0 B s F h0)
  have HD := hide h
  have HDR : Hid (RefIn w.drew B s F) := hide (h.keep (keep_below (bel_one w) []) (by simp))
  obtain ⟨lv, wv, hb, hl, hw, _, hk, _⟩ := h
  have h6 := hk.1
  obtain ⟨lp, lc, rfl⟩ := own_len hl
  obtain ⟨wp, wc, rfl⟩ := own_len hw
  have c3 : w.cell? ⟨B, 3, none⟩ = some (.bool s.off) := tag_cell hb 3 _ rfl
  have c0 : w.cell? ⟨B, 0, none⟩ = some (.slice lp s.la.length lc) := tag_cell hb 0 _ rfl
  have c1 : w.cell? ⟨B, 1, none⟩ = some (.slice wp s.wa.length wc) := tag_cell hb 1 _ rfl
  have ew : IntKind.i64.wrap ((s.la.length : Int) + (s.wa.length : Int)) = (s.la.length : Int) + (s.wa.length : Int) := IntWalk.i64_in _ (by omega)
  have hdw : ∀ F' s', RLeft w.drew w B s' F' → True := fun _ _ _ => trivial
  clear hb hl hw hk hdw
  have HRR : Hid (RLeft w w.drew B s F) := hide ⟨F, HDR.out, Near.refl _ _, (Keep.refl w F).drew⟩
  cases hoff : s.off with
  | true =>
    rw [hoff] at c3
    have hs : s.trim n = (s, 11) := by unfold Rv.trim; rw [if_pos hoff]
    rw [hs]
    clear hs hoff
    go_enter Try.func36, Try.ntmps36
    go_wp2_with fail
    go_ret
    exact ⟨rfl, RLeft.refl HD.out⟩
  | false =>
    rw [hoff] at c3
    by_cases h0 : n < 0
    · have hs : s.trim n = (s, 1) := by unfold Rv.trim; rw [if_neg (by rw [hoff]; decide), if_pos (.inl h0)]
      rw [hs]
      have e0 : decide (n < 0) = true := by simpa using h0
      clear hs hoff h0
      go_enter Try.func36, Try.ntmps36
      go_wp2_with fail
      go_region
      go_wp2_with fail
      go_ret
      exact ⟨rfl, HRR.out⟩
    have e0 : decide (n < 0) = false := by simpa using h0
    by_cases h1 : (s.la.length : Int) + (s.wa.length : Int) < n
    · have hs : s.trim n = (s, 1) := by unfold Rv.trim; rw [if_neg (by rw [hoff]; decide), if_pos (.inr (by rw [List.length_append]; omega))]
      rw [hs]
      have e1 : decide ((s.la.length : Int) + (s.wa.length : Int) < n) = true := by simpa using h1
      clear hs hoff h0 h1
      go_enter Try.func36, Try.ntmps36
      go_wp2_with fail
      go_region
      go_wp2_with fail
      go_ret
      exact ⟨rfl, HRR.out⟩
    have e1 : decide ((s.la.length : Int) + (s.wa.length : Int) < n) = false := by simpa using h1
    have hx : ¬ (n < 0 ∨ ((s.la ++ s.wa).length : Int) < n) := by rw [List.length_append]; omega
    by_cases h2 : s.n = 0
    · have hs : s.trim n = (s.goes, 11) := by unfold Rv.trim; rw [if_neg (by rw [hoff]; decide), if_neg hx, if_pos h2]
      rw [hs]
      have e2 : (s.n == 0) = true := by rw [h2]; rfl
      rw [e2] at HGA
      clear hs hoff h0 h1 h2 hx e2
      go_enter Try.func36, Try.ntmps36
      go_wp2_with fail
      go_region
      go_wp2_with fail
      refine (HGA.out _ HDR.out).mono ?_
      rintro e w1 ⟨rfl, hl⟩
      have HL : Hid (RLeft w w1 B s.goes F) := hide (RLeft.then (Near.refl _ _) (Keep.refl w F).drew hl)
      clear hl
      go_wp2_with fail
      go_ret
      exact ⟨rfl, HL.out⟩
    have hs : s.trim n = (⟨(s.la ++ s.wa).take n.toNat, [], s.goes.n, false⟩, 0) := by unfold Rv.trim; rw [if_neg (by rw [hoff]; decide), if_neg hx, if_neg h2]
    rw [hs]
    have e2 : (s.n == 0) = false := beq_eq_false_iff_ne.2 h2
    rw [e2] at HGA
    obtain ⟨m, rfl⟩ : ∃ m : Nat, n = (m : Int) := ⟨n.toNat, by omega⟩
    have hm : m ≤ (s.goes.la ++ s.goes.wa).length := by rw [s.goes_same.1, s.goes_same.2, List.length_append]; omega
    have HO := hide ((s.goes_off h2).trans hoff)
    have HM := hide hm
    clear hs hoff h0 h1 h2 hx e2 hm
    go_enter Try.func36, Try.ntmps36
    go_wp2_with fail
    go_region
    go_wp2_with fail
    refine (HGA.out _ HDR.out).mono ?_
    rintro e w1 ⟨rfl, F1, hd1, hn1, hk1⟩
    have HC := hide (rbytes_any w1 B s.goes F1 hd1)
    have HD1 := hide hd1
    have HN1 : Hid (Near w F F1) := hide hn1
    have HK1 : Hid (Keep w w1 F) := hide ((Keep.refl w F).drew.trans (Near.refl _ _) hk1)
    clear hd1 hn1 hk1
    go_wp2_with fail
    refine HC.out.mono ?_
    rintro e w2 ⟨v2, rfl, ho2, hb2⟩
    obtain ⟨p2, c2, rfl⟩ := own_len ho2
    have hc2 := own_cap ho2
    obtain ⟨L, hL⟩ : ∃ L, L = (s.goes.la ++ s.goes.wa).length := ⟨_, rfl⟩
    have hmc : m ≤ c2 := Nat.le_trans HM.out hc2
    have hmi : (m : Int) ≤ (c2 : Int) := by omega
    have hm0 : (0 : Int) ≤ (m : Int) := by omega
    have hcut := own_cut ho2 m HM.out
    obtain ⟨lv1, wv1, hrb, _, _, _, hok, _⟩ := HD1.out
    have hr2 := rb_keep hrb hb2
    have f0 := tag_free hr2 0
    have d0 : w2.cell? ⟨B, 0, none⟩ = some lv1 := tag_cell hr2 0 _ rfl
    have hr3 := tok_set hr2 0 (.slice p2 m c2)
    have f1 := tag_free hr3 1
    have d1 := tag_cell hr3 1 wv1 rfl
    have HX : Hid (RLeft w ((w2.setCell ⟨B, 0, none⟩ (.slice p2 m c2)).setCell ⟨B, 1, none⟩ (.slice none 0 0)) B ⟨(s.la ++ s.wa).take ((m : Int).toNat), [], s.goes.n, false⟩ F) := hide (by
      refine RLeft.then HN1.out HK1.out (ref_put HD1.out hb2 (.slice p2 m c2) ?_ rfl ?_ ?_ (((Keep.refl w2 [B]).set (p := ⟨B, 0, none⟩) (by simp) _).set (p := ⟨B, 1, none⟩) (by simp) _))
      · rw [s.goes_same.1, s.goes_same.2] at hcut
        exact hcut
      · have h := hok
        unfold Rv.ok at h ⊢
        rw [s.goes_same.1, s.goes_same.2] at h
        refine ⟨?_, h.2⟩
        show ((s.la ++ s.wa).take _).length + 0 ≤ _
        rw [List.length_take, List.length_append]
        omega
      · have h := tok_set hr3 1 (.slice none 0 0)
        rw [HO.out] at h
        exact h)
    rw [← hL] at hc2 ⊢
    clear ho2 hb2 hrb hr2 hr3 hok hcut hL
    go_wp2_with fail
    go_ret
    exact ⟨rfl, HX.out⟩
end Go.Proofs.Ytipebinjdicnfaa
