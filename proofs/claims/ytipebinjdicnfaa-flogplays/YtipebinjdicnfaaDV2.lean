/-
  Package dev, walked: Append, Sync, Trim, Restart, Bytes.
-/
import Derived.Test.YtipebinjdicnfaaDV1
namespace Go.Proofs.Ytipebinjdicnfaa
open Go.RowKit

theorem Dv.goes_same (s : Dv) : s.goes.all = s.all ∧ s.goes.wt = s.wt := by
  unfold Dv.goes
  split
  · exact ⟨rfl, rfl⟩
  · split
    · exact ⟨rfl, rfl⟩
    · exact ⟨rfl, rfl⟩
theorem Left.refl {w : World} {B : Nat} {s : Dv} {F : List Nat} (h : DevIn w B s F) : Left w w B s F := ⟨F, h, Near.refl _ _, Keep.refl _ _⟩

theorem sync_any (w : World) (B : Nat) (s : Dv) (F : List Nat) (h : DevIn w B s F) :
    Calls Try.prog 25 #[.pointer (some ⟨B, 0, none⟩)] w fun e w' => e = .returned (.int .i64 s.sync.2) ∧ Left w w' B s.sync.1 F := by
  have hg := goes_any w B s F h
  have HD := hide h
  obtain ⟨av, hb, _⟩ := h
  have c3 : w.cell? ⟨B, 3, none⟩ = some (.bool s.off) := tag_cell hb 3 _ rfl
  have HG := hide hg
  clear hb hg
  cases hoff : s.off with
  | true =>
    rw [hoff] at c3
    have HF := hide hoff
    clear hoff
    go_enter Try.func25, Try.ntmps25
    go_wp2_with fail
    go_ret
    have hs : s.sync = (s, 11) := by unfold Dv.sync; rw [if_pos HF.out]
    rw [hs]
    exact ⟨rfl, Left.refl HD.out⟩
  | false =>
    rw [hoff] at c3
    have HF := hide hoff
    clear hoff
    cases hgo : s.goes.off with
    | true =>
      have HF2 := hide hgo
      rw [hgo] at HG
      clear hgo
      go_enter Try.func25, Try.ntmps25
      go_wp2_with (go_at_call 37; refine HG.out.mono ?_; rintro e w1 ⟨rfl, hl⟩; have HL := hide hl; clear hl)
      go_ret
      have hs : s.sync = (s.goes, 11) := by unfold Dv.sync; rw [if_neg (by rw [HF.out]; decide), if_pos HF2.out]
      rw [hs]
      exact ⟨rfl, HL.out⟩
    | false =>
      have HF2 := hide hgo
      rw [hgo] at HG
      clear hgo
      go_enter Try.func25, Try.ntmps25
      go_wp2_with (go_at_call 37; refine HG.out.mono ?_; rintro e w1 ⟨rfl, F1, ⟨av1, hb1, ho1, hk1, hF1⟩, hn1, hp1⟩; have d1 : w1.cell? ⟨B, 1, none⟩ = some (.int .i64 (s.goes.wt : Int)) := tag_cell hb1 1 _ rfl; have g1 := tag_free hb1 1; have HB1 := hide hb1; have HO1 := hide ho1; have HK1 := hide hk1; have HF1 := hide hF1; have HN1 := hide hn1; have HP1 := hide hp1; clear hb1 ho1 hk1 hF1 hn1 hp1)
      go_ret
      have hs : s.sync = (⟨s.all, 0, s.goes.lf, false⟩, 0) := by unfold Dv.sync; rw [if_neg (by rw [HF.out]; decide), if_neg (by rw [HF2.out]; decide)]
      rw [hs]
      refine ⟨rfl, F1, ⟨av1, ?_, ?_, ?_, HF1.out⟩, HN1.out, HP1.out.trans HN1.out ((Keep.refl w1 F1).set (p := ⟨B, 1, none⟩) (by rw [HF1.out]; exact List.mem_cons_self ..) _)⟩
      · have h := tok_set HB1.out 1 (.int .i64 0)
        rw [HF2.out] at h
        exact h
      · have h := own_set HO1.out HB1.out (by decide) 1 (.int .i64 0)
        rw [s.goes_same.1] at h
        exact h
      · have h := HK1.out
        unfold Dv.ok at h ⊢
        rw [s.goes_same.1] at h
        exact ⟨Nat.zero_le _, h.2⟩

set_option maxHeartbeats 1000000 in
theorem trim_any (w : World) (B : Nat) (s : Dv) (F : List Nat) (n : Int) (h : DevIn w B s F) (hn : -9223372036854775808 ≤ n ∧ n ≤ 9223372036854775807) :
    Calls Try.prog 30 #[.pointer (some ⟨B, 0, none⟩), .int .i64 n] w fun e w' => e = .returned (.int .i64 (s.trim n).2) ∧ Left w w' B (s.trim n).1 F := by
  have hg := goes_any w B s F h
  have HD := hide h
  obtain ⟨av, hb, ho, hz⟩ := h
  clear hz
  obtain ⟨p, c, rfl⟩ := own_len ho
  have c3 : w.cell? ⟨B, 3, none⟩ = some (.bool s.off) := tag_cell hb 3 _ rfl
  have c0 : w.cell? ⟨B, 0, none⟩ = some (.slice p s.all.length c) := tag_cell hb 0 _ rfl
  have HG := hide hg
  clear hb hg ho
  cases hoff : s.off with
  | true =>
    rw [hoff] at c3
    have HF := hide hoff
    clear hoff
    go_enter Try.func30, Try.ntmps30
    go_wp2_with fail
    go_ret
    have hs : s.trim n = (s, 11) := by unfold Dv.trim; rw [if_pos HF.out]
    rw [hs]
    exact ⟨rfl, Left.refl HD.out⟩
  | false =>
    rw [hoff] at c3
    have HF := hide hoff
    clear hoff
    by_cases h0 : n < 0
    · have e0 : decide (n < 0) = true := by simpa using h0
      have H0 := hide h0
      clear h0
      go_enter Try.func30, Try.ntmps30
      go_wp2_with fail
      go_ret
      have hs : s.trim n = (s, 1) := by unfold Dv.trim; rw [if_neg (by rw [HF.out]; decide), if_pos (.inl H0.out)]
      rw [hs]
      exact ⟨rfl, Left.refl HD.out⟩
    · have e0 : decide (n < 0) = false := by simpa using h0
      by_cases h1 : (s.all.length : Int) < n
      · have e1 : decide ((s.all.length : Int) < n) = true := by simpa using h1
        have H0 := hide h0
        have H1 := hide h1
        clear h0 h1
        go_enter Try.func30, Try.ntmps30
        go_wp2_with fail
        go_ret
        have hs : s.trim n = (s, 1) := by unfold Dv.trim; rw [if_neg (by rw [HF.out]; decide), if_pos (.inr H1.out)]
        rw [hs]
        exact ⟨rfl, Left.refl HD.out⟩
      · have e1 : decide ((s.all.length : Int) < n) = false := by simpa using h1
        have HS : Hid (s.trim n = if s.goes.off then (s.goes, 11) else (⟨s.all.take n.toNat, 0, s.goes.lf, false⟩, 0)) := hide (by unfold Dv.trim; rw [if_neg (by rw [HF.out]; decide), if_neg (by omega)])
        obtain ⟨m, rfl⟩ : ∃ m : Nat, n = (m : Int) := ⟨n.toNat, by omega⟩
        have HM : Hid (m ≤ s.all.length) := hide (by omega)
        cases hgo : s.goes.off with
        | true =>
          have HF2 := hide hgo
          rw [hgo] at HG
          clear hgo
          go_enter Try.func30, Try.ntmps30
          go_wp2_with (go_at_call 37; refine HG.out.mono ?_; rintro e w1 ⟨rfl, hl⟩; have HL := hide hl; clear hl)
          go_ret
          rw [HS.out, if_pos HF2.out]
          exact ⟨rfl, HL.out⟩
        | false =>
          have HF2 := hide hgo
          rw [hgo] at HG
          clear hgo
          go_enter Try.func30, Try.ntmps30
          go_wp2_with first
            | (go_at_call 37; refine HG.out.mono ?_; rintro e w1 ⟨rfl, F1, hd1, hn1, hp1⟩; have HD1 := hide hd1; have HN1 := hide hn1; have HP1 := hide hp1; clear hd1 hn1 hp1)
            | (go_at_call 35; refine (keep_any _ B s.goes F1 m HD1.out (by rw [s.goes_same.1]; exact HM.out)).mono ?_; rintro e w2 ⟨rfl, F2, hd2, hn2, hp2⟩; have HD2 := hide hd2; have HN2 := hide hn2; have HP2 := hide hp2; clear hd2 hn2 hp2)
          go_ret
          rw [HS.out, if_neg (by rw [HF2.out]; decide)]
          refine ⟨rfl, F2, ?_, HN1.out.trans HP1.out.size HN2.out, HP1.out.trans HN1.out HP2.out⟩
          have h := HD2.out
          rw [s.goes_same.1, HF2.out] at h
          exact h

theorem restart_any (w : World) (B : Nat) (s : Dv) (F : List Nat) (n : Int) (h : DevIn w B s F) (hn : -9223372036854775808 ≤ n ∧ n ≤ 9223372036854775807) :
    Calls Try.prog 17 #[.pointer (some ⟨B, 0, none⟩), .int .i64 n] w fun e w' => e = .returned (.tuple #[]) ∧ Left w w' B (s.restart n) F := by
  have HD := hide h
  obtain ⟨av, hb, ho, hk, rfl⟩ := h
  obtain ⟨p, c, rfl⟩ := own_len ho
  have c0 : w.cell? ⟨B, 0, none⟩ = some (.slice p s.all.length c) := tag_cell hb 0 _ rfl
  have c1 : w.cell? ⟨B, 1, none⟩ = some (.int .i64 (s.wt : Int)) := tag_cell hb 1 _ rfl
  have h1 := hk.1
  have h2 := hk.2.1
  have hK : s.kept n ≤ s.all.length := by unfold Dv.kept; omega
  have HC : Hid (∀ z : Int, z = (s.kept n : Int) → Calls Try.prog 35 #[.pointer (some ⟨B, 0, none⟩), .int .i64 z] w fun e w' => e = .returned (.tuple #[]) ∧ Left w w' B { s with all := s.all.take (s.kept n), wt := 0 } (B :: blk (.slice p s.all.length c))) := hide (fun z hz => by rw [hz]; exact keep_any w B s _ (s.kept n) HD.out hK)
  have hr1 := hn.1
  have hr2 := hn.2
  have HN : Hid (∀ z : Int, (n < 0 → z = (s.all.length : Int) - (s.wt : Int)) → (0 ≤ n → n ≤ (s.wt : Int) → z = (s.all.length : Int) - (s.wt : Int) + n) → ((s.wt : Int) < n → z = (s.all.length : Int)) → z = (s.kept n : Int)) := hide (by
    intro z a b c
    unfold Dv.kept
    rcases Int.lt_or_le n 0 with h | h
    · have := a h
      omega
    · rcases Int.lt_or_le (s.wt : Int) n with h' | h'
      · have := c h'
        omega
      · have := b h h'
        omega)
  clear hb ho hk hK hn
  go_enter Try.func17, Try.ntmps17
  go_wp2_with fail
  all_goals
    rename_i hq
    refine (HC.out _ (HN.out _ (fun _ => ?_) (fun _ _ => ?_) (fun _ => ?_))).mono ?_
    · first | rfl | (exfalso; split at hq <;> omega)
    · first | rfl | (exfalso; split at hq <;> omega)
    · first | rfl | (exfalso; split at hq <;> omega)
    rintro e w1 ⟨rfl, F1, ⟨av1, hb1, ho1, hk1, hF1⟩, hn1, hp1⟩
    have d2 : w1.cell? ⟨B, 2, none⟩ = some (.int .i64 s.lf) := tag_cell hb1 2 _ rfl
    have d3 : w1.cell? ⟨B, 3, none⟩ = some (.bool s.off) := tag_cell hb1 3 _ rfl
    have g2 := tag_free hb1 2
    have g3 := tag_free hb1 3
    have HB1 := hide hb1
    have HO1 := hide ho1
    have HK1 := hide hk1
    have HF1 := hide hF1
    have HN1 := hide hn1
    have HP1 := hide hp1
    clear hb1 ho1 hk1 hF1 hn1 hp1
    go_wp2_with fail
    go_end0
    have hm : B ∈ F1 := by rw [HF1.out]; exact List.mem_cons_self ..
    refine ⟨rfl, F1, ⟨av1, ?_, ?_, ?_, HF1.out⟩, HN1.out, HP1.out.trans HN1.out (((Keep.refl w1 F1).set (p := ⟨B, 2, none⟩) hm _).set (p := ⟨B, 3, none⟩) hm _)⟩
    · exact tok_set (tok_set HB1.out 2 (.int .i64 (-1))) 3 (.bool false)
    · exact own_set (own_set HO1.out HB1.out (by decide) 2 (.int .i64 (-1))) (tok_set HB1.out 2 (.int .i64 (-1))) (by decide) 3 _
    · exact ⟨HK1.out.1, HK1.out.2.1, show (-9223372036854775808 : Int) ≤ -1 by decide, show (-1 : Int) ≤ 9223372036854775807 by decide⟩
end Go.Proofs.Ytipebinjdicnfaa
