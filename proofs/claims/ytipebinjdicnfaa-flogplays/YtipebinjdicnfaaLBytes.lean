/-
  The law FlogBytes, walked.
-/
import Derived.Test.YtipebinjdicnfaaFR2
namespace Go.Proofs.Ytipebinjdicnfaa
open Go.RowKit

theorem fbytes {w : World} {base B : Nat} {s : Dv} (h : FD w base B s) :
    Calls Try.prog 21 #[.pointer (some ⟨B, 0, none⟩)] w fun e w' => e = .returned (.slice (some ⟨w.heap.size, 0, none⟩) s.all.length s.all.length) ∧ (convert 38 9 (.slice (some ⟨w.heap.size, 0, none⟩) s.all.length s.all.length)).run Try.prog w' = .ok (.string ⟨s.all.toArray⟩) w' ∧ FD w' base B s ∧ Below w.heap.size w w' := by
  obtain ⟨F, h1, h2, h3⟩ := id h
  exact (bytes_any w B s F h1).mono fun e w' ⟨e1, e2⟩ => ⟨e1, (e2.bytes _).conv, h.below e2.2, e2.2⟩
theorem IsBytes.take {w : World} {p : Option Addr} {n c : Nat} {l : List UInt8} (h : IsBytes w (.slice p n c) l) (k : Nat) (hk : k ≤ n) : IsBytes w (.slice p k c) (l.take k) := by
  have hl := h.len
  rcases h with ⟨e, rfl⟩ | ⟨x, cap, e, hc⟩
  · injection e with e1 e2 e3
    refine .inl ⟨?_, by simp⟩
    have : k = 0 := by simp at hl; omega
    rw [e1, e3, this]
  · injection e with e1 e2 e3
    have hlen : (l.take k).length = k := by rw [List.length_take]; omega
    refine .inr ⟨x, c, by rw [e1, hlen], fun j hj => ?_⟩
    rw [hlen] at hj
    rw [List.getElem_take]
    exact hc j (by omega)

set_option maxRecDepth 20000 in
set_option maxHeartbeats 4000000 in
theorem bytes_walk (pb : Option Addr) (nb cb : Nat) (b : List UInt8) (w : World) (hb : IsBytes w (.slice pb nb cb) b) (hcb : nb ≤ cb) :
    Calls Try.prog 4 #[.slice pb nb cb] w fun e w' => e = .returned (.bool true) ∧ Below w.heap.size w w' := by
  have HLB := hide hb.len
  have HB := hide hb
  have HCB := hide hcb
  clear hb hcb
  by_cases h2 : (60000 : Int) < (nb : Int)
  · have e2 : decide ((60000 : Int) < (nb : Int)) = true := by simpa using h2
    clear h2
    go_enter Try.func4, Try.ntmps4
    go_wp2_with fail
    refine (awake_any w).mono ?_
    rintro e w1 ⟨rfl, hb1⟩
    have HB1 := hide hb1
    clear hb1
    go_wp2_with fail
    refine (fnew w1 w.heap.size HB1.out.size).mono ?_
    rintro e w2 ⟨rfl, -, ha2⟩
    have HB2 := hide (HB1.out.trans ha2.below)
    clear ha2
    go_wp2_with fail
    go_ret
    exact ⟨rfl, HB2.out⟩
  have e2 : decide ((60000 : Int) < (nb : Int)) = false := by simpa using h2
  have HZ : Hid (nb ≤ 60000) := hide (by omega)
  obtain ⟨l, r, hrd⟩ := rd_all b
  have HRD := hide hrd
  obtain ⟨K, hK⟩ : ∃ K, K = (frs l).length := ⟨_, rfl⟩
  have HK := hide hK
  have HKN : Hid (K + r.length = nb ∧ l.length ≤ 60000) := hide (by
    have h1 := congrArg List.length hrd.eq
    rw [List.length_append] at h1
    have h2 := frs_len l
    have h3 := HLB.out
    have h4 := HZ.out
    omega)
  obtain ⟨SA, hSA⟩ : ∃ SA : ByteArray, SA = ⟨(frs l).toArray⟩ := ⟨_, rfl⟩
  have HSA := hide hSA
  have hSS : (SA.toList == SA.toList) = true := beq_self_eq_true _
  have hKc : (K : Int) ≤ (cb : Int) := by have := HKN.out; have := HCB.out; omega
  clear h2 hrd hK hSA
  go_enter Try.func4, Try.ntmps4
  go_wp2_with fail
  refine (awake_any w).mono ?_
  rintro e w1 ⟨rfl, hb1⟩
  have HB1 := hide hb1
  clear hb1
  go_wp2_with fail
  refine (fnew w1 w.heap.size HB1.out.size).mono ?_
  rintro e w2 ⟨rfl, hd2, ha2⟩
  have HD2 := hide hd2
  have HA2 := hide ((Aft.of HB1.out (Nat.le_refl _)).trans ha2)
  clear ha2 hd2
  go_wp2_with fail
  refine (fapp HD2.out _ b (HB.out.below HA2.out.below) (fun hl k hk => HB.out.lt hl k hk) (by have := HZ.out; have := HLB.out; omega) (⟨b, b.length, -1, false⟩, 0) (by simpa using app_ok [] b 0 (by have := HZ.out; have := HLB.out; simp; omega))).mono ?_
  rintro e w3 ⟨rfl, hd3, ha3⟩
  have HD3 := hide hd3
  have HA3 := hide (HA2.out.trans ha3)
  clear ha3 hd3
  go_wp2_with fail
  refine (fsync HD3.out (⟨b, 0, -1, false⟩, 0) rfl).mono ?_
  rintro e w4 ⟨rfl, hd4, ha4⟩
  have HD4 := hide hd4
  have HA4 := hide (HA3.out.trans ha4)
  clear ha4 hd4
  go_wp2_with fail
  refine (fopen HD4.out l _ (opn_ok 0 HRD.out)).mono ?_
  rintro e w5 ⟨⟨L, vp, vc, rfl, hl5, ho5⟩, hd5, ha5⟩
  obtain ⟨K4, hK4⟩ : ∃ K4, K4 = if r = [] then 0 else 0 := ⟨_, rfl⟩
  rw [← hK4] at hd5
  obtain ⟨M, hM⟩ : ∃ M, M = l.length := ⟨_, rfl⟩
  rw [← hM] at ho5 ⊢
  have HM := hide hM
  have HD5 := hide hd5
  have HO5 := hide ho5
  have HL5 := hide hl5
  have HA5 := hide (HA4.out.trans ha5)
  clear hd5 ha5 hl5 ho5 hK4 hM
  go_wp2_with fail
  refine (frames_any w5 pb nb cb b (HB.out.below HA5.out.below) HCB.out HZ.out).mono ?_
  rintro e w6 ⟨⟨q, n, cc, l2, r2, hn2, rfl, hr2, ho6⟩, hb6⟩
  obtain ⟨rfl, rfl⟩ := HRD.out.one hr2
  rw [← HK.out]
  have HS6 := hide (own_str (ss := l) (by rw [← hn2]; exact ho6))
  have HO6 := hide (own_below HO5.out hb6)
  have HD6 := hide (HD5.out.below hb6)
  have HL6 := hide (log_below HL5.out hb6)
  have HA6 := hide (HA5.out.trans (Aft.of hb6 HA5.out.below.size))
  clear hn2 hr2 ho6 hb6
  go_wp2_with fail
  refine (same_any w6 _ _ l l (own_str (by rw [← HM.out]; exact HO6.out)) HS6.out (by have := HKN.out; omega) true (by simp)).mono ?_
  rintro e w9 ⟨rfl, hb9⟩
  have HB9 : Hid (Below w.heap.size w w9) := hide (HA6.out.below.trans (hb9.mono HA6.out.below.size))
  have HSI : Hid (∀ wx, Below w9.heap.size w9 wx → Calls Try.prog 23 #[.pointer (some ⟨L, 0, none⟩)] wx fun e w' => e = .returned (.int .i64 (K : Int)) ∧ Below wx.heap.size wx w') := hide (fun wx hx => by
    rw [HK.out]
    exact (fsize ((HD6.out.below hb9).below hx) (log_below (log_below HL6.out hb9) hx)).mono fun e w' h => ⟨h.1, h.2.2⟩)
  have HBY : Hid (∀ wx, Below w9.heap.size w9 wx → Calls Try.prog 21 #[.pointer (some ⟨w1.heap.size, 0, none⟩)] wx fun e w' => e = .returned (.slice (some ⟨wx.heap.size, 0, none⟩) K K) ∧ (convert 38 9 (.slice (some ⟨wx.heap.size, 0, none⟩) K K)).run Try.prog w' = .ok (.string SA) w' ∧ Below wx.heap.size wx w') := hide (fun wx hx => by
    rw [HK.out, HSA.out]
    exact (fbytes ((HD6.out.below hb9).below hx)).mono fun e w' h => ⟨h.1, h.2.1, h.2.2.2⟩)
  have SK : Hid (∀ wx, Below w9.heap.size w9 wx → (convert 38 9 (.slice pb K cb)).run Try.prog wx = .ok (.string SA) wx ∧ Hid (Below w9.heap.size w9 wx)) := hide (fun wx hx => ⟨by
    have h1 := (IsBytes.take (HB.out.below (HB9.out.trans (hx.mono HB9.out.size))) K (by have := HKN.out; omega)).conv
    have h2 : b.take K = frs l := by
      have h3 := HRD.out.eq
      rw [h3, HK.out, List.take_left]
    rw [h2, ← HSA.out] at h1
    exact h1, hide hx⟩)
  clear hb9
  go_wp2_with fail
  refine wp_region_held_drew (S := (fun wx => (convert 38 9 (.slice pb K cb)).run Try.prog wx = .ok (.string SA) wx ∧ Hid (Below w9.heap.size w9 wx))) (by kernel_rfl) (SK.out _ (bel_one w9)) (fun hHeld => ?_)
  refine wpAnyH_at (i := 0) (v := ?vf0) (a1 := ?xf0) rfl (by kernel_rfl) (by kernel_rfl) (by kernel_rfl) (fun _ _ _ h => h) (Or.inl ⟨by rfl, ?yf0⟩) (by assumption) ?hf0 ?zf0
  case yf0 => (intro w hSw; (try dsimp only at hSw); go_simp; try (with_reducible rfl))
  case hf0 => (go_simp; exact rfl)
  case zf0 =>
  refine wpAnyH_at (i := 1) (v := ?vf1) (a1 := ?xf1) rfl (by kernel_rfl) (by kernel_rfl) (by kernel_rfl) (fun _ _ _ h => h) (Or.inl ⟨by rfl, ?yf1⟩) (by assumption) ?hf1 ?zf1
  case yf1 => (intro w hSw; (try dsimp only at hSw); go_simp; try (with_reducible rfl))
  case hf1 => (go_simp; exact rfl)
  case zf1 =>
  refine wpAnyH_at (i := 2) (v := ?vf2) (a1 := ?xf2) rfl (by kernel_rfl) (by kernel_rfl) (by kernel_rfl) (fun _ _ _ h => h) (Or.inl ⟨by rfl, ?yf2⟩) (by assumption) ?hf2 ?zf2
  case yf2 => (intro w hSw; (try dsimp only at hSw); go_simp; try (with_reducible rfl))
  case hf2 => (go_simp; exact rfl)
  case zf2 =>
  refine wpAnyH_at (i := 3) (v := ?vf3) (a1 := ?xf3) rfl (by kernel_rfl) (by kernel_rfl) (by kernel_rfl) (fun _ _ _ h => h) (Or.inl ⟨by rfl, ?yf3⟩) (by assumption) ?hf3 ?zf3
  case yf3 => (intro w hSw; (try dsimp only at hSw); go_simp; try (with_reducible rfl))
  case hf3 => (go_simp; exact rfl)
  case zf3 =>
  refine wpAnyH_at (i := 4) (v := ?vf4) (a1 := ?xf4) rfl (by kernel_rfl) (by kernel_rfl) (by kernel_rfl) (fun _ _ _ h => h) (Or.inl ⟨by rfl, ?yf4⟩) (by assumption) ?hf4 ?zf4
  case yf4 => (intro w hSw; (try dsimp only at hSw); go_simp; try (with_reducible rfl))
  case hf4 => (go_simp; exact rfl)
  case zf4 =>
  refine wpAnyH_at (i := 5) (v := ?vf5) (a1 := ?xf5) rfl (by kernel_rfl) (by kernel_rfl) (by kernel_rfl) (fun _ _ _ h => h) (Or.inl ⟨by rfl, ?yf5⟩) (by assumption) ?hf5 ?zf5
  case yf5 => (intro w hSw; (try dsimp only at hSw); go_simp; try (with_reducible rfl))
  case hf5 => (go_simp; exact rfl)
  case zf5 =>
  refine wpAnyH_at (i := 6) (v := ?vf6) (a1 := ?xf6) rfl (by kernel_rfl) (by kernel_rfl) (by kernel_rfl) (fun _ _ _ h => h) (Or.inl ⟨by rfl, ?yf6⟩) (by assumption) ?hf6 ?zf6
  case yf6 => (intro w hSw; (try dsimp only at hSw); go_simp; try (with_reducible rfl))
  case hf6 => (go_simp; exact rfl)
  case zf6 =>
  refine wpAnyH_at (i := 7) (v := ?vf7) (a1 := ?xf7) rfl (by kernel_rfl) (by kernel_rfl) (by kernel_rfl) (fun _ _ _ h => h) (Or.inl ⟨by rfl, ?yf7⟩) (by assumption) ?hf7 ?zf7
  case yf7 => (intro w hSw; (try dsimp only at hSw); go_simp; try (with_reducible rfl))
  case hf7 => (go_simp; exact rfl)
  case zf7 =>
  refine wpAnyH_at (i := 8) (v := ?vf8) (a1 := ?xf8) rfl (by kernel_rfl) (by kernel_rfl) (by kernel_rfl) (fun _ _ _ h => h) (Or.inl ⟨by rfl, ?yf8⟩) (by assumption) ?hf8 ?zf8
  case yf8 => (intro w hSw; (try dsimp only at hSw); go_simp; try (with_reducible rfl))
  case hf8 => (go_simp; exact rfl)
  case zf8 =>
  refine wpAnyH_at (i := 9) (v := ?vf9) (a1 := ?xf9) rfl (by kernel_rfl) (by kernel_rfl) (by kernel_rfl) (fun _ _ _ h => h) (Or.inl ⟨by rfl, ?yf9⟩) (by assumption) ?hf9 ?zf9
  case yf9 => (intro w hSw; (try dsimp only at hSw); go_simp; try (with_reducible rfl))
  case hf9 => (go_simp; exact rfl)
  case zf9 =>
  refine wpAnyH_at (i := 10) (v := ?vf10) (a1 := ?xf10) rfl (by kernel_rfl) (by kernel_rfl) (by kernel_rfl) (fun _ _ _ h => h) (Or.inl ⟨by rfl, ?yf10⟩) (by assumption) ?hf10 ?zf10
  case yf10 => (intro w hSw; (try dsimp only at hSw); go_simp; try (with_reducible rfl))
  case hf10 => (go_simp; exact rfl)
  case zf10 =>
  refine wpAnyH_at (i := 11) (v := ?vf11) (a1 := ?xf11) rfl (by kernel_rfl) (by kernel_rfl) (by kernel_rfl) (fun _ _ _ h => h) (Or.inl ⟨by rfl, ?yf11⟩) (by assumption) ?hf11 ?zf11
  case yf11 => (intro w hSw; (try dsimp only at hSw); go_simp; try (with_reducible rfl))
  case hf11 => (go_simp; exact rfl)
  case zf11 =>
  refine wpAnyH_at (i := 12) (v := ?vf12) (a1 := ?xf12) rfl (by kernel_rfl) (by kernel_rfl) (by kernel_rfl) (fun _ _ _ h => h) (Or.inl ⟨by rfl, ?yf12⟩) (by assumption) ?hf12 ?zf12
  case yf12 => (intro w hSw; (try dsimp only at hSw); go_simp; try (with_reducible rfl))
  case hf12 => (go_simp; exact rfl)
  case zf12 =>
  refine wpAnyH_at (i := 13) (v := ?vf13) (a1 := ?xf13) rfl (by kernel_rfl) (by kernel_rfl) (by kernel_rfl) (fun _ _ _ h => h) (Or.inl ⟨by rfl, ?yf13⟩) (by assumption) ?hf13 ?zf13
  case yf13 => (intro w hSw; (try dsimp only at hSw); go_simp; try (with_reducible rfl))
  case hf13 => (go_simp; exact rfl)
  case zf13 =>
  refine wpAnyH_at (i := 15) (v := ?vf15) (a1 := ?xf15) rfl (by kernel_rfl) (by kernel_rfl) (by kernel_rfl) (fun _ _ _ h => h) (Or.inl ⟨by rfl, ?yf15⟩) (by assumption) ?hf15 ?zf15
  case yf15 => (intro w hSw; (try dsimp only at hSw); go_simp; try (with_reducible rfl))
  case hf15 => (go_simp; exact rfl)
  case zf15 =>
  refine wpAnyH_ready (rs := [14]) (by kernel_rfl) (by simp) ?_
  refine AllReadyH.cons rfl (fun K hK => ?_) AllReadyH.nil
  go_simp
  refine (HSI.out _ (bel_one w9)).mono ?_
  rintro e w10 ⟨rfl, hb10⟩
  have HB10 : Hid (Below w9.heap.size w9 w10) := hide (bel2 (bel_one w9) hb10)
  clear hb10
  try go_wp2_with fail
  refine hK.out _ _ (by first | exact SK.out _ HB11.out | exact SK.out _ HB10.out) (fun hHeld2 => ?_)
  clear hK K hHeld
  have hHeld := hHeld2
  clear hHeld2
  refine wpAnyH_at (i := 16) (v := ?vf16) (a1 := ?xf16) rfl (by kernel_rfl) (by kernel_rfl) (by kernel_rfl) (fun _ _ _ h => h) (Or.inl ⟨by rfl, ?yf16⟩) (by assumption) ?hf16 ?zf16
  case yf16 => (intro w hSw; (try dsimp only at hSw); go_simp; try (with_reducible rfl))
  case hf16 => (go_simp; exact rfl)
  case zf16 =>
  refine wpAnyH_at (i := 17) (v := ?vf17) (a1 := ?xf17) rfl (by kernel_rfl) (by kernel_rfl) (by kernel_rfl) (fun _ _ _ h => h) (Or.inl ⟨by rfl, ?yf17⟩) (by assumption) ?hf17 ?zf17
  case yf17 => (intro w hSw; (try dsimp only at hSw); go_simp; try (with_reducible rfl))
  case hf17 => (go_simp; exact rfl)
  case zf17 =>
  refine wpAnyH_at (i := 18) (v := ?vf18) (a1 := ?xf18) rfl (by kernel_rfl) (by kernel_rfl) (by kernel_rfl) (fun _ _ _ h => h) (Or.inl ⟨by rfl, ?yf18⟩) (by assumption) ?hf18 ?zf18
  case yf18 => (intro w hSw; (try dsimp only at hSw); go_simp; try (with_reducible rfl))
  case hf18 => (go_simp; exact rfl)
  case zf18 =>
  refine wpAnyH_at (i := 19) (v := ?vf19) (a1 := ?xf19) rfl (by kernel_rfl) (by kernel_rfl) (by kernel_rfl) (fun _ _ _ h => h) (Or.inl ⟨by rfl, ?yf19⟩) (by assumption) ?hf19 ?zf19
  case yf19 => (intro w hSw; (try dsimp only at hSw); go_simp; try (with_reducible rfl))
  case hf19 => (go_simp; exact rfl)
  case zf19 =>
  refine wpAnyH_at (i := 22) (v := ?vf22) (a1 := ?xf22) rfl (by kernel_rfl) (by kernel_rfl) (by kernel_rfl) (fun _ _ _ h => h) (Or.inl ⟨by rfl, ?yf22⟩) (by assumption) ?hf22 ?zf22
  case yf22 => (intro w hSw; (try dsimp only at hSw); go_simp; try (with_reducible rfl))
  case hf22 => (go_simp; exact rfl)
  case zf22 =>
  refine wpAnyH_at (i := 23) (v := ?vf23) (a1 := ?xf23) rfl (by kernel_rfl) (by kernel_rfl) (by kernel_rfl) (fun _ _ _ h => h) (Or.inl ⟨by rfl, ?yf23⟩) (by assumption) ?hf23 ?zf23
  case yf23 => (intro w hSw; (try dsimp only at hSw); go_simp; try (with_reducible rfl))
  case hf23 => (go_simp; exact rfl)
  case zf23 =>
  refine wpAnyH_at (i := 24) (v := ?vf24) (a1 := ?xf24) rfl (by kernel_rfl) (by kernel_rfl) (by kernel_rfl) (fun _ _ _ h => h) (Or.inl ⟨by rfl, ?yf24⟩) (by assumption) ?hf24 ?zf24
  case yf24 => (intro w hSw; (try dsimp only at hSw); go_simp; try (with_reducible rfl))
  case hf24 => (go_simp; exact rfl)
  case zf24 =>
  refine wpAnyH_at (i := 25) (v := ?vf25) (a1 := ?xf25) rfl (by kernel_rfl) (by kernel_rfl) (by kernel_rfl) (fun _ _ _ h => h) (Or.inl ⟨by rfl, ?yf25⟩) (by assumption) ?hf25 ?zf25
  case yf25 => (intro w hSw; (try dsimp only at hSw); go_simp; try (with_reducible rfl))
  case hf25 => (go_simp; exact rfl)
  case zf25 =>
  refine wpAnyH_ready (rs := [20]) (by kernel_rfl) (by simp) ?_
  refine AllReadyH.cons rfl (fun K hK => ?_) AllReadyH.nil
  go_simp
  refine (HBY.out _ HB10.out).mono ?_
  rintro e w11 ⟨rfl, hcv, hb11⟩
  have HB11 : Hid (Below w9.heap.size w9 w11) := hide (bel2 HB10.out hb11)
  clear hb11
  try go_wp2_with fail
  refine hK.out _ _ (by first | exact SK.out _ HB11.out | exact SK.out _ HB10.out) (fun hHeld2 => ?_)
  clear hK K hHeld
  have hHeld := hHeld2
  clear hHeld2
  refine wpAnyH_ready (rs := [21]) (by kernel_rfl) (by simp) ?_
  refine AllReadyH.cons rfl (fun K hK => ?_) AllReadyH.nil
  go_simp
  try go_wp2_with fail
  refine hK.out _ _ (by first | exact SK.out _ HB11.out | exact SK.out _ HB10.out) (fun hHeld2 => ?_)
  clear hK K hHeld
  have hHeld := hHeld2
  clear hHeld2
  refine wpAnyH_at (i := 26) (v := ?vf26) (a1 := ?xf26) rfl (by kernel_rfl) (by kernel_rfl) (by kernel_rfl) (fun _ _ _ h => h) (Or.inl ⟨by rfl, ?yf26⟩) (by assumption) ?hf26 ?zf26
  case yf26 => (intro w hSw; (try dsimp only at hSw); go_simp; try (with_reducible rfl))
  case hf26 => (go_simp; exact rfl)
  case zf26 =>
  refine wpAnyH_at (i := 27) (v := ?vf27) (a1 := ?xf27) rfl (by kernel_rfl) (by kernel_rfl) (by kernel_rfl) (fun _ _ _ h => h) (Or.inl ⟨by rfl, ?yf27⟩) (by assumption) ?hf27 ?zf27
  case yf27 => (intro w hSw; (try dsimp only at hSw); go_simp; try (with_reducible rfl))
  case hf27 => (go_simp; exact rfl)
  case zf27 =>
  refine wpAnyH_at (i := 28) (v := ?vf28) (a1 := ?xf28) rfl (by kernel_rfl) (by kernel_rfl) (by kernel_rfl) (fun _ _ _ h => h) (Or.inl ⟨by rfl, ?yf28⟩) (by assumption) ?hf28 ?zf28
  case yf28 => (intro w hSw; (try dsimp only at hSw); go_simp; try (with_reducible rfl))
  case hf28 => (go_simp; exact rfl)
  case zf28 =>
  refine wpAnyH_done (by kernel_rfl) ?_ _
  go_wp2_with fail
  go_ret
  exact ⟨rfl, HB9.out.trans (HB11.out.mono HB9.out.size)⟩
end Go.Proofs.Ytipebinjdicnfaa
