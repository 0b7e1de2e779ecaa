/-
  The document's own Same, at lists of the same policies.
-/
import Derived.Test.YtlabdbkmlkmnkaaCK
namespace Go.Proofs.Ytlabdbkmlkmnkaa
open Go.RowKit
open Utf1 Pol8

theorem same_at {ts us : List It} (h : ts.map It.p = us.map It.p) {i : Nat} {t u : It} (ht : ts[i]? = some t) (hu : us[i]? = some u) : t.p = u.p := by
  have h1 : (ts.map It.p)[i]? = some t.p := by rw [List.getElem?_map, ht]; rfl
  have h2 : (us.map It.p)[i]? = some u.p := by rw [List.getElem?_map, hu]; rfl
  rw [h, h2] at h1
  exact (Option.some.inj h1).symm
set_option maxRecDepth 100000 in
set_option maxHeartbeats 16000000 in
theorem rsamel_any (v u : Value) (ts us : List It) (he : ts.map It.p = us.map It.p) (hf : ∀ t ∈ ts, fits t.p) (hl : ts.length ≤ 100000) (w : World) (hv : PolRow w v ts) (hu : PolRow w u us) :
    Calls Try.prog 13 #[v, u] w fun e w' => e = .returned (.bool true) ∧ Below w.heap.size w w' := by
  have hlen : ts.length = us.length := by
    have := congrArg List.length he
    rwa [List.length_map, List.length_map] at this
  have HV := hide hv
  have HU := hide hu
  obtain ⟨p, cap, rfl, hcap, -, -⟩ := hv
  obtain ⟨p', cap', rfl, hcap', -, -⟩ := hu
  rw [← hlen]
  obtain ⟨N, hN⟩ : ∃ N, N = ts.length := ⟨_, rfl⟩
  have HC : Hid (∀ i, i < N → ∃ (t x : It) (b off b' off' : Nat), p = some ⟨b, off, none⟩ ∧ p' = some ⟨b', off', none⟩ ∧ ∀ wx, Below w.heap.size w wx → (wx.rangeAt b (off + i * 9) t.cells ∧ wx.rangeAt b' (off' + i * 9) x.cells ∧ Calls Try.prog 15 #[t.val, x.val] wx fun e w' => e = .returned (.bool true) ∧ Below w.heap.size w w')) := hide (fun i hi => by
    rw [hN] at hi
    have ht := List.getElem?_eq_getElem hi
    have hi' : i < us.length := by omega
    have hx := List.getElem?_eq_getElem hi'
    obtain ⟨b, off, cp, e, -, hr, hk⟩ := HV.out.at ht
    obtain ⟨b', off', cp', e', -, hr', hk'⟩ := HU.out.at hx
    injection e with e
    injection e' with e'
    refine ⟨ts[i], us[i], b, off, b', off', e, e', fun wx h => ⟨range_keep (hr _ _ ht) h, range_keep (hr' _ _ hx) h, ?_⟩⟩
    have hp := same_at he ht hx
    have hft := hf ts[i] (List.getElem_mem hi)
    have := rsameP_any _ _ _ _ _ _ _ _ _ _ ts[i].p us[i].p _ _ _ _ _ _ _ _ _ _ wx ((hk _ _ ht).below h) ((hk' _ _ hx).below h) hft (by rw [← hp]; exact hft)
    rw [(sameP_iff _ _).2 hp] at this
    exact this.mono fun e w' ⟨h1, h2⟩ => ⟨h1, bel2 h h2⟩)
  rw [← hN] at hl ⊢
  clear hN HV HU hcap hcap' hf hlen he
  go_enter Try.func13, Try.ntmps13
  go_wp2_with fail
  go_loopg [5] N (fun g v5 wx => ∃ i : Nat, i + g = N ∧ v5 = .int .i64 (i : Int) ∧ Hid (Below w.heap.size w wx))
  case atStart => exact ⟨0, by omega, rfl, hide (Below.refl _ _)⟩
  case round =>
    obtain ⟨i, hi, rfl, HB⟩ := hrel
    by_cases hlt : i < N
    · obtain ⟨t, x, b, off, b', off', rfl, rfl, hc⟩ := HC.out i hlt
      obtain ⟨P, v1, v2, v3, v4, v5, l1, l2, l3, l4, l5⟩ := t
      obtain ⟨Q, u1, u2, u3, u4, u5, m1, m2, m3, m4, m5⟩ := x
      have CS : Hid (∀ wx, Below w.heap.size w wx → Calls Try.prog 15 #[pval P v1 v2 v3 v4 v5, pval Q u1 u2 u3 u4 u5] wx fun e w' => e = .returned (.bool true) ∧ Below w.heap.size w w') := hide (fun wx h => (hc wx h).2.2)
      have SK : Hid (∀ wx, Below w.heap.size w wx → wx.cell? ⟨b, off + i * 9, none⟩ = some (.int .i64 P.ep) ∧ wx.cell? ⟨b, off + i * 9 + 1, none⟩ = some (v1) ∧ wx.cell? ⟨b, off + i * 9 + 2, none⟩ = some (v2) ∧ wx.cell? ⟨b, off + i * 9 + 3, none⟩ = some (v3) ∧ wx.cell? ⟨b, off + i * 9 + 4, none⟩ = some (v4) ∧ wx.cell? ⟨b, off + i * 9 + 5, none⟩ = some (v5) ∧ wx.cell? ⟨b, off + i * 9 + 6, none⟩ = some (.int .i64 P.dp) ∧ wx.cell? ⟨b, off + i * 9 + 7, none⟩ = some (.int .i64 P.nd) ∧ wx.cell? ⟨b, off + i * 9 + 8, none⟩ = some (.int .i64 P.bt) ∧ wx.cell? ⟨b', off' + i * 9, none⟩ = some (.int .i64 Q.ep) ∧ wx.cell? ⟨b', off' + i * 9 + 1, none⟩ = some (u1) ∧ wx.cell? ⟨b', off' + i * 9 + 2, none⟩ = some (u2) ∧ wx.cell? ⟨b', off' + i * 9 + 3, none⟩ = some (u3) ∧ wx.cell? ⟨b', off' + i * 9 + 4, none⟩ = some (u4) ∧ wx.cell? ⟨b', off' + i * 9 + 5, none⟩ = some (u5) ∧ wx.cell? ⟨b', off' + i * 9 + 6, none⟩ = some (.int .i64 Q.dp) ∧ wx.cell? ⟨b', off' + i * 9 + 7, none⟩ = some (.int .i64 Q.nd) ∧ wx.cell? ⟨b', off' + i * 9 + 8, none⟩ = some (.int .i64 Q.bt) ∧ Hid (Below w.heap.size w wx)) := hide (fun wx h => by
        obtain ⟨a0, a1, a2, a3, a4, a5, a6, a7, a8⟩ := nine (hc wx h).1
        obtain ⟨b0, b1, b2, b3, b4, b5, b6, b7, b8⟩ := nine (hc wx h).2.1
        exact ⟨a0, a1, a2, a3, a4, a5, a6, a7, a8, b0, b1, b2, b3, b4, b5, b6, b7, b8, hide h⟩)
      have SB : Hid (∀ wx, (wx.cell? ⟨b, off + i * 9, none⟩ = some (.int .i64 P.ep) ∧ wx.cell? ⟨b, off + i * 9 + 1, none⟩ = some (v1) ∧ wx.cell? ⟨b, off + i * 9 + 2, none⟩ = some (v2) ∧ wx.cell? ⟨b, off + i * 9 + 3, none⟩ = some (v3) ∧ wx.cell? ⟨b, off + i * 9 + 4, none⟩ = some (v4) ∧ wx.cell? ⟨b, off + i * 9 + 5, none⟩ = some (v5) ∧ wx.cell? ⟨b, off + i * 9 + 6, none⟩ = some (.int .i64 P.dp) ∧ wx.cell? ⟨b, off + i * 9 + 7, none⟩ = some (.int .i64 P.nd) ∧ wx.cell? ⟨b, off + i * 9 + 8, none⟩ = some (.int .i64 P.bt) ∧ wx.cell? ⟨b', off' + i * 9, none⟩ = some (.int .i64 Q.ep) ∧ wx.cell? ⟨b', off' + i * 9 + 1, none⟩ = some (u1) ∧ wx.cell? ⟨b', off' + i * 9 + 2, none⟩ = some (u2) ∧ wx.cell? ⟨b', off' + i * 9 + 3, none⟩ = some (u3) ∧ wx.cell? ⟨b', off' + i * 9 + 4, none⟩ = some (u4) ∧ wx.cell? ⟨b', off' + i * 9 + 5, none⟩ = some (u5) ∧ wx.cell? ⟨b', off' + i * 9 + 6, none⟩ = some (.int .i64 Q.dp) ∧ wx.cell? ⟨b', off' + i * 9 + 7, none⟩ = some (.int .i64 Q.nd) ∧ wx.cell? ⟨b', off' + i * 9 + 8, none⟩ = some (.int .i64 Q.bt) ∧ Hid (Below w.heap.size w wx)) → Below w.heap.size w wx) := hide (fun wx h => h.2.2.2.2.2.2.2.2.2.2.2.2.2.2.2.2.2.2.out)
      clear hc HC
      go_wp2_with fail
      refine wp_region_held_drew (S := (fun wx => wx.cell? ⟨b, off + i * 9, none⟩ = some (.int .i64 P.ep) ∧ wx.cell? ⟨b, off + i * 9 + 1, none⟩ = some (v1) ∧ wx.cell? ⟨b, off + i * 9 + 2, none⟩ = some (v2) ∧ wx.cell? ⟨b, off + i * 9 + 3, none⟩ = some (v3) ∧ wx.cell? ⟨b, off + i * 9 + 4, none⟩ = some (v4) ∧ wx.cell? ⟨b, off + i * 9 + 5, none⟩ = some (v5) ∧ wx.cell? ⟨b, off + i * 9 + 6, none⟩ = some (.int .i64 P.dp) ∧ wx.cell? ⟨b, off + i * 9 + 7, none⟩ = some (.int .i64 P.nd) ∧ wx.cell? ⟨b, off + i * 9 + 8, none⟩ = some (.int .i64 P.bt) ∧ wx.cell? ⟨b', off' + i * 9, none⟩ = some (.int .i64 Q.ep) ∧ wx.cell? ⟨b', off' + i * 9 + 1, none⟩ = some (u1) ∧ wx.cell? ⟨b', off' + i * 9 + 2, none⟩ = some (u2) ∧ wx.cell? ⟨b', off' + i * 9 + 3, none⟩ = some (u3) ∧ wx.cell? ⟨b', off' + i * 9 + 4, none⟩ = some (u4) ∧ wx.cell? ⟨b', off' + i * 9 + 5, none⟩ = some (u5) ∧ wx.cell? ⟨b', off' + i * 9 + 6, none⟩ = some (.int .i64 Q.dp) ∧ wx.cell? ⟨b', off' + i * 9 + 7, none⟩ = some (.int .i64 Q.nd) ∧ wx.cell? ⟨b', off' + i * 9 + 8, none⟩ = some (.int .i64 Q.bt) ∧ Hid (Below w.heap.size w wx))) (by kernel_rfl) (SK.out _ (bel2 HB.out ((Below.refl _ _).drew))) (fun hHeld => ?_)
      refine wpAnyH_at (i := 0) (v := ?vf0) (a1 := ?xf0) rfl (by kernel_rfl) (by kernel_rfl) (by kernel_rfl) (fun _ _ _ h => h) (Or.inl ⟨by rfl, ?yf0⟩) (by assumption) ?hf0 ?zf0
      case yf0 => (intro w hSw; (try dsimp only at hSw); go_simp; try (with_reducible rfl))
      case hf0 => (go_simp; exact rfl)
      case zf0 =>
      refine wpAnyH_at (i := 1) (v := ?vf1) (a1 := ?xf1) rfl (by kernel_rfl) (by kernel_rfl) (by kernel_rfl) (fun _ _ _ h => h) (Or.inl ⟨by rfl, ?yf1⟩) (by assumption) ?hf1 ?zf1
      case yf1 => (intro w hSw; (try dsimp only at hSw); go_simp; try (with_reducible rfl))
      case hf1 => (go_simp; exact rfl)
      case zf1 =>
      refine wpAnyH_at (i := 2) (v := ?vf2) (a1 := ?xf2) rfl (by kernel_rfl) (by kernel_rfl) (by kernel_rfl) (fun _ _ _ h => h) (Or.inl ⟨by rfl, ?yf2⟩) (by assumption) ?hf2 ?zf2
      case yf2 => (intro w hSw; (try dsimp only at hSw); go_simp; try (with_reducible rfl))
      case hf2 => (go_simp; exact rfl)
      case zf2 =>
      refine wpAnyH_at (i := 3) (v := ?vf3) (a1 := ?xf3) rfl (by kernel_rfl) (by kernel_rfl) (by kernel_rfl) (fun _ _ _ h => h) (Or.inl ⟨by rfl, ?yf3⟩) (by assumption) ?hf3 ?zf3
      case yf3 => (intro w hSw; (try dsimp only at hSw); go_simp; try (with_reducible rfl))
      case hf3 => (go_simp; exact rfl)
      case zf3 =>
      refine wpAnyH_at (i := 4) (v := ?vf4) (a1 := ?xf4) rfl (by kernel_rfl) (by kernel_rfl) (by kernel_rfl) (fun _ _ _ h => h) (Or.inl ⟨by rfl, ?yf4⟩) (by assumption) ?hf4 ?zf4
      case yf4 => (intro w hSw; (try dsimp only at hSw); go_simp; try (with_reducible rfl))
      case hf4 => (go_simp; exact rfl)
      case zf4 =>
      refine wpAnyH_at (i := 5) (v := ?vf5) (a1 := ?xf5) rfl (by kernel_rfl) (by kernel_rfl) (by kernel_rfl) (fun _ _ _ h => h) (Or.inl ⟨by rfl, ?yf5⟩) (by assumption) ?hf5 ?zf5
      case yf5 => (intro w hSw; (try dsimp only at hSw); go_simp; try (with_reducible rfl))
      case hf5 => (go_simp; exact rfl)
      case zf5 =>
      refine wpAnyH_at (i := 6) (v := ?vf6) (a1 := ?xf6) rfl (by kernel_rfl) (by kernel_rfl) (by kernel_rfl) (fun _ _ _ h => h) (Or.inl ⟨by rfl, ?yf6⟩) (by assumption) ?hf6 ?zf6
      case yf6 => (intro w hSw; (try dsimp only at hSw); go_simp; try (with_reducible rfl))
      case hf6 => (go_simp; exact rfl)
      case zf6 =>
      refine wpAnyH_at (i := 7) (v := ?vf7) (a1 := ?xf7) rfl (by kernel_rfl) (by kernel_rfl) (by kernel_rfl) (fun _ _ _ h => h) (Or.inl ⟨by rfl, ?yf7⟩) (by assumption) ?hf7 ?zf7
      case yf7 => (intro w hSw; (try dsimp only at hSw); go_simp; try (with_reducible rfl))
      case hf7 => (go_simp; exact rfl)
      case zf7 =>
      refine wpAnyH_ready (rs := [8]) (by kernel_rfl) (by simp) ?_
      refine AllReadyH.cons rfl (fun K hK => ?_) AllReadyH.nil
      go_simp
      refine (CS.out _ (SB.out _ (by assumption))).mono ?_
      rintro e w6 ⟨rfl, h6⟩
      try go_wp2_with fail
      refine hK.out _ _ (SK.out _ (by assumption)) (fun hHeld2 => ?_)
      clear hK K hHeld
      have hHeld := hHeld2
      clear hHeld2
      refine wpAnyH_at (i := 9) (v := ?vf9) (a1 := ?xf9) rfl (by kernel_rfl) (by kernel_rfl) (by kernel_rfl) (fun _ _ _ h => h) (Or.inl ⟨by rfl, ?yf9⟩) (by assumption) ?hf9 ?zf9
      case yf9 => (intro w hSw; (try dsimp only at hSw); go_simp; try (with_reducible rfl))
      case hf9 => (go_simp; exact rfl)
      case zf9 =>
      refine wpAnyH_done (by kernel_rfl) ?_ _
      have H7 := hide (SB.out _ (by assumption))
      clear CS SK SB HB
      go_wp2_with fail
      go_roundg (N - i - 1)
      case measure => omega
      case rel => exact ⟨i + 1, by omega, by first | rfl | simp, H7⟩
    · clear HC
      go_wp2_with fail
      go_ret
      exact ⟨rfl, HB.out⟩
end Go.Proofs.Ytlabdbkmlkmnkaa
