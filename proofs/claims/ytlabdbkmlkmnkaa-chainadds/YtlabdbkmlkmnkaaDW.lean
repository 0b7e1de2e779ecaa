/-
  The document's own wrong and Check.
-/
import Derived.Test.YtlabdbkmlkmnkaaCF
import Derived.Test.YtlabdbkmlkmnkaaQ11
namespace Go.Proofs.Ytlabdbkmlkmnkaa
open Go.RowKit
open Utf1 Pol8

set_option maxRecDepth 100000 in
set_option maxHeartbeats 16000000 in
theorem rwrong_any (v : Value) (ts : List It) (hf : ∀ t ∈ ts, fits t.p) (hl : ts.length ≤ 100000) (i : Nat) (t : It) (hi : ts[i]? = some t) (w : World) (hv : PolRow w v ts) :
    Calls Try.prog 20 #[v, .int .i64 (i : Int)] w fun e w' => e = .returned (.int .i64 (wr (ts.map It.p) i)) ∧ Below w.heap.size w w' := by
  obtain ⟨E, hE⟩ : ∃ E, E = wr (ts.map It.p) i := ⟨_, rfl⟩
  rw [← hE]
  rw [wr_at hi] at hE
  obtain ⟨b, off, cap, rfl, hcap, hrg, hok⟩ := hv.at hi
  have hlt : i < ts.length := (List.getElem?_eq_some_iff.1 hi).1
  have ht := hok i t hi
  have hft := hf t (List.mem_of_getElem? hi)
  have hr := hrg i t hi
  have HPREV : Hid (0 < i → ∃ t', ts[i - 1]? = some t' ∧ (ts.map It.p)[i - 1]?.getD Pol.zero = t'.p ∧ t'.ok w ∧ fits t'.p ∧ w.rangeAt b (off + (i - 1) * 9) t'.cells) := hide (fun h0 => by
    have hlt' : i - 1 < ts.length := by omega
    refine ⟨ts[i - 1], List.getElem?_eq_getElem hlt', ?_, hok _ _ (List.getElem?_eq_getElem hlt'), hf _ (List.getElem_mem hlt'), hrg _ _ (List.getElem?_eq_getElem hlt')⟩
    rw [List.getElem?_map, List.getElem?_eq_getElem hlt']
    rfl)
  obtain ⟨N, hN⟩ : ∃ N, N = ts.length := ⟨_, rfl⟩
  rw [← hN] at hlt hcap hl ⊢
  generalize (ts.map It.p)[i - 1]?.getD Pol.zero = q0 at hE HPREV
  clear hv hrg hok hi hf hN
  obtain ⟨P, v1, v2, v3, v4, v5, l1, l2, l3, l4, l5⟩ := t
  have HT : Hid (PolV w v1 v2 v3 v4 v5 P l1 l2 l3 l4 l5) := hide ht
  have HRG : Hid (∀ wx, Below w.heap.size w wx → wx.rangeAt b (off + i * 9) [.int .i64 P.ep, v1, v2, v3, v4, v5, .int .i64 P.dp, .int .i64 P.nd, .int .i64 P.bt]) := hide (fun wx h => range_keep hr h)
  have HY : Hid (∀ wx, Below w.heap.size w wx → wx.cell? ⟨b, off + i * 9, none⟩ = some (.int .i64 P.ep) ∧ wx.cell? ⟨b, off + i * 9 + 1, none⟩ = some (v1) ∧ wx.cell? ⟨b, off + i * 9 + 2, none⟩ = some (v2) ∧ wx.cell? ⟨b, off + i * 9 + 3, none⟩ = some (v3) ∧ wx.cell? ⟨b, off + i * 9 + 4, none⟩ = some (v4) ∧ wx.cell? ⟨b, off + i * 9 + 5, none⟩ = some (v5) ∧ wx.cell? ⟨b, off + i * 9 + 6, none⟩ = some (.int .i64 P.dp) ∧ wx.cell? ⟨b, off + i * 9 + 7, none⟩ = some (.int .i64 P.nd) ∧ wx.cell? ⟨b, off + i * 9 + 8, none⟩ = some (.int .i64 P.bt)) := hide (fun wx h => by
    have h := HRG.out wx h
    exact ⟨h 0 _ rfl, h 1 _ rfl, h 2 _ rfl, h 3 _ rfl, h 4 _ rfl, h 5 _ rfl, h 6 _ rfl, h 7 _ rfl, h 8 _ rfl⟩)
  simp only [] at hE hft
  have HE := hide hE
  have CR : Hid (∀ wx, Below w.heap.size w wx → Calls Try.prog 39 #[pval P v1 v2 v3 v4 v5] wx fun e w' => e = .returned (.bool (right P)) ∧ Below w.heap.size w w') := hide (fun wx h => (rright_any _ _ _ _ _ P _ _ _ _ _ wx (HT.out.below h) hft).mono fun e w' ⟨h1, h2⟩ => ⟨h1, bel2 h h2⟩)
  have HFT := hide hft
  clear hE ht hft hr
  generalize hrr : right P = r at CR HE
  clear hrr
  obtain ⟨y0, y1, y2, y3, y4, y5, y6, y7, y8⟩ := HY.out w (Below.refl _ _)
  go_enter Try.func20, Try.ntmps20
  go_wp2_with fail
  refine (CR.out _ (Below.refl _ _)).mono ?_
  rintro e w2 ⟨rfl, h2⟩
  have H2 := hide h2
  clear h2 CR y0 y1 y2 y3 y4 y5 y6 y7 y8
  cases r with
  | false =>
    have HR : Hid (E = 2) := hide (by rw [HE.out]; rfl)
    clear HE HPREV
    go_wp2_with fail
    go_ret
    rw [HR.out]
    exact ⟨rfl, H2.out⟩
  | true =>
    obtain ⟨y0, y1, y2, y3, y4, y5, y6, y7, y8⟩ := HY.out w2 H2.out
    by_cases he : P.ep = (i : Int) + 1
    · have hne : (P.ep != (i : Int) + 1) = false := by simpa using he
      by_cases h0 : i = 0
      · subst h0
        have HR : Hid (E = 0) := hide (by rw [HE.out, if_pos rfl, if_pos he, if_neg (fun h => Nat.lt_irrefl 0 h.1)])
        clear HE HPREV he
        simp only [Nat.zero_mul, Nat.add_zero] at y0 y1 y2 y3 y4 y5 y6 y7 y8
        go_wp2_with fail
        clear y0 y1 y2 y3 y4 y5 y6 y7 y8
        refine wp_region_held_drew (S := (fun wx => Below w.heap.size w wx)) (by kernel_rfl) (bel2 H2.out ((Below.refl _ _).drew)) (fun hHeld => ?_)
        refine wpAnyH_at (i := 0) (v := ?ve0) (a1 := ?xe0) rfl (by kernel_rfl) (by kernel_rfl) (by kernel_rfl) (fun _ _ _ h => h) (Or.inl ⟨by rfl, ?ye0⟩) (by assumption) ?he0 ?ze0
        case ye0 => (intro w hSw; (try dsimp only at hSw); go_simp; try (with_reducible rfl))
        case he0 => (go_simp; exact rfl)
        case ze0 =>
        refine wpAnyH_at (i := 1) (v := ?ve1) (a1 := ?xe1) rfl (by kernel_rfl) (by kernel_rfl) (by kernel_rfl) (fun _ _ _ h => h) (Or.inl ⟨by rfl, ?ye1⟩) (by assumption) ?he1 ?ze1
        case ye1 => (intro w hSw; (try dsimp only at hSw); go_simp; try (with_reducible rfl))
        case he1 => (go_simp; exact rfl)
        case ze1 =>
        refine wpAnyH_at (i := 2) (v := ?ve2) (a1 := ?xe2) rfl (by kernel_rfl) (by kernel_rfl) (by kernel_rfl) (fun _ _ _ h => h) (Or.inl ⟨by rfl, ?ye2⟩) (by assumption) ?he2 ?ze2
        case ye2 => (intro w hSw; (try dsimp only at hSw); go_simp; try (with_reducible rfl))
        case he2 => (go_simp; exact rfl)
        case ze2 =>
        refine wpAnyH_at (i := 3) (v := undef) (a1 := ?xe3) rfl (by kernel_rfl) (by kernel_rfl) (by kernel_rfl) (fun _ _ _ h => h) (Or.inr ⟨by rfl, rfl⟩) (by assumption) ?he3 ?ze3
        case he3 => (go_simp; exact rfl)
        case ze3 =>
        refine wpAnyH_at (i := 4) (v := undef) (a1 := ?xe4) rfl (by kernel_rfl) (by kernel_rfl) (by kernel_rfl) (fun _ _ _ h => h) (Or.inr ⟨by rfl, rfl⟩) (by assumption) ?he4 ?ze4
        case he4 => (go_simp; exact rfl)
        case ze4 =>
        refine wpAnyH_at (i := 5) (v := undef) (a1 := ?xe5) rfl (by kernel_rfl) (by kernel_rfl) (by kernel_rfl) (fun _ _ _ h => h) (Or.inr ⟨by rfl, rfl⟩) (by assumption) ?he5 ?ze5
        case he5 => (go_simp; exact rfl)
        case ze5 =>
        refine wpAnyH_at (i := 6) (v := undef) (a1 := ?xe6) rfl (by kernel_rfl) (by kernel_rfl) (by kernel_rfl) (fun _ _ _ h => h) (Or.inr ⟨by rfl, rfl⟩) (by assumption) ?he6 ?ze6
        case he6 => (go_simp; exact rfl)
        case ze6 =>
        refine wpAnyH_at (i := 7) (v := undef) (a1 := ?xe7) rfl (by kernel_rfl) (by kernel_rfl) (by kernel_rfl) (fun _ _ _ h => h) (Or.inr ⟨by rfl, rfl⟩) (by assumption) ?he7 ?ze7
        case he7 => (go_simp; exact rfl)
        case ze7 =>
        refine wpAnyH_at (i := 8) (v := undef) (a1 := ?xe8) rfl (by kernel_rfl) (by kernel_rfl) (by kernel_rfl) (fun _ _ _ h => h) (Or.inr ⟨by rfl, rfl⟩) (by assumption) ?he8 ?ze8
        case he8 => (go_simp; exact rfl)
        case ze8 =>
        refine wpAnyH_at (i := 9) (v := undef) (a1 := ?xe9) rfl (by kernel_rfl) (by kernel_rfl) (by kernel_rfl) (fun _ _ _ h => h) (Or.inr ⟨by rfl, rfl⟩) (by assumption) ?he9 ?ze9
        case he9 => (go_simp; exact rfl)
        case ze9 =>
        refine wpAnyH_at (i := 10) (v := undef) (a1 := ?xe10) rfl (by kernel_rfl) (by kernel_rfl) (by kernel_rfl) (fun _ _ _ h => h) (Or.inr ⟨by rfl, rfl⟩) (by assumption) ?he10 ?ze10
        case he10 => (go_simp; exact rfl)
        case ze10 =>
        refine wpAnyH_at (i := 11) (v := undef) (a1 := ?xe11) rfl (by kernel_rfl) (by kernel_rfl) (by kernel_rfl) (fun _ _ _ h => h) (Or.inr ⟨by rfl, rfl⟩) (by assumption) ?he11 ?ze11
        case he11 => (go_simp; exact rfl)
        case ze11 =>
        refine wpAnyH_at (i := 12) (v := undef) (a1 := ?xe12) rfl (by kernel_rfl) (by kernel_rfl) (by kernel_rfl) (fun _ _ _ h => h) (Or.inr ⟨by rfl, rfl⟩) (by assumption) ?he12 ?ze12
        case he12 => (go_simp; exact rfl)
        case ze12 =>
        refine wpAnyH_at (i := 13) (v := undef) (a1 := ?xe13) rfl (by kernel_rfl) (by kernel_rfl) (by kernel_rfl) (fun _ _ _ h => h) (Or.inr ⟨by rfl, rfl⟩) (by assumption) ?he13 ?ze13
        case he13 => (go_simp; exact rfl)
        case ze13 =>
        refine wpAnyH_at (i := 14) (v := ?ve14) (a1 := ?xe14) rfl (by kernel_rfl) (by kernel_rfl) (by kernel_rfl) (fun _ _ _ h => h) (Or.inl ⟨by rfl, ?ye14⟩) (by assumption) ?he14 ?ze14
        case ye14 => (intro w hSw; (try dsimp only at hSw); go_simp; try (with_reducible rfl))
        case he14 => (go_simp; exact rfl)
        case ze14 =>
        refine wpAnyH_done (by kernel_rfl) ?_ _
        have H7 : Hid (Below w.heap.size w _) := hide (by assumption)
        go_wp2_with fail
        go_ret
        rw [HR.out]
        exact ⟨rfl, H7.out⟩
      · obtain ⟨k, rfl⟩ : ∃ k, i = k + 1 := ⟨i - 1, by omega⟩
        obtain ⟨t', -, hq, hok', hf', hr'⟩ := HPREV.out (by omega)
        rw [show k + 1 - 1 = k by omega] at hr'
        have HE2 : Hid (E = if stricter P q0 = false then 6 else 0) := hide (by
          rw [HE.out, if_pos rfl, if_pos he]
          by_cases hs : stricter P q0 = false
          · rw [if_pos ⟨by omega, hs⟩, if_pos hs]
          · rw [if_neg (fun h => hs h.2), if_neg hs])
        obtain ⟨Q, u1, u2, u3, u4, u5, m1, m2, m3, m4, m5⟩ := t'
        have hq : q0 = Q := hq
        rw [hq] at HE2
        have CS : Hid (∀ wx, Below w.heap.size w wx → Calls Try.prog 40 #[pval P v1 v2 v3 v4 v5, pval Q u1 u2 u3 u4 u5] wx fun e w' => e = .returned (.bool (stricter P Q)) ∧ Below w.heap.size w w') := hide (fun wx h => (rstrict_any _ _ _ _ _ _ _ _ _ _ P Q _ _ _ _ _ _ _ _ _ _ wx (HT.out.below h) (hok'.below h) HFT.out hf').mono fun e w' ⟨h1, h2⟩ => ⟨h1, bel2 h h2⟩)
        have SK : Hid (∀ wx, Below w.heap.size w wx → wx.cell? ⟨b, off + (k + 1) * 9, none⟩ = some (.int .i64 P.ep) ∧ wx.cell? ⟨b, off + (k + 1) * 9 + 1, none⟩ = some (v1) ∧ wx.cell? ⟨b, off + (k + 1) * 9 + 2, none⟩ = some (v2) ∧ wx.cell? ⟨b, off + (k + 1) * 9 + 3, none⟩ = some (v3) ∧ wx.cell? ⟨b, off + (k + 1) * 9 + 4, none⟩ = some (v4) ∧ wx.cell? ⟨b, off + (k + 1) * 9 + 5, none⟩ = some (v5) ∧ wx.cell? ⟨b, off + (k + 1) * 9 + 6, none⟩ = some (.int .i64 P.dp) ∧ wx.cell? ⟨b, off + (k + 1) * 9 + 7, none⟩ = some (.int .i64 P.nd) ∧ wx.cell? ⟨b, off + (k + 1) * 9 + 8, none⟩ = some (.int .i64 P.bt) ∧ wx.cell? ⟨b, off + k * 9, none⟩ = some (.int .i64 Q.ep) ∧ wx.cell? ⟨b, off + k * 9 + 1, none⟩ = some (u1) ∧ wx.cell? ⟨b, off + k * 9 + 2, none⟩ = some (u2) ∧ wx.cell? ⟨b, off + k * 9 + 3, none⟩ = some (u3) ∧ wx.cell? ⟨b, off + k * 9 + 4, none⟩ = some (u4) ∧ wx.cell? ⟨b, off + k * 9 + 5, none⟩ = some (u5) ∧ wx.cell? ⟨b, off + k * 9 + 6, none⟩ = some (.int .i64 Q.dp) ∧ wx.cell? ⟨b, off + k * 9 + 7, none⟩ = some (.int .i64 Q.nd) ∧ wx.cell? ⟨b, off + k * 9 + 8, none⟩ = some (.int .i64 Q.bt) ∧ Hid (Below w.heap.size w wx)) := hide (fun wx h => by
          obtain ⟨a0, a1, a2, a3, a4, a5, a6, a7, a8⟩ := HY.out wx h
          obtain ⟨b0, b1, b2, b3, b4, b5, b6, b7, b8⟩ := nine (range_keep hr' h)
          exact ⟨a0, a1, a2, a3, a4, a5, a6, a7, a8, b0, b1, b2, b3, b4, b5, b6, b7, b8, hide h⟩)
        have SB : Hid (∀ wx, (wx.cell? ⟨b, off + (k + 1) * 9, none⟩ = some (.int .i64 P.ep) ∧ wx.cell? ⟨b, off + (k + 1) * 9 + 1, none⟩ = some (v1) ∧ wx.cell? ⟨b, off + (k + 1) * 9 + 2, none⟩ = some (v2) ∧ wx.cell? ⟨b, off + (k + 1) * 9 + 3, none⟩ = some (v3) ∧ wx.cell? ⟨b, off + (k + 1) * 9 + 4, none⟩ = some (v4) ∧ wx.cell? ⟨b, off + (k + 1) * 9 + 5, none⟩ = some (v5) ∧ wx.cell? ⟨b, off + (k + 1) * 9 + 6, none⟩ = some (.int .i64 P.dp) ∧ wx.cell? ⟨b, off + (k + 1) * 9 + 7, none⟩ = some (.int .i64 P.nd) ∧ wx.cell? ⟨b, off + (k + 1) * 9 + 8, none⟩ = some (.int .i64 P.bt) ∧ wx.cell? ⟨b, off + k * 9, none⟩ = some (.int .i64 Q.ep) ∧ wx.cell? ⟨b, off + k * 9 + 1, none⟩ = some (u1) ∧ wx.cell? ⟨b, off + k * 9 + 2, none⟩ = some (u2) ∧ wx.cell? ⟨b, off + k * 9 + 3, none⟩ = some (u3) ∧ wx.cell? ⟨b, off + k * 9 + 4, none⟩ = some (u4) ∧ wx.cell? ⟨b, off + k * 9 + 5, none⟩ = some (u5) ∧ wx.cell? ⟨b, off + k * 9 + 6, none⟩ = some (.int .i64 Q.dp) ∧ wx.cell? ⟨b, off + k * 9 + 7, none⟩ = some (.int .i64 Q.nd) ∧ wx.cell? ⟨b, off + k * 9 + 8, none⟩ = some (.int .i64 Q.bt) ∧ Hid (Below w.heap.size w wx)) → Below w.heap.size w wx) := hide (fun wx h => h.2.2.2.2.2.2.2.2.2.2.2.2.2.2.2.2.2.2.out)
        have hwk : IntKind.i64.wrap (k : Int) = (k : Int) := IntWalk.i64_in _ (by omega)
        have hkN : k < N := by omega
        have hk0 : (0 : Int) ≤ (k : Int) + 1 := by omega
        have hk1 : (k : Int) + 1 < (N : Int) := by omega
        generalize stricter P Q = s at CS HE2
        clear hq hok' hf' hr' HE HPREV he h0
        go_wp2_with fail
        clear y0 y1 y2 y3 y4 y5 y6 y7 y8
        refine wp_region_held_drew (S := (fun wx => wx.cell? ⟨b, off + (k + 1) * 9, none⟩ = some (.int .i64 P.ep) ∧ wx.cell? ⟨b, off + (k + 1) * 9 + 1, none⟩ = some (v1) ∧ wx.cell? ⟨b, off + (k + 1) * 9 + 2, none⟩ = some (v2) ∧ wx.cell? ⟨b, off + (k + 1) * 9 + 3, none⟩ = some (v3) ∧ wx.cell? ⟨b, off + (k + 1) * 9 + 4, none⟩ = some (v4) ∧ wx.cell? ⟨b, off + (k + 1) * 9 + 5, none⟩ = some (v5) ∧ wx.cell? ⟨b, off + (k + 1) * 9 + 6, none⟩ = some (.int .i64 P.dp) ∧ wx.cell? ⟨b, off + (k + 1) * 9 + 7, none⟩ = some (.int .i64 P.nd) ∧ wx.cell? ⟨b, off + (k + 1) * 9 + 8, none⟩ = some (.int .i64 P.bt) ∧ wx.cell? ⟨b, off + k * 9, none⟩ = some (.int .i64 Q.ep) ∧ wx.cell? ⟨b, off + k * 9 + 1, none⟩ = some (u1) ∧ wx.cell? ⟨b, off + k * 9 + 2, none⟩ = some (u2) ∧ wx.cell? ⟨b, off + k * 9 + 3, none⟩ = some (u3) ∧ wx.cell? ⟨b, off + k * 9 + 4, none⟩ = some (u4) ∧ wx.cell? ⟨b, off + k * 9 + 5, none⟩ = some (u5) ∧ wx.cell? ⟨b, off + k * 9 + 6, none⟩ = some (.int .i64 Q.dp) ∧ wx.cell? ⟨b, off + k * 9 + 7, none⟩ = some (.int .i64 Q.nd) ∧ wx.cell? ⟨b, off + k * 9 + 8, none⟩ = some (.int .i64 Q.bt) ∧ Hid (Below w.heap.size w wx))) (by kernel_rfl) (SK.out _ (bel2 H2.out ((Below.refl _ _).drew))) (fun hHeld => ?_)
        refine wpAnyH_at (i := 0) (v := ?vf0) (a1 := ?xf0) rfl (by kernel_rfl) (by kernel_rfl) (by kernel_rfl) (fun _ _ _ h => h) (Or.inl ⟨by rfl, ?yf0⟩) (by assumption) ?hf0 ?zf0
        case yf0 => (intro w hSw; (try dsimp only at hSw); go_simp; try (with_reducible rfl))
        case hf0 => (go_simp; exact rfl)
        case zf0 =>
        refine wpAnyH_at (i := 1) (v := ?vf1) (a1 := ?xf1) rfl (by kernel_rfl) (by kernel_rfl) (by kernel_rfl) (fun _ _ _ h => h) (Or.inl ⟨by rfl, ?yf1⟩) (by assumption) ?hf1 ?zf1
        case yf1 => (intro w hSw; (try dsimp only at hSw); go_simp; try (with_reducible rfl))
        case hf1 => (go_simp; exact rfl)
        case zf1 =>
        refine wpAnyH_at (i := 2) (v := ?vf2) (a1 := ?xf2) rfl (by kernel_rfl) (by kernel_rfl) (by kernel_rfl) (fun _ _ _ h => h) (Or.inl ⟨by rfl, ?yf2⟩) (by assumption) ?hf2 ?zf2
        case yf2 => (intro w hSw; (try dsimp only at hSw); go_simp; try (with_reducible rfl))
        case hf2 => (go_simp; exact rfl)
        case zf2 =>
        refine wpAnyH_at (i := 3) (v := ?vf3) (a1 := ?xf3) rfl (by kernel_rfl) (by kernel_rfl) (by kernel_rfl) (fun _ _ _ h => h) (Or.inl ⟨by rfl, ?yf3⟩) (by assumption) ?hf3 ?zf3
        case yf3 => (intro w hSw; (try dsimp only at hSw); go_simp; try (with_reducible rfl))
        case hf3 => (go_simp; exact rfl)
        case zf3 =>
        refine wpAnyH_at (i := 4) (v := ?vf4) (a1 := ?xf4) rfl (by kernel_rfl) (by kernel_rfl) (by kernel_rfl) (fun _ _ _ h => h) (Or.inl ⟨by rfl, ?yf4⟩) (by assumption) ?hf4 ?zf4
        case yf4 => (intro w hSw; (try dsimp only at hSw); go_simp; try (with_reducible rfl))
        case hf4 => (go_simp; exact rfl)
        case zf4 =>
        refine wpAnyH_at (i := 5) (v := ?vf5) (a1 := ?xf5) rfl (by kernel_rfl) (by kernel_rfl) (by kernel_rfl) (fun _ _ _ h => h) (Or.inl ⟨by rfl, ?yf5⟩) (by assumption) ?hf5 ?zf5
        case yf5 => (intro w hSw; (try dsimp only at hSw); go_simp; try (with_reducible rfl))
        case hf5 => (go_simp; exact rfl)
        case zf5 =>
        refine wpAnyH_at (i := 6) (v := ?vf6) (a1 := ?xf6) rfl (by kernel_rfl) (by kernel_rfl) (by kernel_rfl) (fun _ _ _ h => h) (Or.inl ⟨by rfl, ?yf6⟩) (by assumption) ?hf6 ?zf6
        case yf6 => (intro w hSw; (try dsimp only at hSw); go_simp; try (with_reducible rfl))
        case hf6 => (go_simp; exact rfl)
        case zf6 =>
        refine wpAnyH_at (i := 7) (v := ?vf7) (a1 := ?xf7) rfl (by kernel_rfl) (by kernel_rfl) (by kernel_rfl) (fun _ _ _ h => h) (Or.inl ⟨by rfl, ?yf7⟩) (by assumption) ?hf7 ?zf7
        case yf7 => (intro w hSw; (try dsimp only at hSw); go_simp; try (with_reducible rfl))
        case hf7 => (go_simp; exact rfl)
        case zf7 =>
        refine wpAnyH_at (i := 8) (v := ?vf8) (a1 := ?xf8) rfl (by kernel_rfl) (by kernel_rfl) (by kernel_rfl) (fun _ _ _ h => h) (Or.inl ⟨by rfl, ?yf8⟩) (by assumption) ?hf8 ?zf8
        case yf8 => (intro w hSw; (try dsimp only at hSw); go_simp; try (with_reducible rfl))
        case hf8 => (go_simp; exact rfl)
        case zf8 =>
        refine wpAnyH_at (i := 9) (v := ?vf9) (a1 := ?xf9) rfl (by kernel_rfl) (by kernel_rfl) (by kernel_rfl) (fun _ _ _ h => h) (Or.inl ⟨by rfl, ?yf9⟩) (by assumption) ?hf9 ?zf9
        case yf9 => (intro w hSw; (try dsimp only at hSw); go_simp; try (with_reducible rfl))
        case hf9 => (go_simp; exact rfl)
        case zf9 =>
        refine wpAnyH_at (i := 10) (v := ?vf10) (a1 := ?xf10) rfl (by kernel_rfl) (by kernel_rfl) (by kernel_rfl) (fun _ _ _ h => h) (Or.inl ⟨by rfl, ?yf10⟩) (by assumption) ?hf10 ?zf10
        case yf10 => (intro w hSw; (try dsimp only at hSw); go_simp; try (with_reducible rfl))
        case hf10 => (go_simp; exact rfl)
        case zf10 =>
        refine wpAnyH_at (i := 11) (v := ?vf11) (a1 := ?xf11) rfl (by kernel_rfl) (by kernel_rfl) (by kernel_rfl) (fun _ _ _ h => h) (Or.inl ⟨by rfl, ?yf11⟩) (by assumption) ?hf11 ?zf11
        case yf11 => (intro w hSw; (try dsimp only at hSw); go_simp; try (with_reducible rfl))
        case hf11 => (go_simp; exact rfl)
        case zf11 =>
        refine wpAnyH_ready (rs := [12]) (by kernel_rfl) (by simp) ?_
        refine AllReadyH.cons rfl (fun K hK => ?_) AllReadyH.nil
        go_simp
        refine (CS.out _ (SB.out _ (by assumption))).mono ?_
        rintro e w6 ⟨rfl, h6⟩
        try go_wp2_with fail
        refine hK.out _ _ (SK.out _ (by assumption)) (fun hHeld2 => ?_)
        clear hK K hHeld
        have hHeld := hHeld2
        clear hHeld2
        refine wpAnyH_at (i := 13) (v := ?vf13) (a1 := ?xf13) rfl (by kernel_rfl) (by kernel_rfl) (by kernel_rfl) (fun _ _ _ h => h) (Or.inl ⟨by rfl, ?yf13⟩) (by assumption) ?hf13 ?zf13
        case yf13 => (intro w hSw; (try dsimp only at hSw); go_simp; try (with_reducible rfl))
        case hf13 => (go_simp; exact rfl)
        case zf13 =>
        refine wpAnyH_at (i := 14) (v := ?vf14) (a1 := ?xf14) rfl (by kernel_rfl) (by kernel_rfl) (by kernel_rfl) (fun _ _ _ h => h) (Or.inl ⟨by rfl, ?yf14⟩) (by assumption) ?hf14 ?zf14
        case yf14 => (intro w hSw; (try dsimp only at hSw); go_simp; try (with_reducible rfl))
        case hf14 => (go_simp; exact rfl)
        case zf14 =>
        refine wpAnyH_done (by kernel_rfl) ?_ _
        have H7 := hide (SB.out _ (by assumption))
        clear CS SK SB
        cases s with
        | false =>
          go_wp2_with fail
          go_ret
          rw [HE2.out]
          exact ⟨rfl, H7.out⟩
        | true =>
          go_wp2_with fail
          go_ret
          rw [HE2.out]
          exact ⟨rfl, H7.out⟩
    · have hne : (P.ep != (i : Int) + 1) = true := by simpa using he
      have HR : Hid (E = 7) := hide (by rw [HE.out, if_pos rfl, if_neg he])
      clear HE HPREV
      go_wp2_with fail
      go_ret
      rw [HR.out]
      exact ⟨rfl, H2.out⟩
end Go.Proofs.Ytlabdbkmlkmnkaa
