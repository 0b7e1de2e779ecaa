/-
  The law DevOwn, walked.
-/
import Derived.Test.YtjddhfiollhnfaaDVH
import Derived.OpenShut
namespace Go.Proofs.Ytjddhfiollhnfaa
open Go.RowKit


set_option maxHeartbeats 4000000 in
theorem own_walk (pb : Option Addr) (nb cb : Nat) (b : List UInt8) (z : Int) (w : World) (hb : IsBytes w (.slice pb nb cb) b) (hz : (Lit.int .i64 z).wf = true) :
    Calls Try.prog 7 #[.slice pb nb cb, .int .i64 z] w fun e w' => e = .returned (.bool true) ∧ Below w.heap.size w w' := by
  obtain rfl : nb = b.length := hb.len
  have HB := hide hb
  have hzb := Go.bounds_i64 hz
  clear hb hz
  by_cases h0 : b.length = 0
  · have e0 : ((b.length : Int) == 0) = true := by rw [h0]; rfl
    clear h0
    go_enter Try.func7, Try.ntmps7
    go_wp2_with fail
    refine (awake_any w).mono ?_
    rintro e w1 ⟨rfl, hb1⟩
    have HB1 := hide hb1
    clear hb1
    go_wp2_with fail
    refine (dnew w1).mono ?_
    rintro e w2 ⟨rfl, hd2, hb2⟩
    have HD2 : Hid (Dev w2 w1.heap.size w2.heap.size w1.heap.size ⟨[], 0, -1, false⟩) := hide hd2
    have HB2 := hide (HB1.out.trans (hb2.mono HB1.out.size))
    clear hd2 hb2
    go_wp2_with fail
    go_ret
    exact ⟨rfl, HB2.out⟩
  have e0 : ((b.length : Int) == 0) = false := beq_eq_false_iff_ne.2 (by omega)
  by_cases h1 : (20000 : Int) < (b.length : Int)
  · have e1 : decide ((20000 : Int) < (b.length : Int)) = true := by simpa using h1
    clear h0 h1
    go_enter Try.func7, Try.ntmps7
    go_wp2_with fail
    refine (awake_any w).mono ?_
    rintro e w1 ⟨rfl, hb1⟩
    have HB1 := hide hb1
    clear hb1
    go_wp2_with fail
    refine (dnew w1).mono ?_
    rintro e w2 ⟨rfl, hd2, hb2⟩
    have HD2 : Hid (Dev w2 w1.heap.size w2.heap.size w1.heap.size ⟨[], 0, -1, false⟩) := hide hd2
    have HB2 := hide (HB1.out.trans (hb2.mono HB1.out.size))
    clear hd2 hb2
    go_wp2_with fail
    go_ret
    exact ⟨rfl, HB2.out⟩
  have e1 : decide ((20000 : Int) < (b.length : Int)) = false := by simpa using h1
  by_cases h2 : z < 0
  · have e2 : decide (z < 0) = true := by simpa using h2
    clear h0 h1 h2
    go_enter Try.func7, Try.ntmps7
    go_wp2_with fail
    refine (awake_any w).mono ?_
    rintro e w1 ⟨rfl, hb1⟩
    have HB1 := hide hb1
    clear hb1
    go_wp2_with fail
    refine (dnew w1).mono ?_
    rintro e w2 ⟨rfl, hd2, hb2⟩
    have HD2 : Hid (Dev w2 w1.heap.size w2.heap.size w1.heap.size ⟨[], 0, -1, false⟩) := hide hd2
    have HB2 := hide (HB1.out.trans (hb2.mono HB1.out.size))
    clear hd2 hb2
    go_wp2_with fail
    go_ret
    exact ⟨rfl, HB2.out⟩
  have e2 : decide (z < 0) = false := by simpa using h2
  obtain ⟨m, rfl⟩ : ∃ m : Nat, z = (m : Int) := ⟨z.toNat, by omega⟩
  obtain ⟨k, hk⟩ : ∃ k, k = m % b.length := ⟨_, rfl⟩
  have hkl : k < b.length := by rw [hk]; exact Nat.mod_lt _ (by omega)
  have hmod : Int.tmod (m : Int) (b.length : Int) = (k : Int) := by rw [hk]; rfl
  have hne : ¬ (b.length : Int) = 0 := by omega
  have hNB : b.length ≤ 20000 := by omega
  have hkI : (k : Int) < (b.length : Int) := by omega
  have HN : Hid (0 < b.length) := hide (by omega)
  obtain ⟨q, hq⟩ : ∃ q : Int, q = ((b[k].toNat : Nat) : Int) := ⟨_, rfl⟩
  have HQ := hide hq
  clear h0 h1 h2 hk hq
  go_enter Try.func7, Try.ntmps7
  go_wp2_with fail
  refine (awake_any w).mono ?_
  rintro e w1 ⟨rfl, hb1⟩
  have HB1 := hide hb1
  clear hb1
  go_wp2_with fail
  refine (new_any w1).mono ?_
  rintro e w2 ⟨rfl, hd2, hb2⟩
  have HD2 := hide hd2
  have HB2 := hide (HB1.out.trans (hb2.mono HB1.out.size))
  clear hd2 hb2
  obtain ⟨i0, hi, hz0, hz1, hz2⟩ := info_parts infoByte
  go_wp2_with (at_builtin; refine wpList_append_bytes rfl _ _ rfl 0 (.slice (some ⟨w2.heap.size, 0, none⟩) 0 0) [] rfl (World.ownsRow_made w2 _ 0 (Nat.zero_le _) (by decide) rfl) (.slice pb b.length cb) b rfl (HB.out.below (HB2.out.alloc HB2.out.size _)) (by simp; omega) (Nat.zero_le _) ?_)
  intro v3 w3 ho3 hg3 hat3
  obtain ⟨g, c3, rfl, hce3⟩ := own_at ho3 HN.out
  have hg2 : w2.heap.size ≤ g := by
    rcases hat3 with h | h
    · simp [Value.ownBlock] at h; omega
    · simp [Value.ownBlock] at h; omega
  have hbl : w1.heap.size < w2.heap.size := lt_of_block (HD2.out.lt w1.heap.size (by simp) |> fun h => (Array.getElem?_eq_getElem h))
  have hgB : g ≠ w1.heap.size := by omega
  have hb3 : Below w2.heap.size w2 w3 := ((Below.refl _ w2).alloc (Nat.le_refl _) _).grown hg3 (by simp) (fun k hk => by simp [Value.ownBlock] at hk; omega)
  have HD3 : Hid (DevIn w3 w1.heap.size Dv.new [w1.heap.size]) := hide (HD2.out.keep (keep_below hb3 []) (by simp))
  have hg3l : g < w3.heap.size := (ho3.lt g rfl).2
  have HB3 := hide (HB2.out.trans (hb3.mono HB2.out.size))
  have HO3 := hide ho3
  clear ho3 hg3 hat3 hb3 hce3
  go_wp2_with fail
  refine (append_any w3 w1.heap.size Dv.new [w1.heap.size] _ b HD3.out (own_bytes HO3.out) (fun _ k hk hF => by simp [Value.ownBlock] at hk hF; omega) (by omega)).mono ?_
  rintro e w4 ⟨rfl, F4, hd4, hn4, hk4⟩
  have hap : Dv.new.app b = (⟨b, b.length, -1, false⟩, 0) := by
    have h := app_ok [] b 0 (by simp; omega)
    rw [List.nil_append, Nat.zero_add] at h
    exact h
  rw [hap] at hd4 ⊢
  have HD4 := hide hd4
  have HGF : Hid (g ∉ F4) := hide (fun h => by
    rcases hn4 g h with h | h
    · simp at h; omega
    · omega)
  have HF4 : Hid (∀ k ∈ F4, w1.heap.size ≤ k) := hide (fun k hk => by
    rcases hn4 k hk with h | h
    · simp at h; omega
    · omega)
  have HO4 : Hid (w4.ownsRow 0 5 1 (.slice (some ⟨g, 0, none⟩) b.length c3) b.length (Lib.byteCells b)) := hide (own_stays HO3.out hk4.block (fun k hk => by simp [Value.ownBlock] at hk ⊢; omega))
  have hg4l : g < w4.heap.size := Nat.lt_of_lt_of_le hg3l hk4.size
  have HB4 := hide (HB3.out.trans (hk4.below (base := w.heap.size) (fun k hk => by simp at hk; have := HB1.out.size; omega) HB3.out.size))
  have c4 : w4.cell? ⟨g, k, none⟩ = some (.int .u8 q) := by
    rw [HO4.out.cellAt k (by omega), byte_at b k hkl, HQ.out]
  have f4 := HO4.out.frozenAt k
  clear hd4 hn4 hk4 hap
  go_wp2_with fail
  obtain ⟨w5, hw5⟩ : ∃ w5, w5 = w4.setCell ⟨g, k, none⟩ (.int .u8 ((q + 1) % 256)) := ⟨_, rfl⟩
  rw [← hw5]
  have hk5 : Keep w4 w5 [g] := by rw [hw5]; exact (Keep.refl w4 [g]).set (p := ⟨g, k, none⟩) (by simp) _
  have HD5 : Hid (DevIn w5 w1.heap.size ⟨b, b.length, -1, false⟩ F4) := hide (HD4.out.keep hk5 (fun k hk h => by simp at h; rw [h] at hk; exact HGF.out hk))
  have HB5 := hide (HB4.out.trans (hk5.below (base := w.heap.size) (fun k hk => by simp at hk; have := HB2.out.size; omega) HB4.out.size))
  have hs5 : w4.heap.size ≤ w5.heap.size := hk5.size
  clear hw5 hk5 c4 f4
  refine (bytes_any w5 w1.heap.size _ F4 HD5.out).mono ?_
  rintro e w6 ⟨rfl, hx6, hb6⟩
  have HD6 : Hid (DevIn w6 w1.heap.size ⟨b, b.length, -1, false⟩ F4) := hide (HD5.out.keep (keep_below hb6 []) (by simp))
  have HXF : Hid (w5.heap.size ∉ F4) := hide (fun h => by have := HD5.out.lt _ h; omega)
  have HB6 := hide (HB5.out.trans (hb6.mono HB5.out.size))
  have c6 : w6.cell? ⟨w5.heap.size, k, none⟩ = some (.int .u8 q) := tag_cell hx6 k _ (by rw [List.getElem?_toArray, HQ.out]; exact byte_at b k hkl)
  have f6 := tag_free hx6 k
  have hl6 : w5.heap.size < w6.heap.size := lt_of_block hx6
  clear hx6 hb6
  go_wp2_with fail
  obtain ⟨w7, hw7⟩ : ∃ w7, w7 = w6.setCell ⟨w5.heap.size, k, none⟩ (.int .u8 ((q + 1) % 256)) := ⟨_, rfl⟩
  rw [← hw7]
  have hk7 : Keep w6 w7 [w5.heap.size] := by rw [hw7]; exact (Keep.refl w6 [w5.heap.size]).set (p := ⟨w5.heap.size, k, none⟩) (by simp) _
  have HD7 : Hid (DevIn w7 w1.heap.size ⟨b, b.length, -1, false⟩ F4) := hide (HD6.out.keep hk7 (fun k hk h => by simp at h; rw [h] at hk; exact HXF.out hk))
  have HB7 := hide (HB6.out.trans (hk7.below (base := w.heap.size) (fun k hk => by simp at hk; have := HB5.out.size; omega) HB6.out.size))
  clear hw7 hk7 c6 f6
  have HD8 : Hid (Dev w7 w1.heap.size w7.heap.size w1.heap.size ⟨b, b.length, -1, false⟩) := hide ⟨F4, HD7.out, fun k hk => ⟨HF4.out k hk, HD7.out.lt k hk⟩, by have := HD7.out; obtain ⟨av, h, _⟩ := this; exact Nat.le_of_lt (lt_of_block h)⟩
  have hca : (convert 28 9 (.slice pb b.length cb)).run Try.prog w7.drew = .ok (.string ⟨b.toArray⟩) w7.drew := (HB.out.below HB7.out.drew).conv
  clear hmod hne hkI hkl hzb hg2 hbl hgB hg3l hg4l hs5 hl6 hi hz0 hz1 hz2 HD2 HD3 HD4 HD5 HD6 HD7 HB2 HB3 HB4 HB5 HB6 HO3 HO4 HGF HF4 HXF HQ HN
  clear hca
  have SK : Hid (∀ wx, Below w7.heap.size w7 wx → (convert 28 9 (.slice pb b.length cb)).run Try.prog wx = .ok (.string ⟨b.toArray⟩) wx ∧ Hid (Below w7.heap.size w7 wx)) := hide (fun wx h => ⟨(HB.out.below (HB7.out.trans (h.mono HB7.out.size))).conv, h⟩)
  have CB : Hid (Calls Try.prog 22 #[.pointer (some ⟨w1.heap.size, 0, none⟩)] w7.drew fun e wb => e = .returned (.slice (some ⟨w7.heap.size, 0, none⟩) b.length b.length) ∧ (convert 28 9 (.slice (some ⟨w7.heap.size, 0, none⟩) b.length b.length)).run Try.prog wb = .ok (.string ⟨b.toArray⟩) wb ∧ Below w7.heap.size w7 wb) := hide ((dbytes (HD8.out.below (bel_one w7))).mono (fun e wb ⟨a1, _, a2, _, a3⟩ => ⟨a1, a2, (bel_one w7).trans a3⟩))
  have HFIN : Hid (∀ wx, Below w7.heap.size w7 wx → Below w.heap.size w wx) := hide (fun wx h => HB7.out.trans (h.mono HB7.out.size))
  clear HD8 HB HB7
  refine wp_region_held_drew (S := (fun wx => (convert 28 9 (.slice pb b.length cb)).run Try.prog wx = .ok (.string ⟨b.toArray⟩) wx ∧ Hid (Below w7.heap.size w7 wx))) (by kernel_rfl) (SK.out _ (bel_one w7)) (fun hHeld => ?_)
  refine wpAnyH_at (i := 0) (v := ?vf0) (a1 := ?xf0) rfl (by kernel_rfl) (by kernel_rfl) (by kernel_rfl) (fun _ _ _ h => h) (Or.inl ⟨by rfl, ?yf0⟩) (by assumption) ?hf0 ?zf0
  case yf0 => (intro w hSw; (try dsimp only at hSw); go_simp; try (with_reducible rfl))
  case hf0 => (go_simp; exact rfl)
  case zf0 =>
  refine wpAnyH_at (i := 1) (v := ?vf1) (a1 := ?xf1) rfl (by kernel_rfl) (by kernel_rfl) (by kernel_rfl) (fun _ _ _ h => h) (Or.inl ⟨by rfl, ?yf1⟩) (by assumption) ?hf1 ?zf1
  case yf1 => (intro w hSw; (try dsimp only at hSw); go_simp; try (with_reducible rfl))
  case hf1 => (go_simp; exact rfl)
  case zf1 =>
  refine wpAnyH_at (i := 2) (v := ?vf2) (a1 := ?xf2) rfl (by kernel_rfl) (by kernel_rfl) (by kernel_rfl) (fun _ _ _ h => h) (Or.inl ⟨by rfl, ?yf2⟩) (by assumption) ?hf2 ?zf2
  case yf2 => (intro w hSw; (try dsimp only at hSw); go_simp; try (with_reducible rfl))
  case hf2 => (go_simp; exact rfl)
  case zf2 =>
  refine wpAnyH_at (i := 3) (v := ?vf3) (a1 := ?xf3) rfl (by kernel_rfl) (by kernel_rfl) (by kernel_rfl) (fun _ _ _ h => h) (Or.inl ⟨by rfl, ?yf3⟩) (by assumption) ?hf3 ?zf3
  case yf3 => (intro w hSw; (try dsimp only at hSw); go_simp; try (with_reducible rfl))
  case hf3 => (go_simp; exact rfl)
  case zf3 =>
  refine wpAnyH_at (i := 4) (v := ?vf4) (a1 := ?xf4) rfl (by kernel_rfl) (by kernel_rfl) (by kernel_rfl) (fun _ _ _ h => h) (Or.inl ⟨by rfl, ?yf4⟩) (by assumption) ?hf4 ?zf4
  case yf4 => (intro w hSw; (try dsimp only at hSw); go_simp; try (with_reducible rfl))
  case hf4 => (go_simp; exact rfl)
  case zf4 =>
  refine wpAnyH_at (i := 5) (v := ?vf5) (a1 := ?xf5) rfl (by kernel_rfl) (by kernel_rfl) (by kernel_rfl) (fun _ _ _ h => h) (Or.inl ⟨by rfl, ?yf5⟩) (by assumption) ?hf5 ?zf5
  case yf5 => (intro w hSw; (try dsimp only at hSw); go_simp; try (with_reducible rfl))
  case hf5 => (go_simp; exact rfl)
  case zf5 =>
  refine wpAnyH_at (i := 6) (v := ?vf6) (a1 := ?xf6) rfl (by kernel_rfl) (by kernel_rfl) (by kernel_rfl) (fun _ _ _ h => h) (Or.inl ⟨by rfl, ?yf6⟩) (by assumption) ?hf6 ?zf6
  case yf6 => (intro w hSw; (try dsimp only at hSw); go_simp; try (with_reducible rfl))
  case hf6 => (go_simp; exact rfl)
  case zf6 =>
  refine wpAnyH_at (i := 9) (v := ?vf9) (a1 := ?xf9) rfl (by kernel_rfl) (by kernel_rfl) (by kernel_rfl) (fun _ _ _ h => h) (Or.inl ⟨by rfl, ?yf9⟩) (by assumption) ?hf9 ?zf9
  case yf9 => (intro w hSw; (try dsimp only at hSw); go_simp; try (with_reducible rfl))
  case hf9 => (go_simp; exact rfl)
  case zf9 =>
  refine wpAnyH_at (i := 10) (v := ?vf10) (a1 := ?xf10) rfl (by kernel_rfl) (by kernel_rfl) (by kernel_rfl) (fun _ _ _ h => h) (Or.inl ⟨by rfl, ?yf10⟩) (by assumption) ?hf10 ?zf10
  case yf10 => (intro w hSw; (try dsimp only at hSw); go_simp; try (with_reducible rfl))
  case hf10 => (go_simp; exact rfl)
  case zf10 =>
  refine wpAnyH_ready (rs := [7]) (by kernel_rfl) (by simp) ?_
  refine AllReadyH.cons rfl (fun K hK => ?_) AllReadyH.nil
  go_simp
  refine CB.out.mono ?_
  rintro e w8 ⟨rfl, hcv, hB8⟩
  try go_wp2_with fail
  refine hK.out _ _ (SK.out _ (by assumption)) (fun hHeld2 => ?_)
  clear hK K hHeld
  have hHeld := hHeld2
  clear hHeld2
  refine wpAnyH_ready (rs := [8]) (by kernel_rfl) (by simp) ?_
  refine AllReadyH.cons rfl (fun K hK => ?_) AllReadyH.nil
  go_simp
  try go_wp2_with fail
  refine hK.out _ _ (SK.out _ (by assumption)) (fun hHeld2 => ?_)
  clear hK K hHeld
  have hHeld := hHeld2
  clear hHeld2
  refine wpAnyH_at (i := 11) (v := ?vf11) (a1 := ?xf11) rfl (by kernel_rfl) (by kernel_rfl) (by kernel_rfl) (fun _ _ _ h => h) (Or.inl ⟨by rfl, ?yf11⟩) (by assumption) ?hf11 ?zf11
  case yf11 => (intro w hSw; (try dsimp only at hSw); go_simp; try (with_reducible rfl))
  case hf11 => (go_simp; exact rfl)
  case zf11 =>
  refine wpAnyH_at (i := 12) (v := ?vf12) (a1 := ?xf12) rfl (by kernel_rfl) (by kernel_rfl) (by kernel_rfl) (fun _ _ _ h => h) (Or.inl ⟨by rfl, ?yf12⟩) (by assumption) ?hf12 ?zf12
  case yf12 => (intro w hSw; (try dsimp only at hSw); go_simp; try (with_reducible rfl))
  case hf12 => (go_simp; exact rfl)
  case zf12 =>
  refine wpAnyH_at (i := 13) (v := ?vf13) (a1 := ?xf13) rfl (by kernel_rfl) (by kernel_rfl) (by kernel_rfl) (fun _ _ _ h => h) (Or.inl ⟨by rfl, ?yf13⟩) (by assumption) ?hf13 ?zf13
  case yf13 => (intro w hSw; (try dsimp only at hSw); go_simp; try (with_reducible rfl))
  case hf13 => (go_simp; exact rfl)
  case zf13 =>
  refine wpAnyH_done (by kernel_rfl) ?_ _
  go_wp2_with fail
  go_ret
  exact ⟨rfl, HFIN.out _ (by assumption)⟩
end Go.Proofs.Ytjddhfiollhnfaa
