/-
  The document's own Same, at lists of the same messages.
-/
import Derived.Test.YtmogplecohkjcaaGreatDoorDBA
import Derived.Test.YtmogplecohkjcaaGreatDoorMD8
import Derived.Test.YtmogplecohkjcaaGreatDoorDVH
import Derived.Test.YtmogplecohkjcaaGreatDoorDU
import Derived.Test.YtmogplecohkjcaaGreatDoorMD7
import Derived.Laws.ResultCell
namespace Go.Proofs.YtmogplecohkjcaaGreatDoor
open Go.RowKit
open Utf1
open Pol8 hiding text right Right
open Msg15 Mail17

theorem same_at {ts us : List Im} (h : ts.map Im.m = us.map Im.m) {i : Nat} {t u : Im} (ht : ts[i]? = some t) (hu : us[i]? = some u) : t.m = u.m := by
  have h1 : (ts.map Im.m)[i]? = some t.m := by rw [List.getElem?_map, ht]; rfl
  have h2 : (us.map Im.m)[i]? = some u.m := by rw [List.getElem?_map, hu]; rfl
  rw [h, h2] at h1
  exact (Option.some.inj h1).symm
theorem same_true (t x : Im) (h : t.m = x.m) (w : World) (ht : t.ok w) (hx : x.ok w) : Calls Tryz.prog 15 #[t.val, x.val] w fun e w' => e = .returned (.bool true) ∧ Below w.heap.size w w' := by
  refine (msame_any t.m x.m _ _ _ _ _ _ _ _ _ _ _ _ _ _ _ _ _ _ _ _ _ _ _ _ _ _ _ _ w ht hx).mono ?_
  rintro e w' ⟨⟨b, rfl, hb⟩, h2⟩
  rw [hb.2 h]
  exact ⟨rfl, h2⟩
set_option maxRecDepth 100000 in
set_option maxHeartbeats 16000000 in
theorem rsamel_any (v u : Value) (ts us : List Im) (he : ts.map Im.m = us.map Im.m) (hl : ts.length ≤ 100000) (w : World) (hv : MRow w v ts) (hu : MRow w u us) :
    Calls Tryz.prog 18 #[v, u] w fun e w' => e = .returned (.bool true) ∧ Below w.heap.size w w' := by
  have hlen : ts.length = us.length := by
    have := congrArg List.length he
    rwa [List.length_map, List.length_map] at this
  have HV := hide hv
  have HU := hide hu
  obtain ⟨p, cap, rfl, hcap⟩ := hv.shape
  obtain ⟨p', cap', rfl, hcap'⟩ := hu.shape
  obtain ⟨N, hN⟩ : ∃ N, N = ts.length := ⟨_, rfl⟩
  have HC : Hid (∀ i, i < N → ∃ (t x : Im) (b off b' off' : Nat), p = some ⟨b, off, none⟩ ∧ p' = some ⟨b', off', none⟩ ∧ ∀ wx, Below w.heap.size w wx → (wx.rangeAt b (off + i * 15) t.cells ∧ wx.rangeAt b' (off' + i * 15) x.cells ∧ Calls Tryz.prog 15 #[t.val, x.val] wx fun e w' => e = .returned (.bool true) ∧ Below w.heap.size w w')) := hide (fun i hi => by
    rw [hN] at hi
    have ht := List.getElem?_eq_getElem hi
    have hi' : i < us.length := by omega
    have hx := List.getElem?_eq_getElem hi'
    obtain ⟨b, off, e, hr, hk⟩ := HV.out.at ht
    obtain ⟨b', off', e', hr', hk'⟩ := HU.out.at hx
    refine ⟨ts[i], us[i], b, off, b', off', e, e', fun wx h => ⟨range_keep hr h, range_keep hr' h, ?_⟩⟩
    exact (same_true _ _ (same_at he ht hx) wx (hk.below h) (hk'.below h)).mono fun e w' ⟨h1, h2⟩ => ⟨h1, bel2 h h2⟩)
  rw [← hlen] at HU ⊢
  rw [← hN] at hl ⊢
  clear hN HV HU hcap hcap' hlen he hv hu
  go_enter Tryz.func18, Tryz.ntmps18
  go_wp2_with fail
  go_loopg [5] N (fun g v5 wx => ∃ i : Nat, i + g = N ∧ v5 = .int .i64 (i : Int) ∧ Hid (Below w.heap.size w wx))
  case atStart => exact ⟨0, by omega, rfl, hide (Below.refl _ _)⟩
  case round =>
    obtain ⟨i, hi, rfl, HB⟩ := hrel
    by_cases hlt : i < N
    · obtain ⟨t, x, b, off, b', off', rfl, rfl, hc⟩ := HC.out i hlt
      have CS : Hid (∀ wx, Below w.heap.size w wx → Calls Tryz.prog 15 #[t.val, x.val] wx fun e w' => e = .returned (.bool true) ∧ Below w.heap.size w w') := hide (fun wx h => (hc wx h).2.2)
      have SK : Hid (∀ wx, Below w.heap.size w wx → wx.cell? ⟨b, off + i * 15, none⟩ = some (.int .i64 t.m.kind) ∧ wx.cell? ⟨b, off + i * 15 + 1, none⟩ = some (.int .i64 t.m.fr) ∧ wx.cell? ⟨b, off + i * 15 + 2, none⟩ = some (.int .i64 t.m.to) ∧ wx.cell? ⟨b, off + i * 15 + 3, none⟩ = some (.int .i64 t.m.ep) ∧ wx.cell? ⟨b, off + i * 15 + 4, none⟩ = some (t.vi) ∧ wx.cell? ⟨b, off + i * 15 + 5, none⟩ = some (t.vp) ∧ wx.cell? ⟨b, off + i * 15 + 6, none⟩ = some (.int .i64 t.m.pol.ep) ∧ wx.cell? ⟨b, off + i * 15 + 7, none⟩ = some (t.v1) ∧ wx.cell? ⟨b, off + i * 15 + 8, none⟩ = some (t.v2) ∧ wx.cell? ⟨b, off + i * 15 + 9, none⟩ = some (t.v3) ∧ wx.cell? ⟨b, off + i * 15 + 10, none⟩ = some (t.v4) ∧ wx.cell? ⟨b, off + i * 15 + 11, none⟩ = some (t.v5) ∧ wx.cell? ⟨b, off + i * 15 + 12, none⟩ = some (.int .i64 t.m.pol.dp) ∧ wx.cell? ⟨b, off + i * 15 + 13, none⟩ = some (.int .i64 t.m.pol.nd) ∧ wx.cell? ⟨b, off + i * 15 + 14, none⟩ = some (.int .i64 t.m.pol.bt) ∧ wx.cell? ⟨b', off' + i * 15, none⟩ = some (.int .i64 x.m.kind) ∧ wx.cell? ⟨b', off' + i * 15 + 1, none⟩ = some (.int .i64 x.m.fr) ∧ wx.cell? ⟨b', off' + i * 15 + 2, none⟩ = some (.int .i64 x.m.to) ∧ wx.cell? ⟨b', off' + i * 15 + 3, none⟩ = some (.int .i64 x.m.ep) ∧ wx.cell? ⟨b', off' + i * 15 + 4, none⟩ = some (x.vi) ∧ wx.cell? ⟨b', off' + i * 15 + 5, none⟩ = some (x.vp) ∧ wx.cell? ⟨b', off' + i * 15 + 6, none⟩ = some (.int .i64 x.m.pol.ep) ∧ wx.cell? ⟨b', off' + i * 15 + 7, none⟩ = some (x.v1) ∧ wx.cell? ⟨b', off' + i * 15 + 8, none⟩ = some (x.v2) ∧ wx.cell? ⟨b', off' + i * 15 + 9, none⟩ = some (x.v3) ∧ wx.cell? ⟨b', off' + i * 15 + 10, none⟩ = some (x.v4) ∧ wx.cell? ⟨b', off' + i * 15 + 11, none⟩ = some (x.v5) ∧ wx.cell? ⟨b', off' + i * 15 + 12, none⟩ = some (.int .i64 x.m.pol.dp) ∧ wx.cell? ⟨b', off' + i * 15 + 13, none⟩ = some (.int .i64 x.m.pol.nd) ∧ wx.cell? ⟨b', off' + i * 15 + 14, none⟩ = some (.int .i64 x.m.pol.bt) ∧ Hid (Below w.heap.size w wx)) := hide (fun wx h => by
        obtain ⟨a0, a1, a2, a3, a4, a5, a6, a7, a8, a9, a10, a11, a12, a13, a14⟩ := fifteen (hc wx h).1
        obtain ⟨b0, b1, b2, b3, b4, b5, b6, b7, b8, b9, b10, b11, b12, b13, b14⟩ := fifteen (hc wx h).2.1
        exact ⟨a0, a1, a2, a3, a4, a5, a6, a7, a8, a9, a10, a11, a12, a13, a14, b0, b1, b2, b3, b4, b5, b6, b7, b8, b9, b10, b11, b12, b13, b14, hide h⟩)
      have SB : Hid (∀ wx, (wx.cell? ⟨b, off + i * 15, none⟩ = some (.int .i64 t.m.kind) ∧ wx.cell? ⟨b, off + i * 15 + 1, none⟩ = some (.int .i64 t.m.fr) ∧ wx.cell? ⟨b, off + i * 15 + 2, none⟩ = some (.int .i64 t.m.to) ∧ wx.cell? ⟨b, off + i * 15 + 3, none⟩ = some (.int .i64 t.m.ep) ∧ wx.cell? ⟨b, off + i * 15 + 4, none⟩ = some (t.vi) ∧ wx.cell? ⟨b, off + i * 15 + 5, none⟩ = some (t.vp) ∧ wx.cell? ⟨b, off + i * 15 + 6, none⟩ = some (.int .i64 t.m.pol.ep) ∧ wx.cell? ⟨b, off + i * 15 + 7, none⟩ = some (t.v1) ∧ wx.cell? ⟨b, off + i * 15 + 8, none⟩ = some (t.v2) ∧ wx.cell? ⟨b, off + i * 15 + 9, none⟩ = some (t.v3) ∧ wx.cell? ⟨b, off + i * 15 + 10, none⟩ = some (t.v4) ∧ wx.cell? ⟨b, off + i * 15 + 11, none⟩ = some (t.v5) ∧ wx.cell? ⟨b, off + i * 15 + 12, none⟩ = some (.int .i64 t.m.pol.dp) ∧ wx.cell? ⟨b, off + i * 15 + 13, none⟩ = some (.int .i64 t.m.pol.nd) ∧ wx.cell? ⟨b, off + i * 15 + 14, none⟩ = some (.int .i64 t.m.pol.bt) ∧ wx.cell? ⟨b', off' + i * 15, none⟩ = some (.int .i64 x.m.kind) ∧ wx.cell? ⟨b', off' + i * 15 + 1, none⟩ = some (.int .i64 x.m.fr) ∧ wx.cell? ⟨b', off' + i * 15 + 2, none⟩ = some (.int .i64 x.m.to) ∧ wx.cell? ⟨b', off' + i * 15 + 3, none⟩ = some (.int .i64 x.m.ep) ∧ wx.cell? ⟨b', off' + i * 15 + 4, none⟩ = some (x.vi) ∧ wx.cell? ⟨b', off' + i * 15 + 5, none⟩ = some (x.vp) ∧ wx.cell? ⟨b', off' + i * 15 + 6, none⟩ = some (.int .i64 x.m.pol.ep) ∧ wx.cell? ⟨b', off' + i * 15 + 7, none⟩ = some (x.v1) ∧ wx.cell? ⟨b', off' + i * 15 + 8, none⟩ = some (x.v2) ∧ wx.cell? ⟨b', off' + i * 15 + 9, none⟩ = some (x.v3) ∧ wx.cell? ⟨b', off' + i * 15 + 10, none⟩ = some (x.v4) ∧ wx.cell? ⟨b', off' + i * 15 + 11, none⟩ = some (x.v5) ∧ wx.cell? ⟨b', off' + i * 15 + 12, none⟩ = some (.int .i64 x.m.pol.dp) ∧ wx.cell? ⟨b', off' + i * 15 + 13, none⟩ = some (.int .i64 x.m.pol.nd) ∧ wx.cell? ⟨b', off' + i * 15 + 14, none⟩ = some (.int .i64 x.m.pol.bt) ∧ Hid (Below w.heap.size w wx)) → Below w.heap.size w wx) := hide (fun wx h => h.2.2.2.2.2.2.2.2.2.2.2.2.2.2.2.2.2.2.2.2.2.2.2.2.2.2.2.2.2.2.out)
      clear hc HC
      go_wp2_with fail
      refine wp_region_held_drew (S := (fun wx => wx.cell? ⟨b, off + i * 15, none⟩ = some (.int .i64 t.m.kind) ∧ wx.cell? ⟨b, off + i * 15 + 1, none⟩ = some (.int .i64 t.m.fr) ∧ wx.cell? ⟨b, off + i * 15 + 2, none⟩ = some (.int .i64 t.m.to) ∧ wx.cell? ⟨b, off + i * 15 + 3, none⟩ = some (.int .i64 t.m.ep) ∧ wx.cell? ⟨b, off + i * 15 + 4, none⟩ = some (t.vi) ∧ wx.cell? ⟨b, off + i * 15 + 5, none⟩ = some (t.vp) ∧ wx.cell? ⟨b, off + i * 15 + 6, none⟩ = some (.int .i64 t.m.pol.ep) ∧ wx.cell? ⟨b, off + i * 15 + 7, none⟩ = some (t.v1) ∧ wx.cell? ⟨b, off + i * 15 + 8, none⟩ = some (t.v2) ∧ wx.cell? ⟨b, off + i * 15 + 9, none⟩ = some (t.v3) ∧ wx.cell? ⟨b, off + i * 15 + 10, none⟩ = some (t.v4) ∧ wx.cell? ⟨b, off + i * 15 + 11, none⟩ = some (t.v5) ∧ wx.cell? ⟨b, off + i * 15 + 12, none⟩ = some (.int .i64 t.m.pol.dp) ∧ wx.cell? ⟨b, off + i * 15 + 13, none⟩ = some (.int .i64 t.m.pol.nd) ∧ wx.cell? ⟨b, off + i * 15 + 14, none⟩ = some (.int .i64 t.m.pol.bt) ∧ wx.cell? ⟨b', off' + i * 15, none⟩ = some (.int .i64 x.m.kind) ∧ wx.cell? ⟨b', off' + i * 15 + 1, none⟩ = some (.int .i64 x.m.fr) ∧ wx.cell? ⟨b', off' + i * 15 + 2, none⟩ = some (.int .i64 x.m.to) ∧ wx.cell? ⟨b', off' + i * 15 + 3, none⟩ = some (.int .i64 x.m.ep) ∧ wx.cell? ⟨b', off' + i * 15 + 4, none⟩ = some (x.vi) ∧ wx.cell? ⟨b', off' + i * 15 + 5, none⟩ = some (x.vp) ∧ wx.cell? ⟨b', off' + i * 15 + 6, none⟩ = some (.int .i64 x.m.pol.ep) ∧ wx.cell? ⟨b', off' + i * 15 + 7, none⟩ = some (x.v1) ∧ wx.cell? ⟨b', off' + i * 15 + 8, none⟩ = some (x.v2) ∧ wx.cell? ⟨b', off' + i * 15 + 9, none⟩ = some (x.v3) ∧ wx.cell? ⟨b', off' + i * 15 + 10, none⟩ = some (x.v4) ∧ wx.cell? ⟨b', off' + i * 15 + 11, none⟩ = some (x.v5) ∧ wx.cell? ⟨b', off' + i * 15 + 12, none⟩ = some (.int .i64 x.m.pol.dp) ∧ wx.cell? ⟨b', off' + i * 15 + 13, none⟩ = some (.int .i64 x.m.pol.nd) ∧ wx.cell? ⟨b', off' + i * 15 + 14, none⟩ = some (.int .i64 x.m.pol.bt) ∧ Hid (Below w.heap.size w wx))) (by kernel_rfl) (SK.out _ (bel2 HB.out ((Below.refl _ _).drew))) (fun hHeld => ?_)
      refine wpAnyH_at (i := 0) (v := ?vf0) (a1 := ?xf0) rfl (by kernel_rfl) (by kernel_rfl) (by kernel_rfl) (fun _ _ _ h => h) (Or.inl ⟨by rfl, ?yf0⟩) (by assumption) ?hf0 ?zf0
      case yf0 => (intro w hSw; (try dsimp only at hSw); go_simp; try (with_reducible rfl))
      case hf0 => (go_simp; exact rfl)
      case zf0 =>
      refine wpAnyH_at (i := 1) (v := ?vf1) (a1 := ?xf1) rfl (by kernel_rfl) (by kernel_rfl) (by kernel_rfl) (fun _ _ _ h => h) (Or.inl ⟨by rfl, ?yf1⟩) (by assumption) ?hf1 ?zf1
      case yf1 => (intro w hSw; (try dsimp only at hSw); go_simp; try (with_reducible rfl))
      case hf1 => (go_simp; exact rfl)
      case zf1 =>
      refine wpAnyH_at (i := 2) (v := ?vf2) (a1 := ?xf2) rfl (by kernel_rfl) (by kernel_rfl) (by kernel_rfl) (fun _ _ _ h => h) (Or.inl ⟨by rfl, ?yf2⟩) (by assumption) ?hf2 ?zf2
      case yf2 => (intro w hSw; (try dsimp only at hSw); go_simp; try (with_reducible rfl))
      case hf2 => (go_simp; exact rfl)
      case zf2 =>
      refine wpAnyH_at (i := 3) (v := ?vf3) (a1 := ?xf3) rfl (by kernel_rfl) (by kernel_rfl) (by kernel_rfl) (fun _ _ _ h => h) (Or.inl ⟨by rfl, ?yf3⟩) (by assumption) ?hf3 ?zf3
      case yf3 => (intro w hSw; (try dsimp only at hSw); go_simp; try (with_reducible rfl))
      case hf3 => (go_simp; exact rfl)
      case zf3 =>
      refine wpAnyH_at (i := 4) (v := ?vf4) (a1 := ?xf4) rfl (by kernel_rfl) (by kernel_rfl) (by kernel_rfl) (fun _ _ _ h => h) (Or.inl ⟨by rfl, ?yf4⟩) (by assumption) ?hf4 ?zf4
      case yf4 => (intro w hSw; (try dsimp only at hSw); go_simp; try (with_reducible rfl))
      case hf4 => (go_simp; exact rfl)
      case zf4 =>
      refine wpAnyH_at (i := 5) (v := ?vf5) (a1 := ?xf5) rfl (by kernel_rfl) (by kernel_rfl) (by kernel_rfl) (fun _ _ _ h => h) (Or.inl ⟨by rfl, ?yf5⟩) (by assumption) ?hf5 ?zf5
      case yf5 => (intro w hSw; (try dsimp only at hSw); go_simp; try (with_reducible rfl))
      case hf5 => (go_simp; exact rfl)
      case zf5 =>
      refine wpAnyH_at (i := 6) (v := ?vf6) (a1 := ?xf6) rfl (by kernel_rfl) (by kernel_rfl) (by kernel_rfl) (fun _ _ _ h => h) (Or.inl ⟨by rfl, ?yf6⟩) (by assumption) ?hf6 ?zf6
      case yf6 => (intro w hSw; (try dsimp only at hSw); go_simp; try (with_reducible rfl))
      case hf6 => (go_simp; exact rfl)
      case zf6 =>
      refine wpAnyH_at (i := 7) (v := ?vf7) (a1 := ?xf7) rfl (by kernel_rfl) (by kernel_rfl) (by kernel_rfl) (fun _ _ _ h => h) (Or.inl ⟨by rfl, ?yf7⟩) (by assumption) ?hf7 ?zf7
      case yf7 => (intro w hSw; (try dsimp only at hSw); go_simp; try (with_reducible rfl))
      case hf7 => (go_simp; exact rfl)
      case zf7 =>
      refine wpAnyH_ready (rs := [8]) (by kernel_rfl) (by simp) ?_
      refine AllReadyH.cons rfl (fun K hK => ?_) AllReadyH.nil
      go_simp
      refine (CS.out _ (SB.out _ (by assumption))).mono ?_
      rintro e w6 ⟨rfl, h6⟩
      try go_wp2_with fail
      refine hK.out _ _ (SK.out _ (by assumption)) (fun hHeld2 => ?_)
      clear hK K hHeld
      have hHeld := hHeld2
      clear hHeld2
      refine wpAnyH_at (i := 9) (v := ?vf9) (a1 := ?xf9) rfl (by kernel_rfl) (by kernel_rfl) (by kernel_rfl) (fun _ _ _ h => h) (Or.inl ⟨by rfl, ?yf9⟩) (by assumption) ?hf9 ?zf9
      case yf9 => (intro w hSw; (try dsimp only at hSw); go_simp; try (with_reducible rfl))
      case hf9 => (go_simp; exact rfl)
      case zf9 =>
      refine wpAnyH_done (by kernel_rfl) ?_ _
      have H7 := hide (SB.out _ (by assumption))
      go_wp2_with fail
      go_roundg (N - (i + 1))
      case measure => omega
      case rel => exact ⟨i + 1, by omega, by first | rfl | (push_cast; rfl), H7⟩
    · have hiN : i = N := by omega
      subst hiN
      go_wp2_with fail
      go_ret
      exact ⟨rfl, HB.out⟩
end Go.Proofs.YtmogplecohkjcaaGreatDoor

namespace Go.Proofs.YtmogplecohkjcaaGreatDoor
open Go.RowKit
open Utf1
open Pol8 hiding text right Right
open Msg15 Mail17

/-- What the document's Put and Twice leave. -/
def RPut (W0 w : World) (rb : Nat) (F : List Nat) (R : Int → List Ms → Prop) (e : Ending) (w' : World) : Prop := (∃ (cd : Int) (ts' : List Im) (p' : Option Addr) (c' : Nat), e = .returned (.int .i64 cd) ∧ R cd (ts'.map Im.m) ∧ RB W0 w' rb ts' p' c' ∧ Near w F (rblk rb p')) ∧ Keep w w' [rb]
theorem mown_base {w : World} {base base' : Nat} {e : TypeId} {size : Nat} {v : Value} {n : Nat} {xs : List Value} (h : w.ownsRow base e size v n xs) (hb : base' ≤ base) : w.ownsRow base' e size v n xs := by
  obtain ⟨h1, h2 | ⟨g, cap, cur, h3, h4, h5⟩⟩ := h
  · exact ⟨h1, .inl h2⟩
  · exact ⟨h1, .inr ⟨g, cap, cur, h3, by omega, h5⟩⟩
theorem rb_store {W0 w W : World} {rb : Nat} {ts us : List Im} {p q : Option Addr} {c n c' : Nat} (h : RB W0 w rb ts p c) (hb : Below w.heap.size w W) (hl : us.length = n) (ho : W.ownsRow w.heap.size 35 15 (.slice q n c') n (mflat us)) (hk : ∀ t ∈ us, t.ok W0) :
    RB W0 (W.setCell ⟨rb, 0, none⟩ (.slice q n c')) rb us q c' ∧ Near w (rblk rb p) (rblk rb q) ∧ Keep w (W.setCell ⟨rb, 0, none⟩ (.slice q n c')) [rb] := by
  subst hl
  have hlt := h.lt
  have hne : (Value.slice q us.length c').ownBlock ≠ some rb := fun e => by have := (own_block ho e).1; omega
  refine ⟨⟨h.lo, (bel2 h.bw hb).setCell (show W0.heap.size ≤ rb from h.lo) _, cell_set ((hb.block _ hlt).trans h.b) 0 _, mown_base (ownsRow_setCell_other ho hne _) h.bw.size, hk⟩, ?_, ?_⟩
  · intro k hk
    unfold rblk at hk
    cases q with
    | none =>
      left
      rw [List.mem_singleton.1 hk]
      unfold rblk
      cases p <;> simp
    | some a =>
      rcases List.mem_cons.1 hk with rfl | hk
      · left
        unfold rblk
        cases p <;> simp
      · right
        rw [List.mem_singleton.1 hk]
        rcases ho.2 with ⟨e, -⟩ | ⟨g, cap, cur, e, hg, -⟩
        · cases e
        · injection e with e1
          injection e1 with e1
          rw [e1]
          exact hg
  · exact ⟨hb.os, hb.tape, hb.output, by simpa [World.setCell] using hb.size, fun k hk hF => (set_other (fun e => hF (by rw [e]; exact List.mem_singleton.2 rfl)) _).trans (hb.block k hk)⟩
theorem keep_of {w w' : World} {rb : Nat} (h : Below w.heap.size w w') : Keep w w' [rb] := ⟨h.os, h.tape, h.output, h.size, fun k hk _ => h.block k hk⟩
theorem Near.refl (w : World) (F : List Nat) : Near w F F := fun _ h => .inl h
theorem mright_im (t : Im) (w : World) (ht : t.ok w) : Calls Tryz.prog 23 #[t.val] w fun e w' => (∃ b : Bool, e = .returned (.bool b) ∧ (b = true ↔ MRight t.m)) ∧ Below w.heap.size w w' := by
  have h := mright_any t.m.kind t.m.fr t.m.to t.m.ep t.vi t.vp t.ids t.ts _ _ _ _ _ t.m.pol _ _ _ _ _ w ht.hi ht.hp ht.hv ht.hf ht.li ht.lp t.m (by
    have e1 := ht.ei
    have e2 := ht.ep
    cases hm : t.m
    rw [hm] at e1 e2
    simp only at e1 e2
    rw [← e1, ← e2])
  exact h

set_option maxRecDepth 100000 in
set_option maxHeartbeats 16000000 in
theorem rput_any (W0 : World) (rb : Nat) (ts : List Im) (p : Option Addr) (c : Nat) (t : Im) (w : World) (h : RB W0 w rb ts p c) (hf : Fine (ts.map Im.m)) (ht : t.ok W0) :
    Calls Tryz.prog 12 #[.pointer (some ⟨rb, 0, none⟩), t.val] w fun e w' => RPut W0 w rb (rblk rb p) (PutR (ts.map Im.m) t.m) e w' := by
  have HR := hide h
  have HF := hide hf
  have HT := hide ht
  have HW : Hid (∀ wx, Below w.heap.size w wx → t.ok wx) := hide (fun wx hb => ht.below (bel2 h.bw hb))
  have HM : Hid (∀ wx : World, wx.heap[w.heap.size]? = some (.cells t.cells.toArray 35 (0, 0)) → wx.cell? ⟨w.heap.size, 0, none⟩ = some (.int .i64 t.m.kind) ∧ wx.cell? ⟨w.heap.size, 1, none⟩ = some (.int .i64 t.m.fr) ∧ wx.cell? ⟨w.heap.size, 2, none⟩ = some (.int .i64 t.m.to) ∧ wx.cell? ⟨w.heap.size, 3, none⟩ = some (.int .i64 t.m.ep) ∧ wx.cell? ⟨w.heap.size, 4, none⟩ = some (t.vi) ∧ wx.cell? ⟨w.heap.size, 5, none⟩ = some (t.vp) ∧ wx.cell? ⟨w.heap.size, 6, none⟩ = some (.int .i64 t.m.pol.ep) ∧ wx.cell? ⟨w.heap.size, 7, none⟩ = some (t.v1) ∧ wx.cell? ⟨w.heap.size, 8, none⟩ = some (t.v2) ∧ wx.cell? ⟨w.heap.size, 9, none⟩ = some (t.v3) ∧ wx.cell? ⟨w.heap.size, 10, none⟩ = some (t.v4) ∧ wx.cell? ⟨w.heap.size, 11, none⟩ = some (t.v5) ∧ wx.cell? ⟨w.heap.size, 12, none⟩ = some (.int .i64 t.m.pol.dp) ∧ wx.cell? ⟨w.heap.size, 13, none⟩ = some (.int .i64 t.m.pol.nd) ∧ wx.cell? ⟨w.heap.size, 14, none⟩ = some (.int .i64 t.m.pol.bt)) := hide (fun wx h => ⟨tag_cell h 0 _ rfl, tag_cell h 1 _ rfl, tag_cell h 2 _ rfl, tag_cell h 3 _ rfl, tag_cell h 4 _ rfl, tag_cell h 5 _ rfl, tag_cell h 6 _ rfl, tag_cell h 7 _ rfl, tag_cell h 8 _ rfl, tag_cell h 9 _ rfl, tag_cell h 10 _ rfl, tag_cell h 11 _ rfl, tag_cell h 12 _ rfl, tag_cell h 13 _ rfl, tag_cell h 14 _ rfl⟩)
  have CR := hide (mright_im t (w.alloc (.cells t.cells.toArray 35)) (HW.out _ (bel_alloc (Below.refl _ _) _)))
  obtain ⟨y0, y1, y2, y3, y4, y5, y6, y7, y8, y9, y10, y11, y12, y13, y14⟩ := HM.out (w.alloc (.cells t.cells.toArray 35)) (new_block _ _ _)
  clear h hf ht
  go_enter Tryz.func12, Tryz.ntmps12
  go_wp2_with fail
  refine CR.out.mono ?_
  rintro e w2 ⟨⟨b, rfl, hrb⟩, hb2⟩
  have B2 : Hid (Below w.heap.size w w2) := hide (bel2 (bel_alloc (Below.refl _ _) _) hb2)
  have T2 : Hid (w2.heap[w.heap.size]? = some (.cells t.cells.toArray 35 (0, 0))) := hide ((hb2.block _ (by simp)).trans (new_block _ _ _))
  have RB2 := hide hrb
  clear hrb hb2 CR y0 y1 y2 y3 y4 y5 y6 y7 y8 y9 y10 y11 y12 y13 y14
  cases b with
  | false =>
    go_wp2_with fail
    go_ret
    exact ⟨⟨1, ts, p, c, rfl, .inl ⟨fun h => (by have := RB2.out.2 h; cases this), rfl, rfl⟩, HR.out.below B2.out, Near.refl _ _⟩, keep_of B2.out⟩
  | true =>
    have HRT := hide (RB2.out.1 rfl)
    obtain ⟨X, hX⟩ : ∃ X : Nat, t.m.to = (X : Int) := ⟨t.m.to.toNat, by have := HRT.out.to; omega⟩
    have hX6 : X < 6 := by have := HRT.out.to; omega
    obtain ⟨K0, hK0⟩ : ∃ K : Int, K = ((cnt 0 (ts.map Im.m) : Nat) : Int) := ⟨_, rfl⟩
    obtain ⟨K1, hK1⟩ : ∃ K : Int, K = ((cnt 1 (ts.map Im.m) : Nat) : Int) := ⟨_, rfl⟩
    obtain ⟨K2, hK2⟩ : ∃ K : Int, K = ((cnt 2 (ts.map Im.m) : Nat) : Int) := ⟨_, rfl⟩
    obtain ⟨K3, hK3⟩ : ∃ K : Int, K = ((cnt 3 (ts.map Im.m) : Nat) : Int) := ⟨_, rfl⟩
    obtain ⟨K4, hK4⟩ : ∃ K : Int, K = ((cnt 4 (ts.map Im.m) : Nat) : Int) := ⟨_, rfl⟩
    obtain ⟨K5, hK5⟩ : ∃ K : Int, K = ((cnt 5 (ts.map Im.m) : Nat) : Int) := ⟨_, rfl⟩
    obtain ⟨K, hK⟩ : ∃ K, K = cnt (X : Int) (ts.map Im.m) := ⟨_, rfl⟩
    have hKA : cntA (ts.map Im.m) = #[.int .i64 K0, .int .i64 K1, .int .i64 K2, .int .i64 K3, .int .i64 K4, .int .i64 K5] := by rw [hK0, hK1, hK2, hK3, hK4, hK5]; rfl
    have CM : Hid (Calls Tryz.prog 21 #[.pointer (some ⟨rb, 0, none⟩)] w2 fun e w' => e = .returned (.agg #[.int .i64 K0, .int .i64 K1, .int .i64 K2, .int .i64 K3, .int .i64 K4, .int .i64 K5]) ∧ Below w2.heap.size w2 w') := hide (by
      rw [← hKA]
      exact rmany_any W0 rb ts p c w2 (HR.out.below B2.out) HF.out)
    have HKX : Hid (∀ wx : World, (wx.alloc (.cells #[.int .i64 K0, .int .i64 K1, .int .i64 K2, .int .i64 K3, .int .i64 K4, .int .i64 K5] 47)).cell? ⟨wx.heap.size, X, none⟩ = some (.int .i64 (K : Int))) := hide (fun wx => by
      rw [← hKA, hK]
      exact tag_cell (new_block _ _ _) X _ (cntA_at _ hX6))
    have HKV := hide hK
    have HX := hide hX
    clear hK0 hK1 hK2 hK3 hK4 hK5 hK hKA RB2
    go_wp2_with fail
    refine CM.out.mono ?_
    rintro e w3 ⟨rfl, hb3⟩
    have B3 := hide (bel2 B2.out hb3)
    have T3 : Hid (w3.heap[w.heap.size]? = some (.cells t.cells.toArray 35 (0, 0))) := hide ((hb3.block _ (Array.getElem?_eq_some_iff.1 T2.out).1).trans T2.out)
    have yk := HKX.out w3
    obtain ⟨w4, hw4⟩ : ∃ w4, w4 = w3.alloc (.cells #[.int .i64 K0, .int .i64 K1, .int .i64 K2, .int .i64 K3, .int .i64 K4, .int .i64 K5] 47) := ⟨_, rfl⟩
    have B4 : Hid (Below w.heap.size w w4) := hide (by rw [hw4]; exact bel_alloc B3.out _)
    have T4 : Hid (w4.heap[w.heap.size]? = some (.cells t.cells.toArray 35 (0, 0))) := hide (by
      rw [hw4, Below.heap_alloc _ _ _ (Array.getElem?_eq_some_iff.1 T3.out).1]
      exact T3.out)
    have y2 : (w3.alloc (.cells #[.int .i64 K0, .int .i64 K1, .int .i64 K2, .int .i64 K3, .int .i64 K4, .int .i64 K5] 47)).cell? ⟨w.heap.size, 2, none⟩ = some (.int .i64 (X : Int)) := by
      rw [← hw4, ← hX]
      exact tag_cell T4.out 2 _ rfl
    have HW4 := hide hw4
    clear hb3 CM B2 T2 HKX hw4 hX
    by_cases h16 : 16 ≤ K
    · have d16 : decide ((16 : Int) ≤ (K : Int)) = true := decide_eq_true (by omega)
      go_wp2_with fail
      rw [← HW4.out]
      go_ret
      exact ⟨⟨10, ts, p, c, rfl, .inr (.inl ⟨HRT.out, by rw [HX.out, ← HKV.out]; exact h16, rfl, rfl⟩), HR.out.below B4.out, Near.refl _ _⟩, keep_of B4.out⟩
    · have d16 : decide ((16 : Int) ≤ (K : Int)) = false := decide_eq_false (by omega)
      go_wp2_with fail
      rw [← HW4.out]
      clear yk y2 HW4 d16 B3 T3
      have LT : Hid (ts.length ≤ 96) := hide (by have := HF.out.len; rwa [List.length_map] at this)
      have SK : Hid (∀ wx : World, Below w4.heap.size w4 wx → wx.cell? ⟨rb, 0, none⟩ = some (.slice p ts.length c) ∧ wx.frozen? ⟨rb, 0, none⟩ = false ∧ wx.cell? ⟨w.heap.size, 0, none⟩ = some (.int .i64 t.m.kind) ∧ wx.cell? ⟨w.heap.size, 1, none⟩ = some (.int .i64 t.m.fr) ∧ wx.cell? ⟨w.heap.size, 2, none⟩ = some (.int .i64 t.m.to) ∧ wx.cell? ⟨w.heap.size, 3, none⟩ = some (.int .i64 t.m.ep) ∧ wx.cell? ⟨w.heap.size, 4, none⟩ = some (t.vi) ∧ wx.cell? ⟨w.heap.size, 5, none⟩ = some (t.vp) ∧ wx.cell? ⟨w.heap.size, 6, none⟩ = some (.int .i64 t.m.pol.ep) ∧ wx.cell? ⟨w.heap.size, 7, none⟩ = some (t.v1) ∧ wx.cell? ⟨w.heap.size, 8, none⟩ = some (t.v2) ∧ wx.cell? ⟨w.heap.size, 9, none⟩ = some (t.v3) ∧ wx.cell? ⟨w.heap.size, 10, none⟩ = some (t.v4) ∧ wx.cell? ⟨w.heap.size, 11, none⟩ = some (t.v5) ∧ wx.cell? ⟨w.heap.size, 12, none⟩ = some (.int .i64 t.m.pol.dp) ∧ wx.cell? ⟨w.heap.size, 13, none⟩ = some (.int .i64 t.m.pol.nd) ∧ wx.cell? ⟨w.heap.size, 14, none⟩ = some (.int .i64 t.m.pol.bt)) := hide (fun wx hb => by
        have hm := (hb.block _ (Array.getElem?_eq_some_iff.1 T4.out).1).trans T4.out
        have hr := (HR.out.below (bel2 B4.out hb)).b
        obtain ⟨s0, s1, s2, s3, s4, s5, s6, s7, s8, s9, s10, s11, s12, s13, s14⟩ := HM.out wx hm
        exact ⟨tag_cell hr 0 _ rfl, cell_free hr 0, s0, s1, s2, s3, s4, s5, s6, s7, s8, s9, s10, s11, s12, s13, s14⟩)
      have HROW : Hid (∀ wx : World, Below w4.heap.size w4 wx → MRow wx (.slice p ts.length c) ts) := hide (fun wx hb => (HR.out.below (bel2 B4.out hb)).row)
      refine wp_region_until (m := 12) (S := (fun wx => wx.cell? ⟨rb, 0, none⟩ = some (.slice p ts.length c) ∧ wx.frozen? ⟨rb, 0, none⟩ = false ∧ wx.cell? ⟨w.heap.size, 0, none⟩ = some (.int .i64 t.m.kind) ∧ wx.cell? ⟨w.heap.size, 1, none⟩ = some (.int .i64 t.m.fr) ∧ wx.cell? ⟨w.heap.size, 2, none⟩ = some (.int .i64 t.m.to) ∧ wx.cell? ⟨w.heap.size, 3, none⟩ = some (.int .i64 t.m.ep) ∧ wx.cell? ⟨w.heap.size, 4, none⟩ = some (t.vi) ∧ wx.cell? ⟨w.heap.size, 5, none⟩ = some (t.vp) ∧ wx.cell? ⟨w.heap.size, 6, none⟩ = some (.int .i64 t.m.pol.ep) ∧ wx.cell? ⟨w.heap.size, 7, none⟩ = some (t.v1) ∧ wx.cell? ⟨w.heap.size, 8, none⟩ = some (t.v2) ∧ wx.cell? ⟨w.heap.size, 9, none⟩ = some (t.v3) ∧ wx.cell? ⟨w.heap.size, 10, none⟩ = some (t.v4) ∧ wx.cell? ⟨w.heap.size, 11, none⟩ = some (t.v5) ∧ wx.cell? ⟨w.heap.size, 12, none⟩ = some (.int .i64 t.m.pol.dp) ∧ wx.cell? ⟨w.heap.size, 13, none⟩ = some (.int .i64 t.m.pol.nd) ∧ wx.cell? ⟨w.heap.size, 14, none⟩ = some (.int .i64 t.m.pol.bt))) (by kernel_rfl) (SK.out _ ((Below.refl _ _).drew)) (fun hHeld => ?_)
      obtain ⟨wd, hwd⟩ : ∃ z, z = w4.drew := ⟨_, rfl⟩
      have BE : Hid (Below w4.heap.size w4 wd) := hide (by rw [hwd]; exact (Below.refl _ _).drew)
      rw [← hwd] at hHeld ⊢
      clear hwd
      refine wpU_at (i := 0) (v := ?vqa0) (a1 := ?xqa0) rfl (by kernel_rfl) (by kernel_rfl) (by kernel_rfl) (by kernel_rfl) (fun _ _ _ h => h) (Or.inl ⟨by rfl, ?yqa0⟩) (by assumption) ?hqa0 ?zqa0
      case yqa0 => (intro w hSw; (try dsimp only at hSw); go_simp; try (with_reducible rfl))
      case hqa0 => (go_simp; exact rfl)
      case zqa0 =>
      refine wpU_at (i := 2) (v := ?vqa2) (a1 := ?xqa2) rfl (by kernel_rfl) (by kernel_rfl) (by kernel_rfl) (by kernel_rfl) (fun _ _ _ h => h) (Or.inl ⟨by rfl, ?yqa2⟩) (by assumption) ?hqa2 ?zqa2
      case yqa2 => (intro w hSw; (try dsimp only at hSw); go_simp; try (with_reducible rfl))
      case hqa2 => (go_simp; exact rfl)
      case zqa2 =>
      refine wpU_at (i := 3) (v := ?vqa3) (a1 := ?xqa3) rfl (by kernel_rfl) (by kernel_rfl) (by kernel_rfl) (by kernel_rfl) (fun _ _ _ h => h) (Or.inl ⟨by rfl, ?yqa3⟩) (by assumption) ?hqa3 ?zqa3
      case yqa3 => (intro w hSw; (try dsimp only at hSw); go_simp; try (with_reducible rfl))
      case hqa3 => (go_simp; exact rfl)
      case zqa3 =>
      refine wpU_at (i := 4) (v := ?vqa4) (a1 := ?xqa4) rfl (by kernel_rfl) (by kernel_rfl) (by kernel_rfl) (by kernel_rfl) (fun _ _ _ h => h) (Or.inl ⟨by rfl, ?yqa4⟩) (by assumption) ?hqa4 ?zqa4
      case yqa4 => (intro w hSw; (try dsimp only at hSw); go_simp; try (with_reducible rfl))
      case hqa4 => (go_simp; exact rfl)
      case zqa4 =>
      refine wpU_at (i := 5) (v := ?vqa5) (a1 := ?xqa5) rfl (by kernel_rfl) (by kernel_rfl) (by kernel_rfl) (by kernel_rfl) (fun _ _ _ h => h) (Or.inl ⟨by rfl, ?yqa5⟩) (by assumption) ?hqa5 ?zqa5
      case yqa5 => (intro w hSw; (try dsimp only at hSw); go_simp; try (with_reducible rfl))
      case hqa5 => (go_simp; exact rfl)
      case zqa5 =>
      refine wpU_at (i := 7) (v := ?vqa7) (a1 := ?xqa7) rfl (by kernel_rfl) (by kernel_rfl) (by kernel_rfl) (by kernel_rfl) (fun _ _ _ h => h) (Or.inl ⟨by rfl, ?yqa7⟩) (by assumption) ?hqa7 ?zqa7
      case yqa7 => (intro w hSw; (try dsimp only at hSw); go_simp; try (with_reducible rfl))
      case hqa7 => (go_simp; exact rfl)
      case zqa7 =>
      refine wpU_ready (rs := [1, 8]) (by kernel_rfl) (by simp) ?_
      refine AllU.cons (by decide) rfl (fun K hK => ?_) (AllU.cons (by decide) rfl (fun K hK => ?_) AllU.nil)
      · go_simp
        try go_wp2_with fail
        obtain ⟨wa1, hwa1⟩ : ∃ z, z = wd.alloc (.cells #[] 35) := ⟨_, rfl⟩
        have Bz1 : Hid (Below w4.heap.size w4 wa1) := hide (by rw [hwa1]; exact bel_alloc BE.out _)
        have Oz1 : Hid (wa1.ownsRow w4.heap.size 35 15 (.slice (some ⟨wd.heap.size, 0, none⟩) 0 0) 0 (mflat [])) := hide (by rw [hwa1]; exact mown_empty _ _ BE.out.size)
        try rw [← hwa1]
        clear hwa1
        refine hK.out _ _ (SK.out _ Bz1.out) (fun hHeld2 => ?_)
        clear hK K hHeld
        have hHeld := hHeld2
        clear hHeld2
        refine wpU_ready (rs := [6, 8]) (by kernel_rfl) (by simp) ?_
        refine AllU.cons (by decide) rfl (fun K hK => ?_) (AllU.cons (by decide) rfl (fun K hK => ?_) AllU.nil)
        · refine mstep_wanted rfl (mwp_rows _ _ rfl w4.heap.size _ 0 [] rfl Oz1.out _ ts rfl (HROW.out _ Bz1.out) (by have := LT.out;  omega) Bz1.out.size ?_)
          intro v2 wz2 ho2 hg2 hf2
          obtain ⟨nn2, hnn2⟩ : ∃ z, z = 0 + (ts : List Im).length := ⟨_, rfl⟩
          rw [← hnn2] at ho2
          obtain ⟨pz2, cz2, rfl, -⟩ := own_shape ho2
          have Bz2 : Hid (Below w4.heap.size w4 wz2) := hide (Bz1.out.grown hg2 Bz1.out.size (fun j hj => (Oz1.out.lt j hj).1))
          have Oz2 : Hid (wz2.ownsRow w4.heap.size 35 15 (.slice pz2 nn2 cz2) nn2 (mflat ts)) := hide ho2
          have Ez2 := hide hnn2
          clear ho2 hg2 hf2 hnn2
          try go_simp
          refine hK.out _ _ (SK.out _ Bz2.out) (fun hHeld2 => ?_)
          clear hK K hHeld
          have hHeld := hHeld2
          clear hHeld2
          refine wpU_ready (rs := [8]) (by kernel_rfl) (by simp) ?_
          refine AllU.cons (by decide) rfl (fun K hK => ?_) AllU.nil
          go_simp
          try go_wp2_with fail
          obtain ⟨wa3, hwa3⟩ : ∃ z, z = wz2.alloc (.cells t.cells.toArray 35) := ⟨_, rfl⟩
          have Bz3 : Hid (Below w4.heap.size w4 wa3) := hide (by rw [hwa3]; exact bel_alloc Bz2.out _)
          have Xz3 : Hid (wa3.heap[wz2.heap.size]? = some (.cells t.cells.toArray 35 (0, 0))) := hide (by rw [hwa3]; exact new_block _ _ _)
          have Oz3 : Hid (wa3.ownsRow w4.heap.size 35 15 (.slice pz2 nn2 cz2) nn2 (mflat ts)) := hide (by rw [hwa3]; exact Oz2.out.alloc _)
          have Pz3 : Hid ((Value.ownBlock (.slice pz2 nn2 cz2)) ≠ some wz2.heap.size) := hide (fun e => by have h := (Oz2.out.lt _ e).2; omega)
          try rw [← hwa3]
          clear hwa3
          refine hK.out _ _ (SK.out _ Bz3.out) (fun hHeld2 => ?_)
          clear hK K hHeld
          have hHeld := hHeld2
          clear hHeld2
          refine wpU_ready (rs := [9]) (by kernel_rfl) (by simp) ?_
          refine AllU.cons (by decide) rfl (fun K hK => ?_) AllU.nil
          refine mstep_wanted rfl (mwp_rows _ _ rfl w4.heap.size _ nn2 ts rfl Oz3.out _ [t] rfl (mone_row Xz3.out (HW.out _ (bel2 B4.out Bz3.out))) (by have := LT.out; have h30 := Ez2.out; simp only [List.length_cons, List.length_nil] at *; omega) Bz3.out.size ?_)
          intro v4 wz4 ho4 hg4 hf4
          obtain ⟨nn4, hnn4⟩ : ∃ z, z = nn2 + ([t] : List Im).length := ⟨_, rfl⟩
          rw [← hnn4] at ho4
          obtain ⟨pz4, cz4, rfl, -⟩ := own_shape ho4
          have Bz4 : Hid (Below w4.heap.size w4 wz4) := hide (Bz3.out.grown hg4 Bz3.out.size (fun j hj => (Oz3.out.lt j hj).1))
          have Oz4 : Hid (wz4.ownsRow w4.heap.size 35 15 (.slice pz4 nn4 cz4) nn4 (mflat (ts ++ [t]))) := hide ho4
          have Ez4 := hide hnn4
          have Xz4 : Hid (wz4.heap[wz2.heap.size]? = some (.cells t.cells.toArray 35 (0, 0))) := hide ((hg4.block _ (Array.getElem?_eq_some_iff.1 Xz3.out).1 (fun e => Pz3.out e.symm)).trans Xz3.out)
          have Pz4 : Hid ((Value.ownBlock (.slice pz4 nn4 cz4)) ≠ some wz2.heap.size) := hide (fun e => by
            rcases hf4 with h | h
            · exact Pz3.out (h.symm.trans e)
            · rw [h] at e
              injection e with e
              have := (Array.getElem?_eq_some_iff.1 Xz3.out).1
              omega)
          clear ho4 hg4 hf4 hnn4
          try go_simp
          refine hK.out _ _ (SK.out _ Bz4.out) (fun hHeld2 => ?_)
          clear hK K hHeld
          have hHeld := hHeld2
          clear hHeld2
          refine wpU_ready (rs := [10]) (by kernel_rfl) (by simp) ?_
          refine AllU.cons (by decide) rfl (fun K hK => ?_) AllU.nil
          go_simp
          try go_wp2_with fail
          refine hK.out _ _ (SK.out _ Bz4.out) (fun hHeld2 => ?_)
          clear hK K hHeld
          have hHeld := hHeld2
          clear hHeld2
          refine wpU_ready (rs := [11]) (by kernel_rfl) (by simp) ?_
          refine AllU.cons (by decide) rfl (fun K hK => ?_) AllU.nil
          go_simp
          try go_wp2_with fail
          refine hK.out _ _ (SK.out _ Bz4.out) (fun hHeld2 => ?_)
          clear hK K hHeld
          have hHeld := hHeld2
          clear hHeld2
          refine wpU_ready (rs := [12]) (by kernel_rfl) (by simp) ?_
          refine AllU.last rfl (fun K hK => ?_)
          go_simp
          try go_wp2_with fail
          refine hK.out _ _ ?_
          clear hK K
          refine wpAny_done (by kernel_rfl) ?_ _
          go_wp2_with fail
          go_ret
          have HL : (ts ++ [t]).length = nn4 := by
            have q0 := Ez2.out
            have q1 := Ez4.out
            rw [List.length_append]
            simp only [List.length_cons, List.length_nil] at *
            omega
          have HE := rb_store HR.out (bel2 B4.out Bz4.out) HL (mown_base Oz4.out B4.out.size) (fun x hx => by
            rcases List.mem_append.1 hx with h | h
            · exact HR.out.k x h
            · rw [List.mem_singleton.1 h]; exact HT.out)
          exact ⟨⟨0, ts ++ [t], _, _, rfl, .inr (.inr ⟨HRT.out, by rw [HX.out, ← HKV.out]; omega, rfl, by rw [List.map_append]; rfl⟩), HE.1, HE.2.1⟩, HE.2.2⟩
        · go_simp
          try go_wp2_with fail
          obtain ⟨wa7, hwa7⟩ : ∃ z, z = wa1.alloc (.cells t.cells.toArray 35) := ⟨_, rfl⟩
          have Bz7 : Hid (Below w4.heap.size w4 wa7) := hide (by rw [hwa7]; exact bel_alloc Bz1.out _)
          have Xz7 : Hid (wa7.heap[wa1.heap.size]? = some (.cells t.cells.toArray 35 (0, 0))) := hide (by rw [hwa7]; exact new_block _ _ _)
          have Oz7 : Hid (wa7.ownsRow w4.heap.size 35 15 (.slice (some ⟨wd.heap.size, 0, none⟩) 0 0) 0 (mflat [])) := hide (by rw [hwa7]; exact Oz1.out.alloc _)
          have Pz7 : Hid ((Value.ownBlock (.slice (some ⟨wd.heap.size, 0, none⟩) 0 0)) ≠ some wa1.heap.size) := hide (fun e => by have h := (Oz1.out.lt _ e).2; omega)
          try rw [← hwa7]
          clear hwa7
          refine hK.out _ _ (SK.out _ Bz7.out) (fun hHeld2 => ?_)
          clear hK K hHeld
          have hHeld := hHeld2
          clear hHeld2
          refine wpU_ready (rs := [6]) (by kernel_rfl) (by simp) ?_
          refine AllU.cons (by decide) rfl (fun K hK => ?_) AllU.nil
          refine mstep_wanted rfl (mwp_rows _ _ rfl w4.heap.size _ 0 [] rfl Oz7.out _ ts rfl (HROW.out _ Bz7.out) (by have := LT.out;  omega) Bz7.out.size ?_)
          intro v8 wz8 ho8 hg8 hf8
          obtain ⟨nn8, hnn8⟩ : ∃ z, z = 0 + (ts : List Im).length := ⟨_, rfl⟩
          rw [← hnn8] at ho8
          obtain ⟨pz8, cz8, rfl, -⟩ := own_shape ho8
          have Bz8 : Hid (Below w4.heap.size w4 wz8) := hide (Bz7.out.grown hg8 Bz7.out.size (fun j hj => (Oz7.out.lt j hj).1))
          have Oz8 : Hid (wz8.ownsRow w4.heap.size 35 15 (.slice pz8 nn8 cz8) nn8 (mflat ts)) := hide ho8
          have Ez8 := hide hnn8
          have Xz8 : Hid (wz8.heap[wa1.heap.size]? = some (.cells t.cells.toArray 35 (0, 0))) := hide ((hg8.block _ (Array.getElem?_eq_some_iff.1 Xz7.out).1 (fun e => Pz7.out e.symm)).trans Xz7.out)
          have Pz8 : Hid ((Value.ownBlock (.slice pz8 nn8 cz8)) ≠ some wa1.heap.size) := hide (fun e => by
            rcases hf8 with h | h
            · exact Pz7.out (h.symm.trans e)
            · rw [h] at e
              injection e with e
              have := (Array.getElem?_eq_some_iff.1 Xz7.out).1
              omega)
          clear ho8 hg8 hf8 hnn8
          try go_simp
          refine hK.out _ _ (SK.out _ Bz8.out) (fun hHeld2 => ?_)
          clear hK K hHeld
          have hHeld := hHeld2
          clear hHeld2
          refine wpU_ready (rs := [9]) (by kernel_rfl) (by simp) ?_
          refine AllU.cons (by decide) rfl (fun K hK => ?_) AllU.nil
          refine mstep_wanted rfl (mwp_rows _ _ rfl w4.heap.size _ nn8 ts rfl Oz8.out _ [t] rfl (mone_row Xz8.out (HW.out _ (bel2 B4.out Bz8.out))) (by have := LT.out; have h30 := Ez8.out; simp only [List.length_cons, List.length_nil] at *; omega) Bz8.out.size ?_)
          intro v9 wz9 ho9 hg9 hf9
          obtain ⟨nn9, hnn9⟩ : ∃ z, z = nn8 + ([t] : List Im).length := ⟨_, rfl⟩
          rw [← hnn9] at ho9
          obtain ⟨pz9, cz9, rfl, -⟩ := own_shape ho9
          have Bz9 : Hid (Below w4.heap.size w4 wz9) := hide (Bz8.out.grown hg9 Bz8.out.size (fun j hj => (Oz8.out.lt j hj).1))
          have Oz9 : Hid (wz9.ownsRow w4.heap.size 35 15 (.slice pz9 nn9 cz9) nn9 (mflat (ts ++ [t]))) := hide ho9
          have Ez9 := hide hnn9
          have Xz9 : Hid (wz9.heap[wa1.heap.size]? = some (.cells t.cells.toArray 35 (0, 0))) := hide ((hg9.block _ (Array.getElem?_eq_some_iff.1 Xz8.out).1 (fun e => Pz8.out e.symm)).trans Xz8.out)
          have Pz9 : Hid ((Value.ownBlock (.slice pz9 nn9 cz9)) ≠ some wa1.heap.size) := hide (fun e => by
            rcases hf9 with h | h
            · exact Pz8.out (h.symm.trans e)
            · rw [h] at e
              injection e with e
              have := (Array.getElem?_eq_some_iff.1 Xz8.out).1
              omega)
          clear ho9 hg9 hf9 hnn9
          try go_simp
          refine hK.out _ _ (SK.out _ Bz9.out) (fun hHeld2 => ?_)
          clear hK K hHeld
          have hHeld := hHeld2
          clear hHeld2
          refine wpU_ready (rs := [10]) (by kernel_rfl) (by simp) ?_
          refine AllU.cons (by decide) rfl (fun K hK => ?_) AllU.nil
          go_simp
          try go_wp2_with fail
          refine hK.out _ _ (SK.out _ Bz9.out) (fun hHeld2 => ?_)
          clear hK K hHeld
          have hHeld := hHeld2
          clear hHeld2
          refine wpU_ready (rs := [11]) (by kernel_rfl) (by simp) ?_
          refine AllU.cons (by decide) rfl (fun K hK => ?_) AllU.nil
          go_simp
          try go_wp2_with fail
          refine hK.out _ _ (SK.out _ Bz9.out) (fun hHeld2 => ?_)
          clear hK K hHeld
          have hHeld := hHeld2
          clear hHeld2
          refine wpU_ready (rs := [12]) (by kernel_rfl) (by simp) ?_
          refine AllU.last rfl (fun K hK => ?_)
          go_simp
          try go_wp2_with fail
          refine hK.out _ _ ?_
          clear hK K
          refine wpAny_done (by kernel_rfl) ?_ _
          go_wp2_with fail
          go_ret
          have HL : (ts ++ [t]).length = nn9 := by
            have q0 := Ez8.out
            have q1 := Ez9.out
            rw [List.length_append]
            simp only [List.length_cons, List.length_nil] at *
            omega
          have HE := rb_store HR.out (bel2 B4.out Bz9.out) HL (mown_base Oz9.out B4.out.size) (fun x hx => by
            rcases List.mem_append.1 hx with h | h
            · exact HR.out.k x h
            · rw [List.mem_singleton.1 h]; exact HT.out)
          exact ⟨⟨0, ts ++ [t], _, _, rfl, .inr (.inr ⟨HRT.out, by rw [HX.out, ← HKV.out]; omega, rfl, by rw [List.map_append]; rfl⟩), HE.1, HE.2.1⟩, HE.2.2⟩
      · go_simp
        try go_wp2_with fail
        obtain ⟨wa12, hwa12⟩ : ∃ z, z = wd.alloc (.cells t.cells.toArray 35) := ⟨_, rfl⟩
        have Bz12 : Hid (Below w4.heap.size w4 wa12) := hide (by rw [hwa12]; exact bel_alloc BE.out _)
        have Xz12 : Hid (wa12.heap[wd.heap.size]? = some (.cells t.cells.toArray 35 (0, 0))) := hide (by rw [hwa12]; exact new_block _ _ _)
        try rw [← hwa12]
        clear hwa12
        refine hK.out _ _ (SK.out _ Bz12.out) (fun hHeld2 => ?_)
        clear hK K hHeld
        have hHeld := hHeld2
        clear hHeld2
        refine wpU_ready (rs := [1]) (by kernel_rfl) (by simp) ?_
        refine AllU.cons (by decide) rfl (fun K hK => ?_) AllU.nil
        go_simp
        try go_wp2_with fail
        obtain ⟨wa13, hwa13⟩ : ∃ z, z = wa12.alloc (.cells #[] 35) := ⟨_, rfl⟩
        have Bz13 : Hid (Below w4.heap.size w4 wa13) := hide (by rw [hwa13]; exact bel_alloc Bz12.out _)
        have Oz13 : Hid (wa13.ownsRow w4.heap.size 35 15 (.slice (some ⟨wa12.heap.size, 0, none⟩) 0 0) 0 (mflat [])) := hide (by rw [hwa13]; exact mown_empty _ _ Bz12.out.size)
        have Xz13 : Hid (wa13.heap[wd.heap.size]? = some (.cells t.cells.toArray 35 (0, 0))) := hide (by rw [hwa13]; exact (Below.heap_alloc _ _ _ (Array.getElem?_eq_some_iff.1 Xz12.out).1).trans Xz12.out)
        have Pz13 : Hid ((Value.slice (some ⟨wa12.heap.size, 0, none⟩) 0 0).ownBlock ≠ some wd.heap.size) := hide (fun e => by
          have h := (Array.getElem?_eq_some_iff.1 Xz12.out).1
          have e2 : wa12.heap.size = wd.heap.size := by simpa [Value.ownBlock] using e
          omega)
        try rw [← hwa13]
        clear hwa13
        refine hK.out _ _ (SK.out _ Bz13.out) (fun hHeld2 => ?_)
        clear hK K hHeld
        have hHeld := hHeld2
        clear hHeld2
        refine wpU_ready (rs := [6]) (by kernel_rfl) (by simp) ?_
        refine AllU.cons (by decide) rfl (fun K hK => ?_) AllU.nil
        refine mstep_wanted rfl (mwp_rows _ _ rfl w4.heap.size _ 0 [] rfl Oz13.out _ ts rfl (HROW.out _ Bz13.out) (by have := LT.out;  omega) Bz13.out.size ?_)
        intro v14 wz14 ho14 hg14 hf14
        obtain ⟨nn14, hnn14⟩ : ∃ z, z = 0 + (ts : List Im).length := ⟨_, rfl⟩
        rw [← hnn14] at ho14
        obtain ⟨pz14, cz14, rfl, -⟩ := own_shape ho14
        have Bz14 : Hid (Below w4.heap.size w4 wz14) := hide (Bz13.out.grown hg14 Bz13.out.size (fun j hj => (Oz13.out.lt j hj).1))
        have Oz14 : Hid (wz14.ownsRow w4.heap.size 35 15 (.slice pz14 nn14 cz14) nn14 (mflat ts)) := hide ho14
        have Ez14 := hide hnn14
        have Xz14 : Hid (wz14.heap[wd.heap.size]? = some (.cells t.cells.toArray 35 (0, 0))) := hide ((hg14.block _ (Array.getElem?_eq_some_iff.1 Xz13.out).1 (fun e => Pz13.out e.symm)).trans Xz13.out)
        have Pz14 : Hid ((Value.ownBlock (.slice pz14 nn14 cz14)) ≠ some wd.heap.size) := hide (fun e => by
          rcases hf14 with h | h
          · exact Pz13.out (h.symm.trans e)
          · rw [h] at e
            injection e with e
            have := (Array.getElem?_eq_some_iff.1 Xz13.out).1
            omega)
        clear ho14 hg14 hf14 hnn14
        try go_simp
        refine hK.out _ _ (SK.out _ Bz14.out) (fun hHeld2 => ?_)
        clear hK K hHeld
        have hHeld := hHeld2
        clear hHeld2
        refine wpU_ready (rs := [9]) (by kernel_rfl) (by simp) ?_
        refine AllU.cons (by decide) rfl (fun K hK => ?_) AllU.nil
        refine mstep_wanted rfl (mwp_rows _ _ rfl w4.heap.size _ nn14 ts rfl Oz14.out _ [t] rfl (mone_row Xz14.out (HW.out _ (bel2 B4.out Bz14.out))) (by have := LT.out; have h30 := Ez14.out; simp only [List.length_cons, List.length_nil] at *; omega) Bz14.out.size ?_)
        intro v15 wz15 ho15 hg15 hf15
        obtain ⟨nn15, hnn15⟩ : ∃ z, z = nn14 + ([t] : List Im).length := ⟨_, rfl⟩
        rw [← hnn15] at ho15
        obtain ⟨pz15, cz15, rfl, -⟩ := own_shape ho15
        have Bz15 : Hid (Below w4.heap.size w4 wz15) := hide (Bz14.out.grown hg15 Bz14.out.size (fun j hj => (Oz14.out.lt j hj).1))
        have Oz15 : Hid (wz15.ownsRow w4.heap.size 35 15 (.slice pz15 nn15 cz15) nn15 (mflat (ts ++ [t]))) := hide ho15
        have Ez15 := hide hnn15
        have Xz15 : Hid (wz15.heap[wd.heap.size]? = some (.cells t.cells.toArray 35 (0, 0))) := hide ((hg15.block _ (Array.getElem?_eq_some_iff.1 Xz14.out).1 (fun e => Pz14.out e.symm)).trans Xz14.out)
        have Pz15 : Hid ((Value.ownBlock (.slice pz15 nn15 cz15)) ≠ some wd.heap.size) := hide (fun e => by
          rcases hf15 with h | h
          · exact Pz14.out (h.symm.trans e)
          · rw [h] at e
            injection e with e
            have := (Array.getElem?_eq_some_iff.1 Xz14.out).1
            omega)
        clear ho15 hg15 hf15 hnn15
        try go_simp
        refine hK.out _ _ (SK.out _ Bz15.out) (fun hHeld2 => ?_)
        clear hK K hHeld
        have hHeld := hHeld2
        clear hHeld2
        refine wpU_ready (rs := [10]) (by kernel_rfl) (by simp) ?_
        refine AllU.cons (by decide) rfl (fun K hK => ?_) AllU.nil
        go_simp
        try go_wp2_with fail
        refine hK.out _ _ (SK.out _ Bz15.out) (fun hHeld2 => ?_)
        clear hK K hHeld
        have hHeld := hHeld2
        clear hHeld2
        refine wpU_ready (rs := [11]) (by kernel_rfl) (by simp) ?_
        refine AllU.cons (by decide) rfl (fun K hK => ?_) AllU.nil
        go_simp
        try go_wp2_with fail
        refine hK.out _ _ (SK.out _ Bz15.out) (fun hHeld2 => ?_)
        clear hK K hHeld
        have hHeld := hHeld2
        clear hHeld2
        refine wpU_ready (rs := [12]) (by kernel_rfl) (by simp) ?_
        refine AllU.last rfl (fun K hK => ?_)
        go_simp
        try go_wp2_with fail
        refine hK.out _ _ ?_
        clear hK K
        refine wpAny_done (by kernel_rfl) ?_ _
        go_wp2_with fail
        go_ret
        have HL : (ts ++ [t]).length = nn15 := by
          have q0 := Ez14.out
          have q1 := Ez15.out
          rw [List.length_append]
          simp only [List.length_cons, List.length_nil] at *
          omega
        have HE := rb_store HR.out (bel2 B4.out Bz15.out) HL (mown_base Oz15.out B4.out.size) (fun x hx => by
          rcases List.mem_append.1 hx with h | h
          · exact HR.out.k x h
          · rw [List.mem_singleton.1 h]; exact HT.out)
        exact ⟨⟨0, ts ++ [t], _, _, rfl, .inr (.inr ⟨HRT.out, by rw [HX.out, ← HKV.out]; omega, rfl, by rw [List.map_append]; rfl⟩), HE.1, HE.2.1⟩, HE.2.2⟩
end Go.Proofs.YtmogplecohkjcaaGreatDoor

namespace Go.Proofs.YtmogplecohkjcaaGreatDoor
open Go.RowKit
open Utf1
open Pol8 hiding text right Right
open Msg15 Mail17

theorem results_row_tmpD {P : Program} {fn : Func} {p u : Tmp} {ty : TypeId} (h : fn.results = #[.cell p ty, .tmp u]) (tmps : Array Value) (w : World) (g : Nat) (t : TypeId) (cs : Array Value) (fr : Nat × Nat) (d : TypeDesc)
    (hp : tmps.getD p undef = .pointer (some ⟨g, 0, none⟩)) (hg : w.heap[g]? = some (.cells cs t fr))
    (hu : P.underlying ty = some d) (hd : (match d with | .struct _ | .array _ _ => true | _ => false) = true) (hi : (P.info? ty).map (·.size) = some cs.size) :
    (results fn tmps).run P w = .ok (.tuple #[.agg cs, tmps.getD u undef]) w := by
  rw [results_cell_tmp h, hp]
  simp [asAddr, Result.andThen, run_loadVar_row w g t ty cs fr d hg hu hd hi]
theorem kset {w w1 : World} {F : List Nat} (h : Keep w w1 F) {p : Addr} (hp : p.block ∈ F) (u : Value) : Keep w (w1.setCell p u) F :=
  ⟨h.os, h.tape, h.output, by simpa [World.setCell] using h.size, fun k hk hF => (Below.heap_setCell _ _ _ _ (fun e => hF (by rw [e]; exact hp))).trans (h.block k hk hF)⟩
theorem set15 {V : World} {q : Nat} (a0 a1 a2 a3 a4 a5 a6 a7 a8 a9 a10 a11 a12 a13 a14 : Value) (h : V.heap[q]? = some (.cells #[.int .i64 0, .int .i64 0, .int .i64 0, .int .i64 0, .slice none 0 0, .slice none 0 0, .int .i64 0, .slice none 0 0, .slice none 0 0, .slice none 0 0, .slice none 0 0, .slice none 0 0, .int .i64 0, .int .i64 0, .int .i64 0] 35 (0, 0))) :
    (((((((((((((((V.setCell ⟨q, 0, none⟩ a0).setCell ⟨q, 1, none⟩ a1).setCell ⟨q, 2, none⟩ a2).setCell ⟨q, 3, none⟩ a3).setCell ⟨q, 4, none⟩ a4).setCell ⟨q, 5, none⟩ a5).setCell ⟨q, 6, none⟩ a6).setCell ⟨q, 7, none⟩ a7).setCell ⟨q, 8, none⟩ a8).setCell ⟨q, 9, none⟩ a9).setCell ⟨q, 10, none⟩ a10).setCell ⟨q, 11, none⟩ a11).setCell ⟨q, 12, none⟩ a12).setCell ⟨q, 13, none⟩ a13).setCell ⟨q, 14, none⟩ a14).heap[q]? = some (.cells #[a0, a1, a2, a3, a4, a5, a6, a7, a8, a9, a10, a11, a12, a13, a14] 35 (0, 0)) ∧ Keep V (((((((((((((((V.setCell ⟨q, 0, none⟩ a0).setCell ⟨q, 1, none⟩ a1).setCell ⟨q, 2, none⟩ a2).setCell ⟨q, 3, none⟩ a3).setCell ⟨q, 4, none⟩ a4).setCell ⟨q, 5, none⟩ a5).setCell ⟨q, 6, none⟩ a6).setCell ⟨q, 7, none⟩ a7).setCell ⟨q, 8, none⟩ a8).setCell ⟨q, 9, none⟩ a9).setCell ⟨q, 10, none⟩ a10).setCell ⟨q, 11, none⟩ a11).setCell ⟨q, 12, none⟩ a12).setCell ⟨q, 13, none⟩ a13).setCell ⟨q, 14, none⟩ a14) [q] := by
  have h0 : (V.setCell ⟨q, 0, none⟩ a0).heap[q]? = some (.cells #[a0, .int .i64 0, .int .i64 0, .int .i64 0, .slice none 0 0, .slice none 0 0, .int .i64 0, .slice none 0 0, .slice none 0 0, .slice none 0 0, .slice none 0 0, .slice none 0 0, .int .i64 0, .int .i64 0, .int .i64 0] 35 (0, 0)) := cell_set h 0 _
  have h1 : ((V.setCell ⟨q, 0, none⟩ a0).setCell ⟨q, 1, none⟩ a1).heap[q]? = some (.cells #[a0, a1, .int .i64 0, .int .i64 0, .slice none 0 0, .slice none 0 0, .int .i64 0, .slice none 0 0, .slice none 0 0, .slice none 0 0, .slice none 0 0, .slice none 0 0, .int .i64 0, .int .i64 0, .int .i64 0] 35 (0, 0)) := cell_set h0 1 _
  have h2 : (((V.setCell ⟨q, 0, none⟩ a0).setCell ⟨q, 1, none⟩ a1).setCell ⟨q, 2, none⟩ a2).heap[q]? = some (.cells #[a0, a1, a2, .int .i64 0, .slice none 0 0, .slice none 0 0, .int .i64 0, .slice none 0 0, .slice none 0 0, .slice none 0 0, .slice none 0 0, .slice none 0 0, .int .i64 0, .int .i64 0, .int .i64 0] 35 (0, 0)) := cell_set h1 2 _
  have h3 : ((((V.setCell ⟨q, 0, none⟩ a0).setCell ⟨q, 1, none⟩ a1).setCell ⟨q, 2, none⟩ a2).setCell ⟨q, 3, none⟩ a3).heap[q]? = some (.cells #[a0, a1, a2, a3, .slice none 0 0, .slice none 0 0, .int .i64 0, .slice none 0 0, .slice none 0 0, .slice none 0 0, .slice none 0 0, .slice none 0 0, .int .i64 0, .int .i64 0, .int .i64 0] 35 (0, 0)) := cell_set h2 3 _
  have h4 : (((((V.setCell ⟨q, 0, none⟩ a0).setCell ⟨q, 1, none⟩ a1).setCell ⟨q, 2, none⟩ a2).setCell ⟨q, 3, none⟩ a3).setCell ⟨q, 4, none⟩ a4).heap[q]? = some (.cells #[a0, a1, a2, a3, a4, .slice none 0 0, .int .i64 0, .slice none 0 0, .slice none 0 0, .slice none 0 0, .slice none 0 0, .slice none 0 0, .int .i64 0, .int .i64 0, .int .i64 0] 35 (0, 0)) := cell_set h3 4 _
  have h5 : ((((((V.setCell ⟨q, 0, none⟩ a0).setCell ⟨q, 1, none⟩ a1).setCell ⟨q, 2, none⟩ a2).setCell ⟨q, 3, none⟩ a3).setCell ⟨q, 4, none⟩ a4).setCell ⟨q, 5, none⟩ a5).heap[q]? = some (.cells #[a0, a1, a2, a3, a4, a5, .int .i64 0, .slice none 0 0, .slice none 0 0, .slice none 0 0, .slice none 0 0, .slice none 0 0, .int .i64 0, .int .i64 0, .int .i64 0] 35 (0, 0)) := cell_set h4 5 _
  have h6 : (((((((V.setCell ⟨q, 0, none⟩ a0).setCell ⟨q, 1, none⟩ a1).setCell ⟨q, 2, none⟩ a2).setCell ⟨q, 3, none⟩ a3).setCell ⟨q, 4, none⟩ a4).setCell ⟨q, 5, none⟩ a5).setCell ⟨q, 6, none⟩ a6).heap[q]? = some (.cells #[a0, a1, a2, a3, a4, a5, a6, .slice none 0 0, .slice none 0 0, .slice none 0 0, .slice none 0 0, .slice none 0 0, .int .i64 0, .int .i64 0, .int .i64 0] 35 (0, 0)) := cell_set h5 6 _
  have h7 : ((((((((V.setCell ⟨q, 0, none⟩ a0).setCell ⟨q, 1, none⟩ a1).setCell ⟨q, 2, none⟩ a2).setCell ⟨q, 3, none⟩ a3).setCell ⟨q, 4, none⟩ a4).setCell ⟨q, 5, none⟩ a5).setCell ⟨q, 6, none⟩ a6).setCell ⟨q, 7, none⟩ a7).heap[q]? = some (.cells #[a0, a1, a2, a3, a4, a5, a6, a7, .slice none 0 0, .slice none 0 0, .slice none 0 0, .slice none 0 0, .int .i64 0, .int .i64 0, .int .i64 0] 35 (0, 0)) := cell_set h6 7 _
  have h8 : (((((((((V.setCell ⟨q, 0, none⟩ a0).setCell ⟨q, 1, none⟩ a1).setCell ⟨q, 2, none⟩ a2).setCell ⟨q, 3, none⟩ a3).setCell ⟨q, 4, none⟩ a4).setCell ⟨q, 5, none⟩ a5).setCell ⟨q, 6, none⟩ a6).setCell ⟨q, 7, none⟩ a7).setCell ⟨q, 8, none⟩ a8).heap[q]? = some (.cells #[a0, a1, a2, a3, a4, a5, a6, a7, a8, .slice none 0 0, .slice none 0 0, .slice none 0 0, .int .i64 0, .int .i64 0, .int .i64 0] 35 (0, 0)) := cell_set h7 8 _
  have h9 : ((((((((((V.setCell ⟨q, 0, none⟩ a0).setCell ⟨q, 1, none⟩ a1).setCell ⟨q, 2, none⟩ a2).setCell ⟨q, 3, none⟩ a3).setCell ⟨q, 4, none⟩ a4).setCell ⟨q, 5, none⟩ a5).setCell ⟨q, 6, none⟩ a6).setCell ⟨q, 7, none⟩ a7).setCell ⟨q, 8, none⟩ a8).setCell ⟨q, 9, none⟩ a9).heap[q]? = some (.cells #[a0, a1, a2, a3, a4, a5, a6, a7, a8, a9, .slice none 0 0, .slice none 0 0, .int .i64 0, .int .i64 0, .int .i64 0] 35 (0, 0)) := cell_set h8 9 _
  have h10 : (((((((((((V.setCell ⟨q, 0, none⟩ a0).setCell ⟨q, 1, none⟩ a1).setCell ⟨q, 2, none⟩ a2).setCell ⟨q, 3, none⟩ a3).setCell ⟨q, 4, none⟩ a4).setCell ⟨q, 5, none⟩ a5).setCell ⟨q, 6, none⟩ a6).setCell ⟨q, 7, none⟩ a7).setCell ⟨q, 8, none⟩ a8).setCell ⟨q, 9, none⟩ a9).setCell ⟨q, 10, none⟩ a10).heap[q]? = some (.cells #[a0, a1, a2, a3, a4, a5, a6, a7, a8, a9, a10, .slice none 0 0, .int .i64 0, .int .i64 0, .int .i64 0] 35 (0, 0)) := cell_set h9 10 _
  have h11 : ((((((((((((V.setCell ⟨q, 0, none⟩ a0).setCell ⟨q, 1, none⟩ a1).setCell ⟨q, 2, none⟩ a2).setCell ⟨q, 3, none⟩ a3).setCell ⟨q, 4, none⟩ a4).setCell ⟨q, 5, none⟩ a5).setCell ⟨q, 6, none⟩ a6).setCell ⟨q, 7, none⟩ a7).setCell ⟨q, 8, none⟩ a8).setCell ⟨q, 9, none⟩ a9).setCell ⟨q, 10, none⟩ a10).setCell ⟨q, 11, none⟩ a11).heap[q]? = some (.cells #[a0, a1, a2, a3, a4, a5, a6, a7, a8, a9, a10, a11, .int .i64 0, .int .i64 0, .int .i64 0] 35 (0, 0)) := cell_set h10 11 _
  have h12 : (((((((((((((V.setCell ⟨q, 0, none⟩ a0).setCell ⟨q, 1, none⟩ a1).setCell ⟨q, 2, none⟩ a2).setCell ⟨q, 3, none⟩ a3).setCell ⟨q, 4, none⟩ a4).setCell ⟨q, 5, none⟩ a5).setCell ⟨q, 6, none⟩ a6).setCell ⟨q, 7, none⟩ a7).setCell ⟨q, 8, none⟩ a8).setCell ⟨q, 9, none⟩ a9).setCell ⟨q, 10, none⟩ a10).setCell ⟨q, 11, none⟩ a11).setCell ⟨q, 12, none⟩ a12).heap[q]? = some (.cells #[a0, a1, a2, a3, a4, a5, a6, a7, a8, a9, a10, a11, a12, .int .i64 0, .int .i64 0] 35 (0, 0)) := cell_set h11 12 _
  have h13 : ((((((((((((((V.setCell ⟨q, 0, none⟩ a0).setCell ⟨q, 1, none⟩ a1).setCell ⟨q, 2, none⟩ a2).setCell ⟨q, 3, none⟩ a3).setCell ⟨q, 4, none⟩ a4).setCell ⟨q, 5, none⟩ a5).setCell ⟨q, 6, none⟩ a6).setCell ⟨q, 7, none⟩ a7).setCell ⟨q, 8, none⟩ a8).setCell ⟨q, 9, none⟩ a9).setCell ⟨q, 10, none⟩ a10).setCell ⟨q, 11, none⟩ a11).setCell ⟨q, 12, none⟩ a12).setCell ⟨q, 13, none⟩ a13).heap[q]? = some (.cells #[a0, a1, a2, a3, a4, a5, a6, a7, a8, a9, a10, a11, a12, a13, .int .i64 0] 35 (0, 0)) := cell_set h12 13 _
  have h14 : (((((((((((((((V.setCell ⟨q, 0, none⟩ a0).setCell ⟨q, 1, none⟩ a1).setCell ⟨q, 2, none⟩ a2).setCell ⟨q, 3, none⟩ a3).setCell ⟨q, 4, none⟩ a4).setCell ⟨q, 5, none⟩ a5).setCell ⟨q, 6, none⟩ a6).setCell ⟨q, 7, none⟩ a7).setCell ⟨q, 8, none⟩ a8).setCell ⟨q, 9, none⟩ a9).setCell ⟨q, 10, none⟩ a10).setCell ⟨q, 11, none⟩ a11).setCell ⟨q, 12, none⟩ a12).setCell ⟨q, 13, none⟩ a13).setCell ⟨q, 14, none⟩ a14).heap[q]? = some (.cells #[a0, a1, a2, a3, a4, a5, a6, a7, a8, a9, a10, a11, a12, a13, a14] 35 (0, 0)) := cell_set h13 14 _
  have k0 : Keep V V [q] := ⟨rfl, rfl, rfl, Nat.le_refl _, fun _ _ _ => rfl⟩
  have k1 := kset k0 (p := ⟨q, 0, none⟩) (List.mem_singleton.2 rfl) a0
  have k2 := kset k1 (p := ⟨q, 1, none⟩) (List.mem_singleton.2 rfl) a1
  have k3 := kset k2 (p := ⟨q, 2, none⟩) (List.mem_singleton.2 rfl) a2
  have k4 := kset k3 (p := ⟨q, 3, none⟩) (List.mem_singleton.2 rfl) a3
  have k5 := kset k4 (p := ⟨q, 4, none⟩) (List.mem_singleton.2 rfl) a4
  have k6 := kset k5 (p := ⟨q, 5, none⟩) (List.mem_singleton.2 rfl) a5
  have k7 := kset k6 (p := ⟨q, 6, none⟩) (List.mem_singleton.2 rfl) a6
  have k8 := kset k7 (p := ⟨q, 7, none⟩) (List.mem_singleton.2 rfl) a7
  have k9 := kset k8 (p := ⟨q, 8, none⟩) (List.mem_singleton.2 rfl) a8
  have k10 := kset k9 (p := ⟨q, 9, none⟩) (List.mem_singleton.2 rfl) a9
  have k11 := kset k10 (p := ⟨q, 10, none⟩) (List.mem_singleton.2 rfl) a10
  have k12 := kset k11 (p := ⟨q, 11, none⟩) (List.mem_singleton.2 rfl) a11
  have k13 := kset k12 (p := ⟨q, 12, none⟩) (List.mem_singleton.2 rfl) a12
  have k14 := kset k13 (p := ⟨q, 13, none⟩) (List.mem_singleton.2 rfl) a13
  have k15 := kset k14 (p := ⟨q, 14, none⟩) (List.mem_singleton.2 rfl) a14
  exact ⟨h14, k15⟩
theorem MRow.take {w : World} {p : Option Addr} {n c : Nat} {ts : List Im} (h : MRow w (.slice p n c) ts) (k : Nat) (hk : k ≤ ts.length) : MRow w (.slice p k c) (ts.take k) := by
  obtain ⟨p', cap', e, hc, h0, hr⟩ := h
  injection e with e1 e2 e3
  subst e1 e3
  refine ⟨p, c, by rw [List.length_take, Nat.min_eq_left hk], by rw [List.length_take]; omega, h0, fun i t ht => hr i t ?_⟩
  rw [List.getElem?_take] at ht
  split at ht
  · exact ht
  · cases ht
theorem MRow.drop {w : World} {b off n c : Nat} {ts : List Im} (h : MRow w (.slice (some ⟨b, off, none⟩) n c) ts) (k : Nat) (hk : k ≤ ts.length) : MRow w (.slice (some ⟨b, off + k * 15, none⟩) (n - k) (c - k)) (ts.drop k) := by
  obtain ⟨p', cap', e, hc, h0, hr⟩ := h
  injection e with e1 e2 e3
  subst e1 e2 e3
  refine ⟨_, c - k, by rw [List.length_drop], by rw [List.length_drop]; omega, fun e => (by cases e), fun i t ht => ?_⟩
  rw [List.getElem?_drop] at ht
  obtain ⟨⟨b', off', e, h1⟩, h2⟩ := hr (k + i) t ht
  injection e with e
  injection e with e3 e4
  subst e3 e4
  refine ⟨⟨b, off + k * 15, rfl, ?_⟩, h2⟩
  rw [show off + k * 15 + i * 15 = off + (k + i) * 15 by omega]
  exact h1
theorem mRow_zero {w : World} {b off : Nat} : MRow w (.slice (some ⟨b, off, none⟩) 0 0) [] := ⟨some ⟨b, off, none⟩, 0, rfl, Nat.le_refl _, fun e => (by cases e), fun i t h => by simp at h⟩
abbrev zim : Im := bare Ms.zero
theorem zim_ok (w : World) (hg : GlobM w) : zim.ok w := ⟨strArg_nil w, postRow_nil w, PolV.zero w hg.1, rfl, rfl, fits_zero, by simp, by simp⟩
/-- What the document's Take leaves. -/
def RTake (W0 w : World) (rb : Nat) (F : List Nat) (ms : List Ms) (n : Int) (e : Ending) (w' : World) : Prop := (∃ (t : Im) (b : Bool) (ts' : List Im) (p' : Option Addr) (c' : Nat), e = .returned (.tuple #[t.val, .bool b]) ∧ t.ok w' ∧ TakeR ms n b t.m (ts'.map Im.m) ∧ RB W0 w' rb ts' p' c' ∧ Near w F (rblk rb p')) ∧ Keep w w' [rb]

set_option maxRecDepth 100000 in
set_option maxHeartbeats 16000000 in
theorem rtake_any (W0 : World) (rb : Nat) (ts : List Im) (p : Option Addr) (c : Nat) (n : Int) (w : World) (hg : GlobM w) (h : RB W0 w rb ts p c) (hf : Fine (ts.map Im.m)) :
    Calls Tryz.prog 14 #[.pointer (some ⟨rb, 0, none⟩), .int .i64 n] w fun e w' => RTake W0 w rb (rblk rb p) (ts.map Im.m) n e w' := by
  have HR := hide h
  have HF := hide hf
  have HG := hide hg
  obtain ⟨N, hN⟩ : ∃ N, N = ts.length := ⟨_, rfl⟩
  have hN96 : N ≤ 96 := by have := hf.len; rw [List.length_map] at this; omega
  obtain ⟨w1, hw1⟩ : ∃ w1, w1 = w.alloc (.cells #[.int .i64 0, .int .i64 0, .int .i64 0, .int .i64 0, .slice none 0 0, .slice none 0 0, .int .i64 0, .slice none 0 0, .slice none 0 0, .slice none 0 0, .slice none 0 0, .slice none 0 0, .int .i64 0, .int .i64 0, .int .i64 0] 35) := ⟨_, rfl⟩
  have B1 : Hid (Below w.heap.size w w1) := hide (by rw [hw1]; exact bel_alloc (Below.refl _ _) _)
  have Z1 : Hid (w1.heap[w.heap.size]? = some (.cells #[.int .i64 0, .int .i64 0, .int .i64 0, .int .i64 0, .slice none 0 0, .slice none 0 0, .int .i64 0, .slice none 0 0, .slice none 0 0, .slice none 0 0, .slice none 0 0, .slice none 0 0, .int .i64 0, .int .i64 0, .int .i64 0] 35 (0, 0)) ∧ w1.heap.size = w.heap.size + 1) := hide (by rw [hw1]; exact ⟨new_block _ _ _, by simp⟩)
  have c0 : (w.alloc (.cells #[.int .i64 0, .int .i64 0, .int .i64 0, .int .i64 0, .slice none 0 0, .slice none 0 0, .int .i64 0, .slice none 0 0, .slice none 0 0, .slice none 0 0, .slice none 0 0, .slice none 0 0, .int .i64 0, .int .i64 0, .int .i64 0] 35)).cell? ⟨rb, 0, none⟩ = some (.slice p N c) := by rw [← hw1, hN]; exact tag_cell (h.below B1.out).b 0 _ rfl
  have HN := hide hN
  have HW1 := hide hw1
  clear h hf hg hN hw1
  go_enter Tryz.func14, Tryz.ntmps14
  go_upto_region 1 with fail
  by_cases h0 : n < 0
  · have d0 : decide (n < 0) = true := decide_eq_true h0
    go_wp2_with fail
    refine bodyPost_ret (results_row_tmpD rfl _ _ w.heap.size 35 #[.int .i64 0, .int .i64 0, .int .i64 0, .int .i64 0, .slice none 0 0, .slice none 0 0, .int .i64 0, .slice none 0 0, .slice none 0 0, .slice none 0 0, .slice none 0 0, .slice none 0 0, .int .i64 0, .int .i64 0, .int .i64 0] (0, 0) _ rfl (new_block _ _ _) Tryz.underlying35 rfl (by kernel_rfl)) rfl ?_
    rw [← HW1.out]
    exact ⟨⟨zim, false, ts, p, c, rfl, zim_ok _ (HG.out.below B1.out), .inl ⟨rfl, rfl, rfl, .inl h0⟩, HR.out.below B1.out, Near.refl _ _⟩, keep_of B1.out⟩
  · have d0 : decide (n < 0) = false := decide_eq_false h0
    by_cases h1 : (N : Int) ≤ n
    · have d1 : decide ((N : Int) ≤ n) = true := decide_eq_true h1
      go_wp2_with fail
      refine bodyPost_ret (results_row_tmpD rfl _ _ w.heap.size 35 #[.int .i64 0, .int .i64 0, .int .i64 0, .int .i64 0, .slice none 0 0, .slice none 0 0, .int .i64 0, .slice none 0 0, .slice none 0 0, .slice none 0 0, .slice none 0 0, .slice none 0 0, .int .i64 0, .int .i64 0, .int .i64 0] (0, 0) _ rfl (new_block _ _ _) Tryz.underlying35 rfl (by kernel_rfl)) rfl ?_
      rw [← HW1.out]
      exact ⟨⟨zim, false, ts, p, c, rfl, zim_ok _ (HG.out.below B1.out), .inl ⟨rfl, rfl, rfl, .inr (by rw [List.length_map, ← HN.out]; exact h1)⟩, HR.out.below B1.out, Near.refl _ _⟩, keep_of B1.out⟩
    · obtain ⟨k, rfl⟩ : ∃ k : Nat, n = (k : Int) := ⟨n.toNat, by omega⟩
      have hkN : k < N := by omega
      have d1 : decide ((N : Int) ≤ (k : Int)) = false := decide_eq_false (by omega)
      obtain ⟨t, ht⟩ : ∃ t, ts[k]? = some t := ⟨_, List.getElem?_eq_getElem (by have := HN.out; omega)⟩
      have hrow := (HR.out.below B1.out).row
      rw [← HN.out] at hrow
      obtain ⟨b, off, rfl, hrg, htok⟩ := hrow.at ht
      rw [HW1.out] at hrg
      have HT := hide ht
      have HROW1 := hide hrow
      have HTK := hide ((HR.out.k t (List.mem_of_getElem? ht)))
      obtain ⟨pi, ni, ci, pp, np, cp, p1, n1, c1, p2, n2, c2, p3, n3, c3, p4, n4, c4, p5, n5, c5, ei, ep, e1, e2, e3, e4, e5⟩ := Im.shape htok
      obtain ⟨y0, y1, y2, y3, y4, y5, y6, y7, y8, y9, y10, y11, y12, y13, y14⟩ := fifteen hrg
      rw [ei] at y4
      rw [ep] at y5
      rw [e1] at y7
      rw [e2] at y8
      rw [e3] at y9
      rw [e4] at y10
      rw [e5] at y11
      have HC : Hid (t.cells = [.int .i64 t.m.kind, .int .i64 t.m.fr, .int .i64 t.m.to, .int .i64 t.m.ep, .slice pi ni ci, .slice pp np cp, .int .i64 t.m.pol.ep, .slice p1 n1 c1, .slice p2 n2 c2, .slice p3 n3 c3, .slice p4 n4 c4, .slice p5 n5 c5, .int .i64 t.m.pol.dp, .int .i64 t.m.pol.nd, .int .i64 t.m.pol.bt]) := hide (by rw [Im.cells, ei, ep, e1, e2, e3, e4, e5])
      clear ht hrow hrg htok ei ep e1 e2 e3 e4 e5
      go_upto_region 4 with fail
      clear y0 y1 y2 y3 y4 y5 y6 y7 y8 y9 y10 y11 y12 y13 y14
      rw [← HW1.out]
      obtain ⟨w2, hw2⟩ : ∃ w2, w2 = w1.alloc (.cells #[.int .i64 t.m.kind, .int .i64 t.m.fr, .int .i64 t.m.to, .int .i64 t.m.ep, .slice pi ni ci, .slice pp np cp, .int .i64 t.m.pol.ep, .slice p1 n1 c1, .slice p2 n2 c2, .slice p3 n3 c3, .slice p4 n4 c4, .slice p5 n5 c5, .int .i64 t.m.pol.dp, .int .i64 t.m.pol.nd, .int .i64 t.m.pol.bt] 35) := ⟨_, rfl⟩
      rw [← hw2]
      have B2 : Hid (Below w.heap.size w w2) := hide (by rw [hw2]; exact bel_alloc B1.out _)
      have Z2 : Hid (w2.heap[w.heap.size]? = some (.cells #[.int .i64 0, .int .i64 0, .int .i64 0, .int .i64 0, .slice none 0 0, .slice none 0 0, .int .i64 0, .slice none 0 0, .slice none 0 0, .slice none 0 0, .slice none 0 0, .slice none 0 0, .int .i64 0, .int .i64 0, .int .i64 0] 35 (0, 0)) ∧ w2.heap[w.heap.size + 1]? = some (.cells #[.int .i64 t.m.kind, .int .i64 t.m.fr, .int .i64 t.m.to, .int .i64 t.m.ep, .slice pi ni ci, .slice pp np cp, .int .i64 t.m.pol.ep, .slice p1 n1 c1, .slice p2 n2 c2, .slice p3 n3 c3, .slice p4 n4 c4, .slice p5 n5 c5, .int .i64 t.m.pol.dp, .int .i64 t.m.pol.nd, .int .i64 t.m.pol.bt] 35 (0, 0)) ∧ w.heap.size + 2 ≤ w2.heap.size) := hide (by
        rw [hw2]
        refine ⟨(Below.heap_alloc _ _ _ (by have := Z1.out.2; omega)).trans Z1.out.1, ?_, by simp; have := Z1.out.2; omega⟩
        have h := new_block w1 #[.int .i64 t.m.kind, .int .i64 t.m.fr, .int .i64 t.m.to, .int .i64 t.m.ep, .slice pi ni ci, .slice pp np cp, .int .i64 t.m.pol.ep, .slice p1 n1 c1, .slice p2 n2 c2, .slice p3 n3 c3, .slice p4 n4 c4, .slice p5 n5 c5, .int .i64 t.m.pol.dp, .int .i64 t.m.pol.nd, .int .i64 t.m.pol.bt] 35
        rw [Z1.out.2] at h
        exact h)
      have hkc : k + 1 ≤ c := by
        obtain ⟨p', cap', e, hc, -, -⟩ := HROW1.out
        injection e with e1 e2 e3
        omega
      have hk1 : k ≤ c := by omega
      have hwr : IntKind.i64.wrap ((k : Int) + 1) = ((k + 1 : Nat) : Int) := by
        rw [IntKind.wrap_i64]
        omega
      have hwn : (0 : Int) ≤ (k : Int) + 1 := by omega
      have hwm : (k : Int) + 1 ≤ (N : Int) := by omega
      have hk2 : k + 1 ≤ N := by omega
      have hk3 : N ≤ c := by
        obtain ⟨p', cap', e, hc, -, -⟩ := HROW1.out
        injection e with e1 e2 e3
        omega
      have SK : Hid (∀ wx : World, Below w2.heap.size w2 wx → wx.cell? ⟨rb, 0, none⟩ = some (.slice (some ⟨b, off, none⟩) N c) ∧ wx.frozen? ⟨rb, 0, none⟩ = false) := hide (fun wx hb => by
        have hr := (HR.out.below (bel2 B2.out hb)).b
        rw [← HN.out] at hr
        exact ⟨tag_cell hr 0 _ rfl, cell_free hr 0⟩)
      have LT : Hid (ts.length ≤ 96) := hide (by rw [← HN.out]; exact hN96)
      have HT1 : Hid (∀ wx : World, Below w2.heap.size w2 wx → MRow wx (.slice (some ⟨b, off, none⟩) k c) (ts.take k)) := hide (fun wx hb => by
        have h := (HR.out.below (bel2 B2.out hb)).row
        exact h.take k (by rw [← HN.out]; omega))
      have HL1 : Hid ((ts.take k).length = k ∧ (ts.drop (k + 1)).length = N - (k + 1)) := hide ⟨by rw [List.length_take, ← HN.out]; omega, by rw [List.length_drop, ← HN.out]⟩
      have HER : Hid ((ts.take k ++ ts.drop (k + 1)).map Im.m = (ts.map Im.m).eraseIdx k) := hide (by
        rw [List.eraseIdx_eq_take_drop_succ, List.map_append, List.map_take, List.map_drop])
      clear hw2 HW1
      by_cases hcj : c = k + 1
      · subst hcj
        obtain rfl : N = k + 1 := by omega
        have hkk : (k : Int) ≤ (k : Int) + 1 := by omega
        have HT2 : Hid (∀ wx : World, Below w2.heap.size w2 wx → MRow wx (.slice (some ⟨b, off, none⟩) 0 0) (ts.drop (k + 1))) := hide (fun wx hb => by
          rw [List.drop_eq_nil_of_le (by have := HN.out; omega)]
          exact mRow_zero)
        refine wp_region_until (m := 19) (S := (fun wx => wx.cell? ⟨rb, 0, none⟩ = some (.slice (some ⟨b, off, none⟩) (k + 1) (k + 1)) ∧ wx.frozen? ⟨rb, 0, none⟩ = false)) (by kernel_rfl) (SK.out _ ((Below.refl _ _).drew)) (fun hHeld => ?_)
        obtain ⟨wd, hwd⟩ : ∃ z, z = w2.drew := ⟨_, rfl⟩
        have BE : Hid (Below w2.heap.size w2 wd) := hide (by rw [hwd]; exact (Below.refl _ _).drew)
        rw [← hwd] at hHeld ⊢
        clear hwd
        refine wpU_at (i := 0) (v := ?vqb0) (a1 := ?xqb0) rfl (by kernel_rfl) (by kernel_rfl) (by kernel_rfl) (by kernel_rfl) (fun _ _ _ h => h) (Or.inl ⟨by rfl, ?yqb0⟩) (by assumption) ?hqb0 ?zqb0
        case yqb0 => (intro w hSw; (try dsimp only at hSw); go_simp; try (with_reducible rfl))
        case hqb0 => (go_simp; exact rfl)
        case zqb0 =>
        refine wpU_at (i := 2) (v := ?vqb2) (a1 := ?xqb2) rfl (by kernel_rfl) (by kernel_rfl) (by kernel_rfl) (by kernel_rfl) (fun _ _ _ h => h) (Or.inl ⟨by rfl, ?yqb2⟩) (by assumption) ?hqb2 ?zqb2
        case yqb2 => (intro w hSw; (try dsimp only at hSw); go_simp; try (with_reducible rfl))
        case hqb2 => (go_simp; exact rfl)
        case zqb2 =>
        refine wpU_at (i := 3) (v := ?vqb3) (a1 := ?xqb3) rfl (by kernel_rfl) (by kernel_rfl) (by kernel_rfl) (by kernel_rfl) (fun _ _ _ h => h) (Or.inl ⟨by rfl, ?yqb3⟩) (by assumption) ?hqb3 ?zqb3
        case yqb3 => (intro w hSw; (try dsimp only at hSw); go_simp; try (with_reducible rfl))
        case hqb3 => (go_simp; exact rfl)
        case zqb3 =>
        refine wpU_at (i := 4) (v := ?vqb4) (a1 := ?xqb4) rfl (by kernel_rfl) (by kernel_rfl) (by kernel_rfl) (by kernel_rfl) (fun _ _ _ h => h) (Or.inl ⟨by rfl, ?yqb4⟩) (by assumption) ?hqb4 ?zqb4
        case yqb4 => (intro w hSw; (try dsimp only at hSw); go_simp; try (with_reducible rfl))
        case hqb4 => (go_simp; exact rfl)
        case zqb4 =>
        refine wpU_at (i := 5) (v := ?vqb5) (a1 := ?xqb5) rfl (by kernel_rfl) (by kernel_rfl) (by kernel_rfl) (by kernel_rfl) (fun _ _ _ h => h) (Or.inl ⟨by rfl, ?yqb5⟩) (by assumption) ?hqb5 ?zqb5
        case yqb5 => (intro w hSw; (try dsimp only at hSw); go_simp; try (with_reducible rfl))
        case hqb5 => (go_simp; exact rfl)
        case zqb5 =>
        refine wpU_at (i := 6) (v := ?vqb6) (a1 := ?xqb6) rfl (by kernel_rfl) (by kernel_rfl) (by kernel_rfl) (by kernel_rfl) (fun _ _ _ h => h) (Or.inl ⟨by rfl, ?yqb6⟩) (by assumption) ?hqb6 ?zqb6
        case yqb6 => (intro w hSw; (try dsimp only at hSw); go_simp; try (with_reducible rfl))
        case hqb6 => (go_simp; exact rfl)
        case zqb6 =>
        refine wpU_at (i := 7) (v := ?vqb7) (a1 := ?xqb7) rfl (by kernel_rfl) (by kernel_rfl) (by kernel_rfl) (by kernel_rfl) (fun _ _ _ h => h) (Or.inl ⟨by rfl, ?yqb7⟩) (by assumption) ?hqb7 ?zqb7
        case yqb7 => (intro w hSw; (try dsimp only at hSw); go_simp; try (with_reducible rfl))
        case hqb7 => (go_simp; exact rfl)
        case zqb7 =>
        refine wpU_at (i := 9) (v := ?vqb9) (a1 := ?xqb9) rfl (by kernel_rfl) (by kernel_rfl) (by kernel_rfl) (by kernel_rfl) (fun _ _ _ h => h) (Or.inl ⟨by rfl, ?yqb9⟩) (by assumption) ?hqb9 ?zqb9
        case yqb9 => (intro w hSw; (try dsimp only at hSw); go_simp; try (with_reducible rfl))
        case hqb9 => (go_simp; exact rfl)
        case zqb9 =>
        refine wpU_at (i := 10) (v := ?vqb10) (a1 := ?xqb10) rfl (by kernel_rfl) (by kernel_rfl) (by kernel_rfl) (by kernel_rfl) (fun _ _ _ h => h) (Or.inl ⟨by rfl, ?yqb10⟩) (by assumption) ?hqb10 ?zqb10
        case yqb10 => (intro w hSw; (try dsimp only at hSw); go_simp; try (with_reducible rfl))
        case hqb10 => (go_simp; exact rfl)
        case zqb10 =>
        refine wpU_at (i := 11) (v := ?vqb11) (a1 := ?xqb11) rfl (by kernel_rfl) (by kernel_rfl) (by kernel_rfl) (by kernel_rfl) (fun _ _ _ h => h) (Or.inl ⟨by rfl, ?yqb11⟩) (by assumption) ?hqb11 ?zqb11
        case yqb11 => (intro w hSw; (try dsimp only at hSw); go_simp; try (with_reducible rfl))
        case hqb11 => (go_simp; exact rfl)
        case zqb11 =>
        refine wpU_at (i := 12) (v := ?vqb12) (a1 := ?xqb12) rfl (by kernel_rfl) (by kernel_rfl) (by kernel_rfl) (by kernel_rfl) (fun _ _ _ h => h) (Or.inl ⟨by rfl, ?yqb12⟩) (by assumption) ?hqb12 ?zqb12
        case yqb12 => (intro w hSw; (try dsimp only at hSw); go_simp; try (with_reducible rfl))
        case hqb12 => (go_simp; exact rfl)
        case zqb12 =>
        refine wpU_at (i := 13) (v := ?vqb13) (a1 := ?xqb13) rfl (by kernel_rfl) (by kernel_rfl) (by kernel_rfl) (by kernel_rfl) (fun _ _ _ h => h) (Or.inl ⟨by rfl, ?yqb13⟩) (by assumption) ?hqb13 ?zqb13
        case yqb13 => (intro w hSw; (try dsimp only at hSw); go_simp; try (with_reducible rfl))
        case hqb13 => (go_simp; exact rfl)
        case zqb13 =>
        refine wpU_at (i := 14) (v := ?vqb14) (a1 := ?xqb14) rfl (by kernel_rfl) (by kernel_rfl) (by kernel_rfl) (by kernel_rfl) (fun _ _ _ h => h) (Or.inl ⟨by rfl, ?yqb14⟩) (by assumption) ?hqb14 ?zqb14
        case yqb14 => (intro w hSw; (try dsimp only at hSw); go_simp; try (with_reducible rfl))
        case hqb14 => (go_simp; exact rfl)
        case zqb14 =>
        refine wpU_at (i := 15) (v := ?vqb15) (a1 := ?xqb15) rfl (by kernel_rfl) (by kernel_rfl) (by kernel_rfl) (by kernel_rfl) (fun _ _ _ h => h) (Or.inl ⟨by rfl, ?yqb15⟩) (by assumption) ?hqb15 ?zqb15
        case yqb15 => (intro w hSw; (try dsimp only at hSw); go_simp; try (with_reducible rfl))
        case hqb15 => (go_simp; exact rfl)
        case zqb15 =>
        refine wpU_ready (rs := [1]) (by kernel_rfl) (by simp) ?_
        refine AllU.cons (by decide) rfl (fun K hK => ?_) AllU.nil
        go_simp
        try go_wp2_with fail
        obtain ⟨wa1, hwa1⟩ : ∃ z, z = wd.alloc (.cells #[] 35) := ⟨_, rfl⟩
        have Bz1 : Hid (Below w2.heap.size w2 wa1) := hide (by rw [hwa1]; exact bel_alloc BE.out _)
        have Oz1 : Hid (wa1.ownsRow w2.heap.size 35 15 (.slice (some ⟨wd.heap.size, 0, none⟩) 0 0) 0 (mflat [])) := hide (by rw [hwa1]; exact mown_empty _ _ BE.out.size)
        try rw [← hwa1]
        clear hwa1
        refine hK.out _ _ (SK.out _ Bz1.out) (fun hHeld2 => ?_)
        clear hK K hHeld
        have hHeld := hHeld2
        clear hHeld2
        refine wpU_ready (rs := [8]) (by kernel_rfl) (by simp) ?_
        refine AllU.cons (by decide) rfl (fun K hK => ?_) AllU.nil
        refine mstep_wanted rfl (mwp_rows _ _ rfl w2.heap.size _ 0 [] rfl Oz1.out _ (ts.take k) rfl (HT1.out _ Bz1.out) (by have := LT.out;  have := HL1.out.1; omega) Bz1.out.size ?_)
        intro v2 wz2 ho2 hg2 hf2
        obtain ⟨nn2, hnn2⟩ : ∃ z, z = 0 + ((ts.take k) : List Im).length := ⟨_, rfl⟩
        rw [← hnn2] at ho2
        obtain ⟨pz2, cz2, rfl, -⟩ := own_shape ho2
        have Bz2 : Hid (Below w2.heap.size w2 wz2) := hide (Bz1.out.grown hg2 Bz1.out.size (fun j hj => (Oz1.out.lt j hj).1))
        have Oz2 : Hid (wz2.ownsRow w2.heap.size 35 15 (.slice pz2 nn2 cz2) nn2 (mflat (ts.take k))) := hide ho2
        have Ez2 := hide hnn2
        clear ho2 hg2 hf2 hnn2
        try go_simp
        refine hK.out _ _ (SK.out _ Bz2.out) (fun hHeld2 => ?_)
        clear hK K hHeld
        have hHeld := hHeld2
        clear hHeld2
        refine wpU_ready (rs := [16]) (by kernel_rfl) (by simp) ?_
        refine AllU.cons (by decide) rfl (fun K hK => ?_) AllU.nil
        refine mstep_wanted rfl (mwp_rows _ _ rfl w2.heap.size _ nn2 (ts.take k) rfl Oz2.out _ (ts.drop (k + 1)) rfl (HT2.out _ Bz2.out) (by have := LT.out; have h30 := Ez2.out; have := HL1.out.1; have := HL1.out.2; omega) Bz2.out.size ?_)
        intro v3 wz3 ho3 hg3 hf3
        obtain ⟨nn3, hnn3⟩ : ∃ z, z = nn2 + ((ts.drop (k + 1)) : List Im).length := ⟨_, rfl⟩
        rw [← hnn3] at ho3
        obtain ⟨pz3, cz3, rfl, -⟩ := own_shape ho3
        have Bz3 : Hid (Below w2.heap.size w2 wz3) := hide (Bz2.out.grown hg3 Bz2.out.size (fun j hj => (Oz2.out.lt j hj).1))
        have Oz3 : Hid (wz3.ownsRow w2.heap.size 35 15 (.slice pz3 nn3 cz3) nn3 (mflat ((ts.take k) ++ (ts.drop (k + 1))))) := hide ho3
        have Ez3 := hide hnn3
        clear ho3 hg3 hf3 hnn3
        try go_simp
        refine hK.out _ _ (SK.out _ Bz3.out) (fun hHeld2 => ?_)
        clear hK K hHeld
        have hHeld := hHeld2
        clear hHeld2
        refine wpU_ready (rs := [17]) (by kernel_rfl) (by simp) ?_
        refine AllU.cons (by decide) rfl (fun K hK => ?_) AllU.nil
        go_simp
        try go_wp2_with fail
        refine hK.out _ _ (SK.out _ Bz3.out) (fun hHeld2 => ?_)
        clear hK K hHeld
        have hHeld := hHeld2
        clear hHeld2
        refine wpU_ready (rs := [18]) (by kernel_rfl) (by simp) ?_
        refine AllU.cons (by decide) rfl (fun K hK => ?_) AllU.nil
        go_simp
        try go_wp2_with fail
        refine hK.out _ _ (SK.out _ Bz3.out) (fun hHeld2 => ?_)
        clear hK K hHeld
        have hHeld := hHeld2
        clear hHeld2
        refine wpU_ready (rs := [19]) (by kernel_rfl) (by simp) ?_
        refine AllU.last rfl (fun K hK => ?_)
        go_simp
        try go_wp2_with fail
        refine hK.out _ _ ?_
        clear hK K
        refine wpAny_done (by kernel_rfl) ?_ _
        have HLL : (ts.take k ++ ts.drop (k + 1)).length = nn3 := by
          have q0 := Ez2.out
          have q1 := Ez3.out
          rw [List.length_append]
          have h1 := HL1.out
          omega
        have HE := hide (rb_store HR.out (bel2 B2.out Bz3.out) HLL (mown_base Oz3.out B2.out.size) (fun x hx => by
          rcases List.mem_append.1 hx with h | h
          · exact HR.out.k x (List.mem_of_mem_take h)
          · exact HR.out.k x (List.mem_of_mem_drop h)))
        obtain ⟨V, hV⟩ : ∃ V, V = (wz3.setCell ⟨rb, 0, none⟩ (.slice pz3 nn3 cz3)) := ⟨_, rfl⟩
        have hrb := HR.out.lt
        have ZV : Hid (V.heap[w.heap.size]? = some (.cells #[.int .i64 0, .int .i64 0, .int .i64 0, .int .i64 0, .slice none 0 0, .slice none 0 0, .int .i64 0, .slice none 0 0, .slice none 0 0, .slice none 0 0, .slice none 0 0, .slice none 0 0, .int .i64 0, .int .i64 0, .int .i64 0] 35 (0, 0)) ∧ V.heap[w.heap.size + 1]? = some (.cells #[.int .i64 t.m.kind, .int .i64 t.m.fr, .int .i64 t.m.to, .int .i64 t.m.ep, .slice pi ni ci, .slice pp np cp, .int .i64 t.m.pol.ep, .slice p1 n1 c1, .slice p2 n2 c2, .slice p3 n3 c3, .slice p4 n4 c4, .slice p5 n5 c5, .int .i64 t.m.pol.dp, .int .i64 t.m.pol.nd, .int .i64 t.m.pol.bt] 35 (0, 0))) := hide (by
          rw [hV]
          have hz := Z2.out
          have hb := Bz3.out
          exact ⟨(set_other (show w.heap.size ≠ rb by omega) _).trans ((hb.block _ (by omega)).trans hz.1), (set_other (show w.heap.size + 1 ≠ rb by omega) _).trans ((hb.block _ (by omega)).trans hz.2.1)⟩)
        have NB : Hid (∀ x ∈ rblk rb pz3, x ≠ w.heap.size) := hide (by
          intro x hx e
          unfold rblk at hx
          cases hp : pz3 with
          | none =>
            rw [hp] at hx
            have := List.mem_singleton.1 hx
            omega
          | some ad =>
            rw [hp] at hx
            rcases List.mem_cons.1 hx with h | h
            · omega
            · have h2 := List.mem_singleton.1 h
              have ho := Oz3.out
              rw [hp] at ho
              rcases ho.2 with ⟨e3, -⟩ | ⟨g, cap, cur, e3, hg3, -⟩
              · cases e3
              · injection e3 with e4
                injection e4 with e5
                rw [e5] at h2
                have hz := Z2.out.2.2
                simp only at h2
                omega)
        rw [← hV] at HE ⊢
        have HVV := hide hV
        clear hV HLL hHeld
        obtain ⟨y0, y1, y2, y3, y4, y5, y6, y7, y8, y9, y10, y11, y12, y13, y14⟩ : V.cell? ⟨w.heap.size + 1, 0, none⟩ = some (.int .i64 t.m.kind) ∧ V.cell? ⟨w.heap.size + 1, 1, none⟩ = some (.int .i64 t.m.fr) ∧ V.cell? ⟨w.heap.size + 1, 2, none⟩ = some (.int .i64 t.m.to) ∧ V.cell? ⟨w.heap.size + 1, 3, none⟩ = some (.int .i64 t.m.ep) ∧ V.cell? ⟨w.heap.size + 1, 4, none⟩ = some (.slice pi ni ci) ∧ V.cell? ⟨w.heap.size + 1, 5, none⟩ = some (.slice pp np cp) ∧ V.cell? ⟨w.heap.size + 1, 6, none⟩ = some (.int .i64 t.m.pol.ep) ∧ V.cell? ⟨w.heap.size + 1, 7, none⟩ = some (.slice p1 n1 c1) ∧ V.cell? ⟨w.heap.size + 1, 8, none⟩ = some (.slice p2 n2 c2) ∧ V.cell? ⟨w.heap.size + 1, 9, none⟩ = some (.slice p3 n3 c3) ∧ V.cell? ⟨w.heap.size + 1, 10, none⟩ = some (.slice p4 n4 c4) ∧ V.cell? ⟨w.heap.size + 1, 11, none⟩ = some (.slice p5 n5 c5) ∧ V.cell? ⟨w.heap.size + 1, 12, none⟩ = some (.int .i64 t.m.pol.dp) ∧ V.cell? ⟨w.heap.size + 1, 13, none⟩ = some (.int .i64 t.m.pol.nd) ∧ V.cell? ⟨w.heap.size + 1, 14, none⟩ = some (.int .i64 t.m.pol.bt) := ⟨tag_cell ZV.out.2 0 _ rfl, tag_cell ZV.out.2 1 _ rfl, tag_cell ZV.out.2 2 _ rfl, tag_cell ZV.out.2 3 _ rfl, tag_cell ZV.out.2 4 _ rfl, tag_cell ZV.out.2 5 _ rfl, tag_cell ZV.out.2 6 _ rfl, tag_cell ZV.out.2 7 _ rfl, tag_cell ZV.out.2 8 _ rfl, tag_cell ZV.out.2 9 _ rfl, tag_cell ZV.out.2 10 _ rfl, tag_cell ZV.out.2 11 _ rfl, tag_cell ZV.out.2 12 _ rfl, tag_cell ZV.out.2 13 _ rfl, tag_cell ZV.out.2 14 _ rfl⟩
        obtain ⟨z0, z1, z2, z3, z4, z5, z6, z7, z8, z9, z10, z11, z12, z13, z14⟩ : V.cell? ⟨w.heap.size, 0, none⟩ = some (.int .i64 0) ∧ V.cell? ⟨w.heap.size, 1, none⟩ = some (.int .i64 0) ∧ V.cell? ⟨w.heap.size, 2, none⟩ = some (.int .i64 0) ∧ V.cell? ⟨w.heap.size, 3, none⟩ = some (.int .i64 0) ∧ V.cell? ⟨w.heap.size, 4, none⟩ = some (.slice none 0 0) ∧ V.cell? ⟨w.heap.size, 5, none⟩ = some (.slice none 0 0) ∧ V.cell? ⟨w.heap.size, 6, none⟩ = some (.int .i64 0) ∧ V.cell? ⟨w.heap.size, 7, none⟩ = some (.slice none 0 0) ∧ V.cell? ⟨w.heap.size, 8, none⟩ = some (.slice none 0 0) ∧ V.cell? ⟨w.heap.size, 9, none⟩ = some (.slice none 0 0) ∧ V.cell? ⟨w.heap.size, 10, none⟩ = some (.slice none 0 0) ∧ V.cell? ⟨w.heap.size, 11, none⟩ = some (.slice none 0 0) ∧ V.cell? ⟨w.heap.size, 12, none⟩ = some (.int .i64 0) ∧ V.cell? ⟨w.heap.size, 13, none⟩ = some (.int .i64 0) ∧ V.cell? ⟨w.heap.size, 14, none⟩ = some (.int .i64 0) := ⟨tag_cell ZV.out.1 0 _ rfl, tag_cell ZV.out.1 1 _ rfl, tag_cell ZV.out.1 2 _ rfl, tag_cell ZV.out.1 3 _ rfl, tag_cell ZV.out.1 4 _ rfl, tag_cell ZV.out.1 5 _ rfl, tag_cell ZV.out.1 6 _ rfl, tag_cell ZV.out.1 7 _ rfl, tag_cell ZV.out.1 8 _ rfl, tag_cell ZV.out.1 9 _ rfl, tag_cell ZV.out.1 10 _ rfl, tag_cell ZV.out.1 11 _ rfl, tag_cell ZV.out.1 12 _ rfl, tag_cell ZV.out.1 13 _ rfl, tag_cell ZV.out.1 14 _ rfl⟩
        obtain ⟨f0, f1, f2, f3, f4, f5, f6, f7, f8, f9, f10, f11, f12, f13, f14⟩ : V.frozen? ⟨w.heap.size, 0, none⟩ = false ∧ V.frozen? ⟨w.heap.size, 1, none⟩ = false ∧ V.frozen? ⟨w.heap.size, 2, none⟩ = false ∧ V.frozen? ⟨w.heap.size, 3, none⟩ = false ∧ V.frozen? ⟨w.heap.size, 4, none⟩ = false ∧ V.frozen? ⟨w.heap.size, 5, none⟩ = false ∧ V.frozen? ⟨w.heap.size, 6, none⟩ = false ∧ V.frozen? ⟨w.heap.size, 7, none⟩ = false ∧ V.frozen? ⟨w.heap.size, 8, none⟩ = false ∧ V.frozen? ⟨w.heap.size, 9, none⟩ = false ∧ V.frozen? ⟨w.heap.size, 10, none⟩ = false ∧ V.frozen? ⟨w.heap.size, 11, none⟩ = false ∧ V.frozen? ⟨w.heap.size, 12, none⟩ = false ∧ V.frozen? ⟨w.heap.size, 13, none⟩ = false ∧ V.frozen? ⟨w.heap.size, 14, none⟩ = false := ⟨cell_free ZV.out.1 0, cell_free ZV.out.1 1, cell_free ZV.out.1 2, cell_free ZV.out.1 3, cell_free ZV.out.1 4, cell_free ZV.out.1 5, cell_free ZV.out.1 6, cell_free ZV.out.1 7, cell_free ZV.out.1 8, cell_free ZV.out.1 9, cell_free ZV.out.1 10, cell_free ZV.out.1 11, cell_free ZV.out.1 12, cell_free ZV.out.1 13, cell_free ZV.out.1 14⟩
        go_wp2_with fail
        have HS := set15 (.int .i64 t.m.kind) (.int .i64 t.m.fr) (.int .i64 t.m.to) (.int .i64 t.m.ep) (.slice pi ni ci) (.slice pp np cp) (.int .i64 t.m.pol.ep) (.slice p1 n1 c1) (.slice p2 n2 c2) (.slice p3 n3 c3) (.slice p4 n4 c4) (.slice p5 n5 c5) (.int .i64 t.m.pol.dp) (.int .i64 t.m.pol.nd) (.int .i64 t.m.pol.bt) ZV.out.1
        refine bodyPost_ret (results_row_tmpD rfl _ _ w.heap.size 35 #[.int .i64 t.m.kind, .int .i64 t.m.fr, .int .i64 t.m.to, .int .i64 t.m.ep, .slice pi ni ci, .slice pp np cp, .int .i64 t.m.pol.ep, .slice p1 n1 c1, .slice p2 n2 c2, .slice p3 n3 c3, .slice p4 n4 c4, .slice p5 n5 c5, .int .i64 t.m.pol.dp, .int .i64 t.m.pol.nd, .int .i64 t.m.pol.bt] (0, 0) _ rfl HS.1 Tryz.underlying35 rfl (by kernel_rfl)) rfl ?_
        have hsz := HE.out.1.bw.size
        have hlo := HR.out.bw.size
        have BW := HE.out.1.bw.trans (HS.2.below (base := W0.heap.size) (fun x hx => by rw [List.mem_singleton.1 hx]; exact hlo) hsz)
        refine ⟨⟨t, true, ts.take k ++ ts.drop (k + 1), pz3, cz3, ?_, HTK.out.below BW, .inr ⟨rfl, k, rfl, ?_, HER.out⟩, HE.out.1.stay BW (fun x hx => HS.2.block x (HE.out.1.blk x hx).2 (fun e => NB.out x hx (List.mem_singleton.1 e))), HE.out.2.1⟩, ?_⟩
        · show Ending.returned (.tuple #[.agg #[.int .i64 t.m.kind, .int .i64 t.m.fr, .int .i64 t.m.to, .int .i64 t.m.ep, .slice pi ni ci, .slice pp np cp, .int .i64 t.m.pol.ep, .slice p1 n1 c1, .slice p2 n2 c2, .slice p3 n3 c3, .slice p4 n4 c4, .slice p5 n5 c5, .int .i64 t.m.pol.dp, .int .i64 t.m.pol.nd, .int .i64 t.m.pol.bt], _]) = .returned (.tuple #[.agg t.cells.toArray, _])
          rw [HC.out]
          rfl
        · rw [List.getElem?_map, HT.out]
          rfl
        · have hk := HE.out.2.2
          refine ⟨HS.2.os.trans hk.os, HS.2.tape.trans hk.tape, HS.2.output.trans hk.output, Nat.le_trans hk.size HS.2.size, fun x hx hF => (HS.2.block x (Nat.lt_of_lt_of_le hx hk.size) (fun e => ?_)).trans (hk.block x hx hF)⟩
          have := List.mem_singleton.1 e
          omega
      · have hcn : ¬ k + 1 = c := fun e => hcj e.symm
        have HT2 : Hid (∀ wx : World, Below w2.heap.size w2 wx → MRow wx (.slice (some ⟨b, off + (k + 1) * 15, none⟩) (N - (k + 1)) (c - (k + 1))) (ts.drop (k + 1))) := hide (fun wx hb => by
          have h := (HR.out.below (bel2 B2.out hb)).row
          rw [← HN.out] at h
          exact h.drop (k + 1) (by rw [← HN.out]; omega))
        refine wp_region_until (m := 19) (S := (fun wx => wx.cell? ⟨rb, 0, none⟩ = some (.slice (some ⟨b, off, none⟩) N c) ∧ wx.frozen? ⟨rb, 0, none⟩ = false)) (by kernel_rfl) (SK.out _ ((Below.refl _ _).drew)) (fun hHeld => ?_)
        obtain ⟨wd, hwd⟩ : ∃ z, z = w2.drew := ⟨_, rfl⟩
        have BE : Hid (Below w2.heap.size w2 wd) := hide (by rw [hwd]; exact (Below.refl _ _).drew)
        rw [← hwd] at hHeld ⊢
        clear hwd
        refine wpU_at (i := 0) (v := ?vqa0) (a1 := ?xqa0) rfl (by kernel_rfl) (by kernel_rfl) (by kernel_rfl) (by kernel_rfl) (fun _ _ _ h => h) (Or.inl ⟨by rfl, ?yqa0⟩) (by assumption) ?hqa0 ?zqa0
        case yqa0 => (intro w hSw; (try dsimp only at hSw); go_simp; try (with_reducible rfl))
        case hqa0 => (go_simp; exact rfl)
        case zqa0 =>
        refine wpU_at (i := 2) (v := ?vqa2) (a1 := ?xqa2) rfl (by kernel_rfl) (by kernel_rfl) (by kernel_rfl) (by kernel_rfl) (fun _ _ _ h => h) (Or.inl ⟨by rfl, ?yqa2⟩) (by assumption) ?hqa2 ?zqa2
        case yqa2 => (intro w hSw; (try dsimp only at hSw); go_simp; try (with_reducible rfl))
        case hqa2 => (go_simp; exact rfl)
        case zqa2 =>
        refine wpU_at (i := 3) (v := ?vqa3) (a1 := ?xqa3) rfl (by kernel_rfl) (by kernel_rfl) (by kernel_rfl) (by kernel_rfl) (fun _ _ _ h => h) (Or.inl ⟨by rfl, ?yqa3⟩) (by assumption) ?hqa3 ?zqa3
        case yqa3 => (intro w hSw; (try dsimp only at hSw); go_simp; try (with_reducible rfl))
        case hqa3 => (go_simp; exact rfl)
        case zqa3 =>
        refine wpU_at (i := 4) (v := ?vqa4) (a1 := ?xqa4) rfl (by kernel_rfl) (by kernel_rfl) (by kernel_rfl) (by kernel_rfl) (fun _ _ _ h => h) (Or.inl ⟨by rfl, ?yqa4⟩) (by assumption) ?hqa4 ?zqa4
        case yqa4 => (intro w hSw; (try dsimp only at hSw); go_simp; try (with_reducible rfl))
        case hqa4 => (go_simp; exact rfl)
        case zqa4 =>
        refine wpU_at (i := 5) (v := ?vqa5) (a1 := ?xqa5) rfl (by kernel_rfl) (by kernel_rfl) (by kernel_rfl) (by kernel_rfl) (fun _ _ _ h => h) (Or.inl ⟨by rfl, ?yqa5⟩) (by assumption) ?hqa5 ?zqa5
        case yqa5 => (intro w hSw; (try dsimp only at hSw); go_simp; try (with_reducible rfl))
        case hqa5 => (go_simp; exact rfl)
        case zqa5 =>
        refine wpU_at (i := 6) (v := ?vqa6) (a1 := ?xqa6) rfl (by kernel_rfl) (by kernel_rfl) (by kernel_rfl) (by kernel_rfl) (fun _ _ _ h => h) (Or.inl ⟨by rfl, ?yqa6⟩) (by assumption) ?hqa6 ?zqa6
        case yqa6 => (intro w hSw; (try dsimp only at hSw); go_simp; try (with_reducible rfl))
        case hqa6 => (go_simp; exact rfl)
        case zqa6 =>
        refine wpU_at (i := 7) (v := ?vqa7) (a1 := ?xqa7) rfl (by kernel_rfl) (by kernel_rfl) (by kernel_rfl) (by kernel_rfl) (fun _ _ _ h => h) (Or.inl ⟨by rfl, ?yqa7⟩) (by assumption) ?hqa7 ?zqa7
        case yqa7 => (intro w hSw; (try dsimp only at hSw); go_simp; try (with_reducible rfl))
        case hqa7 => (go_simp; exact rfl)
        case zqa7 =>
        refine wpU_at (i := 9) (v := ?vqa9) (a1 := ?xqa9) rfl (by kernel_rfl) (by kernel_rfl) (by kernel_rfl) (by kernel_rfl) (fun _ _ _ h => h) (Or.inl ⟨by rfl, ?yqa9⟩) (by assumption) ?hqa9 ?zqa9
        case yqa9 => (intro w hSw; (try dsimp only at hSw); go_simp; try (with_reducible rfl))
        case hqa9 => (go_simp; exact rfl)
        case zqa9 =>
        refine wpU_at (i := 10) (v := ?vqa10) (a1 := ?xqa10) rfl (by kernel_rfl) (by kernel_rfl) (by kernel_rfl) (by kernel_rfl) (fun _ _ _ h => h) (Or.inl ⟨by rfl, ?yqa10⟩) (by assumption) ?hqa10 ?zqa10
        case yqa10 => (intro w hSw; (try dsimp only at hSw); go_simp; try (with_reducible rfl))
        case hqa10 => (go_simp; exact rfl)
        case zqa10 =>
        refine wpU_at (i := 11) (v := ?vqa11) (a1 := ?xqa11) rfl (by kernel_rfl) (by kernel_rfl) (by kernel_rfl) (by kernel_rfl) (fun _ _ _ h => h) (Or.inl ⟨by rfl, ?yqa11⟩) (by assumption) ?hqa11 ?zqa11
        case yqa11 => (intro w hSw; (try dsimp only at hSw); go_simp; try (with_reducible rfl))
        case hqa11 => (go_simp; exact rfl)
        case zqa11 =>
        refine wpU_at (i := 12) (v := ?vqa12) (a1 := ?xqa12) rfl (by kernel_rfl) (by kernel_rfl) (by kernel_rfl) (by kernel_rfl) (fun _ _ _ h => h) (Or.inl ⟨by rfl, ?yqa12⟩) (by assumption) ?hqa12 ?zqa12
        case yqa12 => (intro w hSw; (try dsimp only at hSw); go_simp; try (with_reducible rfl))
        case hqa12 => (go_simp; exact rfl)
        case zqa12 =>
        refine wpU_at (i := 13) (v := ?vqa13) (a1 := ?xqa13) rfl (by kernel_rfl) (by kernel_rfl) (by kernel_rfl) (by kernel_rfl) (fun _ _ _ h => h) (Or.inl ⟨by rfl, ?yqa13⟩) (by assumption) ?hqa13 ?zqa13
        case yqa13 => (intro w hSw; (try dsimp only at hSw); go_simp; try (with_reducible rfl))
        case hqa13 => (go_simp; exact rfl)
        case zqa13 =>
        refine wpU_at (i := 14) (v := ?vqa14) (a1 := ?xqa14) rfl (by kernel_rfl) (by kernel_rfl) (by kernel_rfl) (by kernel_rfl) (fun _ _ _ h => h) (Or.inl ⟨by rfl, ?yqa14⟩) (by assumption) ?hqa14 ?zqa14
        case yqa14 => (intro w hSw; (try dsimp only at hSw); go_simp; try (with_reducible rfl))
        case hqa14 => (go_simp; exact rfl)
        case zqa14 =>
        refine wpU_at (i := 15) (v := ?vqa15) (a1 := ?xqa15) rfl (by kernel_rfl) (by kernel_rfl) (by kernel_rfl) (by kernel_rfl) (fun _ _ _ h => h) (Or.inl ⟨by rfl, ?yqa15⟩) (by assumption) ?hqa15 ?zqa15
        case yqa15 => (intro w hSw; (try dsimp only at hSw); go_simp; try (with_reducible rfl))
        case hqa15 => (go_simp; exact rfl)
        case zqa15 =>
        refine wpU_ready (rs := [1]) (by kernel_rfl) (by simp) ?_
        refine AllU.cons (by decide) rfl (fun K hK => ?_) AllU.nil
        go_simp
        try go_wp2_with fail
        obtain ⟨wa1, hwa1⟩ : ∃ z, z = wd.alloc (.cells #[] 35) := ⟨_, rfl⟩
        have Bz1 : Hid (Below w2.heap.size w2 wa1) := hide (by rw [hwa1]; exact bel_alloc BE.out _)
        have Oz1 : Hid (wa1.ownsRow w2.heap.size 35 15 (.slice (some ⟨wd.heap.size, 0, none⟩) 0 0) 0 (mflat [])) := hide (by rw [hwa1]; exact mown_empty _ _ BE.out.size)
        try rw [← hwa1]
        clear hwa1
        refine hK.out _ _ (SK.out _ Bz1.out) (fun hHeld2 => ?_)
        clear hK K hHeld
        have hHeld := hHeld2
        clear hHeld2
        refine wpU_ready (rs := [8]) (by kernel_rfl) (by simp) ?_
        refine AllU.cons (by decide) rfl (fun K hK => ?_) AllU.nil
        refine mstep_wanted rfl (mwp_rows _ _ rfl w2.heap.size _ 0 [] rfl Oz1.out _ (ts.take k) rfl (HT1.out _ Bz1.out) (by have := LT.out;  have := HL1.out.1; omega) Bz1.out.size ?_)
        intro v2 wz2 ho2 hg2 hf2
        obtain ⟨nn2, hnn2⟩ : ∃ z, z = 0 + ((ts.take k) : List Im).length := ⟨_, rfl⟩
        rw [← hnn2] at ho2
        obtain ⟨pz2, cz2, rfl, -⟩ := own_shape ho2
        have Bz2 : Hid (Below w2.heap.size w2 wz2) := hide (Bz1.out.grown hg2 Bz1.out.size (fun j hj => (Oz1.out.lt j hj).1))
        have Oz2 : Hid (wz2.ownsRow w2.heap.size 35 15 (.slice pz2 nn2 cz2) nn2 (mflat (ts.take k))) := hide ho2
        have Ez2 := hide hnn2
        clear ho2 hg2 hf2 hnn2
        try go_simp
        refine hK.out _ _ (SK.out _ Bz2.out) (fun hHeld2 => ?_)
        clear hK K hHeld
        have hHeld := hHeld2
        clear hHeld2
        refine wpU_ready (rs := [16]) (by kernel_rfl) (by simp) ?_
        refine AllU.cons (by decide) rfl (fun K hK => ?_) AllU.nil
        refine mstep_wanted rfl (mwp_rows _ _ rfl w2.heap.size _ nn2 (ts.take k) rfl Oz2.out _ (ts.drop (k + 1)) rfl (HT2.out _ Bz2.out) (by have := LT.out; have h30 := Ez2.out; have := HL1.out.1; have := HL1.out.2; omega) Bz2.out.size ?_)
        intro v3 wz3 ho3 hg3 hf3
        obtain ⟨nn3, hnn3⟩ : ∃ z, z = nn2 + ((ts.drop (k + 1)) : List Im).length := ⟨_, rfl⟩
        rw [← hnn3] at ho3
        obtain ⟨pz3, cz3, rfl, -⟩ := own_shape ho3
        have Bz3 : Hid (Below w2.heap.size w2 wz3) := hide (Bz2.out.grown hg3 Bz2.out.size (fun j hj => (Oz2.out.lt j hj).1))
        have Oz3 : Hid (wz3.ownsRow w2.heap.size 35 15 (.slice pz3 nn3 cz3) nn3 (mflat ((ts.take k) ++ (ts.drop (k + 1))))) := hide ho3
        have Ez3 := hide hnn3
        clear ho3 hg3 hf3 hnn3
        try go_simp
        refine hK.out _ _ (SK.out _ Bz3.out) (fun hHeld2 => ?_)
        clear hK K hHeld
        have hHeld := hHeld2
        clear hHeld2
        refine wpU_ready (rs := [17]) (by kernel_rfl) (by simp) ?_
        refine AllU.cons (by decide) rfl (fun K hK => ?_) AllU.nil
        go_simp
        try go_wp2_with fail
        refine hK.out _ _ (SK.out _ Bz3.out) (fun hHeld2 => ?_)
        clear hK K hHeld
        have hHeld := hHeld2
        clear hHeld2
        refine wpU_ready (rs := [18]) (by kernel_rfl) (by simp) ?_
        refine AllU.cons (by decide) rfl (fun K hK => ?_) AllU.nil
        go_simp
        try go_wp2_with fail
        refine hK.out _ _ (SK.out _ Bz3.out) (fun hHeld2 => ?_)
        clear hK K hHeld
        have hHeld := hHeld2
        clear hHeld2
        refine wpU_ready (rs := [19]) (by kernel_rfl) (by simp) ?_
        refine AllU.last rfl (fun K hK => ?_)
        go_simp
        try go_wp2_with fail
        refine hK.out _ _ ?_
        clear hK K
        refine wpAny_done (by kernel_rfl) ?_ _
        have HLL : (ts.take k ++ ts.drop (k + 1)).length = nn3 := by
          have q0 := Ez2.out
          have q1 := Ez3.out
          rw [List.length_append]
          have h1 := HL1.out
          omega
        have HE := hide (rb_store HR.out (bel2 B2.out Bz3.out) HLL (mown_base Oz3.out B2.out.size) (fun x hx => by
          rcases List.mem_append.1 hx with h | h
          · exact HR.out.k x (List.mem_of_mem_take h)
          · exact HR.out.k x (List.mem_of_mem_drop h)))
        obtain ⟨V, hV⟩ : ∃ V, V = (wz3.setCell ⟨rb, 0, none⟩ (.slice pz3 nn3 cz3)) := ⟨_, rfl⟩
        have hrb := HR.out.lt
        have ZV : Hid (V.heap[w.heap.size]? = some (.cells #[.int .i64 0, .int .i64 0, .int .i64 0, .int .i64 0, .slice none 0 0, .slice none 0 0, .int .i64 0, .slice none 0 0, .slice none 0 0, .slice none 0 0, .slice none 0 0, .slice none 0 0, .int .i64 0, .int .i64 0, .int .i64 0] 35 (0, 0)) ∧ V.heap[w.heap.size + 1]? = some (.cells #[.int .i64 t.m.kind, .int .i64 t.m.fr, .int .i64 t.m.to, .int .i64 t.m.ep, .slice pi ni ci, .slice pp np cp, .int .i64 t.m.pol.ep, .slice p1 n1 c1, .slice p2 n2 c2, .slice p3 n3 c3, .slice p4 n4 c4, .slice p5 n5 c5, .int .i64 t.m.pol.dp, .int .i64 t.m.pol.nd, .int .i64 t.m.pol.bt] 35 (0, 0))) := hide (by
          rw [hV]
          have hz := Z2.out
          have hb := Bz3.out
          exact ⟨(set_other (show w.heap.size ≠ rb by omega) _).trans ((hb.block _ (by omega)).trans hz.1), (set_other (show w.heap.size + 1 ≠ rb by omega) _).trans ((hb.block _ (by omega)).trans hz.2.1)⟩)
        have NB : Hid (∀ x ∈ rblk rb pz3, x ≠ w.heap.size) := hide (by
          intro x hx e
          unfold rblk at hx
          cases hp : pz3 with
          | none =>
            rw [hp] at hx
            have := List.mem_singleton.1 hx
            omega
          | some ad =>
            rw [hp] at hx
            rcases List.mem_cons.1 hx with h | h
            · omega
            · have h2 := List.mem_singleton.1 h
              have ho := Oz3.out
              rw [hp] at ho
              rcases ho.2 with ⟨e3, -⟩ | ⟨g, cap, cur, e3, hg3, -⟩
              · cases e3
              · injection e3 with e4
                injection e4 with e5
                rw [e5] at h2
                have hz := Z2.out.2.2
                simp only at h2
                omega)
        rw [← hV] at HE ⊢
        have HVV := hide hV
        clear hV HLL hHeld
        obtain ⟨y0, y1, y2, y3, y4, y5, y6, y7, y8, y9, y10, y11, y12, y13, y14⟩ : V.cell? ⟨w.heap.size + 1, 0, none⟩ = some (.int .i64 t.m.kind) ∧ V.cell? ⟨w.heap.size + 1, 1, none⟩ = some (.int .i64 t.m.fr) ∧ V.cell? ⟨w.heap.size + 1, 2, none⟩ = some (.int .i64 t.m.to) ∧ V.cell? ⟨w.heap.size + 1, 3, none⟩ = some (.int .i64 t.m.ep) ∧ V.cell? ⟨w.heap.size + 1, 4, none⟩ = some (.slice pi ni ci) ∧ V.cell? ⟨w.heap.size + 1, 5, none⟩ = some (.slice pp np cp) ∧ V.cell? ⟨w.heap.size + 1, 6, none⟩ = some (.int .i64 t.m.pol.ep) ∧ V.cell? ⟨w.heap.size + 1, 7, none⟩ = some (.slice p1 n1 c1) ∧ V.cell? ⟨w.heap.size + 1, 8, none⟩ = some (.slice p2 n2 c2) ∧ V.cell? ⟨w.heap.size + 1, 9, none⟩ = some (.slice p3 n3 c3) ∧ V.cell? ⟨w.heap.size + 1, 10, none⟩ = some (.slice p4 n4 c4) ∧ V.cell? ⟨w.heap.size + 1, 11, none⟩ = some (.slice p5 n5 c5) ∧ V.cell? ⟨w.heap.size + 1, 12, none⟩ = some (.int .i64 t.m.pol.dp) ∧ V.cell? ⟨w.heap.size + 1, 13, none⟩ = some (.int .i64 t.m.pol.nd) ∧ V.cell? ⟨w.heap.size + 1, 14, none⟩ = some (.int .i64 t.m.pol.bt) := ⟨tag_cell ZV.out.2 0 _ rfl, tag_cell ZV.out.2 1 _ rfl, tag_cell ZV.out.2 2 _ rfl, tag_cell ZV.out.2 3 _ rfl, tag_cell ZV.out.2 4 _ rfl, tag_cell ZV.out.2 5 _ rfl, tag_cell ZV.out.2 6 _ rfl, tag_cell ZV.out.2 7 _ rfl, tag_cell ZV.out.2 8 _ rfl, tag_cell ZV.out.2 9 _ rfl, tag_cell ZV.out.2 10 _ rfl, tag_cell ZV.out.2 11 _ rfl, tag_cell ZV.out.2 12 _ rfl, tag_cell ZV.out.2 13 _ rfl, tag_cell ZV.out.2 14 _ rfl⟩
        obtain ⟨z0, z1, z2, z3, z4, z5, z6, z7, z8, z9, z10, z11, z12, z13, z14⟩ : V.cell? ⟨w.heap.size, 0, none⟩ = some (.int .i64 0) ∧ V.cell? ⟨w.heap.size, 1, none⟩ = some (.int .i64 0) ∧ V.cell? ⟨w.heap.size, 2, none⟩ = some (.int .i64 0) ∧ V.cell? ⟨w.heap.size, 3, none⟩ = some (.int .i64 0) ∧ V.cell? ⟨w.heap.size, 4, none⟩ = some (.slice none 0 0) ∧ V.cell? ⟨w.heap.size, 5, none⟩ = some (.slice none 0 0) ∧ V.cell? ⟨w.heap.size, 6, none⟩ = some (.int .i64 0) ∧ V.cell? ⟨w.heap.size, 7, none⟩ = some (.slice none 0 0) ∧ V.cell? ⟨w.heap.size, 8, none⟩ = some (.slice none 0 0) ∧ V.cell? ⟨w.heap.size, 9, none⟩ = some (.slice none 0 0) ∧ V.cell? ⟨w.heap.size, 10, none⟩ = some (.slice none 0 0) ∧ V.cell? ⟨w.heap.size, 11, none⟩ = some (.slice none 0 0) ∧ V.cell? ⟨w.heap.size, 12, none⟩ = some (.int .i64 0) ∧ V.cell? ⟨w.heap.size, 13, none⟩ = some (.int .i64 0) ∧ V.cell? ⟨w.heap.size, 14, none⟩ = some (.int .i64 0) := ⟨tag_cell ZV.out.1 0 _ rfl, tag_cell ZV.out.1 1 _ rfl, tag_cell ZV.out.1 2 _ rfl, tag_cell ZV.out.1 3 _ rfl, tag_cell ZV.out.1 4 _ rfl, tag_cell ZV.out.1 5 _ rfl, tag_cell ZV.out.1 6 _ rfl, tag_cell ZV.out.1 7 _ rfl, tag_cell ZV.out.1 8 _ rfl, tag_cell ZV.out.1 9 _ rfl, tag_cell ZV.out.1 10 _ rfl, tag_cell ZV.out.1 11 _ rfl, tag_cell ZV.out.1 12 _ rfl, tag_cell ZV.out.1 13 _ rfl, tag_cell ZV.out.1 14 _ rfl⟩
        obtain ⟨f0, f1, f2, f3, f4, f5, f6, f7, f8, f9, f10, f11, f12, f13, f14⟩ : V.frozen? ⟨w.heap.size, 0, none⟩ = false ∧ V.frozen? ⟨w.heap.size, 1, none⟩ = false ∧ V.frozen? ⟨w.heap.size, 2, none⟩ = false ∧ V.frozen? ⟨w.heap.size, 3, none⟩ = false ∧ V.frozen? ⟨w.heap.size, 4, none⟩ = false ∧ V.frozen? ⟨w.heap.size, 5, none⟩ = false ∧ V.frozen? ⟨w.heap.size, 6, none⟩ = false ∧ V.frozen? ⟨w.heap.size, 7, none⟩ = false ∧ V.frozen? ⟨w.heap.size, 8, none⟩ = false ∧ V.frozen? ⟨w.heap.size, 9, none⟩ = false ∧ V.frozen? ⟨w.heap.size, 10, none⟩ = false ∧ V.frozen? ⟨w.heap.size, 11, none⟩ = false ∧ V.frozen? ⟨w.heap.size, 12, none⟩ = false ∧ V.frozen? ⟨w.heap.size, 13, none⟩ = false ∧ V.frozen? ⟨w.heap.size, 14, none⟩ = false := ⟨cell_free ZV.out.1 0, cell_free ZV.out.1 1, cell_free ZV.out.1 2, cell_free ZV.out.1 3, cell_free ZV.out.1 4, cell_free ZV.out.1 5, cell_free ZV.out.1 6, cell_free ZV.out.1 7, cell_free ZV.out.1 8, cell_free ZV.out.1 9, cell_free ZV.out.1 10, cell_free ZV.out.1 11, cell_free ZV.out.1 12, cell_free ZV.out.1 13, cell_free ZV.out.1 14⟩
        go_wp2_with fail
        have HS := set15 (.int .i64 t.m.kind) (.int .i64 t.m.fr) (.int .i64 t.m.to) (.int .i64 t.m.ep) (.slice pi ni ci) (.slice pp np cp) (.int .i64 t.m.pol.ep) (.slice p1 n1 c1) (.slice p2 n2 c2) (.slice p3 n3 c3) (.slice p4 n4 c4) (.slice p5 n5 c5) (.int .i64 t.m.pol.dp) (.int .i64 t.m.pol.nd) (.int .i64 t.m.pol.bt) ZV.out.1
        refine bodyPost_ret (results_row_tmpD rfl _ _ w.heap.size 35 #[.int .i64 t.m.kind, .int .i64 t.m.fr, .int .i64 t.m.to, .int .i64 t.m.ep, .slice pi ni ci, .slice pp np cp, .int .i64 t.m.pol.ep, .slice p1 n1 c1, .slice p2 n2 c2, .slice p3 n3 c3, .slice p4 n4 c4, .slice p5 n5 c5, .int .i64 t.m.pol.dp, .int .i64 t.m.pol.nd, .int .i64 t.m.pol.bt] (0, 0) _ rfl HS.1 Tryz.underlying35 rfl (by kernel_rfl)) rfl ?_
        have hsz := HE.out.1.bw.size
        have hlo := HR.out.bw.size
        have BW := HE.out.1.bw.trans (HS.2.below (base := W0.heap.size) (fun x hx => by rw [List.mem_singleton.1 hx]; exact hlo) hsz)
        refine ⟨⟨t, true, ts.take k ++ ts.drop (k + 1), pz3, cz3, ?_, HTK.out.below BW, .inr ⟨rfl, k, rfl, ?_, HER.out⟩, HE.out.1.stay BW (fun x hx => HS.2.block x (HE.out.1.blk x hx).2 (fun e => NB.out x hx (List.mem_singleton.1 e))), HE.out.2.1⟩, ?_⟩
        · show Ending.returned (.tuple #[.agg #[.int .i64 t.m.kind, .int .i64 t.m.fr, .int .i64 t.m.to, .int .i64 t.m.ep, .slice pi ni ci, .slice pp np cp, .int .i64 t.m.pol.ep, .slice p1 n1 c1, .slice p2 n2 c2, .slice p3 n3 c3, .slice p4 n4 c4, .slice p5 n5 c5, .int .i64 t.m.pol.dp, .int .i64 t.m.pol.nd, .int .i64 t.m.pol.bt], _]) = .returned (.tuple #[.agg t.cells.toArray, _])
          rw [HC.out]
          rfl
        · rw [List.getElem?_map, HT.out]
          rfl
        · have hk := HE.out.2.2
          refine ⟨HS.2.os.trans hk.os, HS.2.tape.trans hk.tape, HS.2.output.trans hk.output, Nat.le_trans hk.size HS.2.size, fun x hx hF => (HS.2.block x (Nat.lt_of_lt_of_le hx hk.size) (fun e => ?_)).trans (hk.block x hx hF)⟩
          have := List.mem_singleton.1 e
          omega
end Go.Proofs.YtmogplecohkjcaaGreatDoor

namespace Go.Proofs.YtmogplecohkjcaaGreatDoor
open Go.RowKit
open Utf1
open Pol8 hiding text right Right
open Msg15 Mail17

set_option maxRecDepth 100000 in
set_option maxHeartbeats 16000000 in
theorem rtwice_any (W0 : World) (rb : Nat) (ts : List Im) (p : Option Addr) (c : Nat) (n : Int) (w : World) (h : RB W0 w rb ts p c) (hf : Fine (ts.map Im.m)) :
    Calls Tryz.prog 17 #[.pointer (some ⟨rb, 0, none⟩), .int .i64 n] w fun e w' => RPut W0 w rb (rblk rb p) (TwiceR (ts.map Im.m) n) e w' := by
  have HR := hide h
  have HF := hide hf
  obtain ⟨N, hN⟩ : ∃ N, N = ts.length := ⟨_, rfl⟩
  have c0 : w.cell? ⟨rb, 0, none⟩ = some (.slice p N c) := by rw [hN]; exact tag_cell h.b 0 _ rfl
  have HN := hide hN
  clear h hf hN
  go_enter Tryz.func17, Tryz.ntmps17
  by_cases h0 : n < 0
  · have d0 : decide (n < 0) = true := decide_eq_true h0
    go_wp2_with fail
    go_ret
    exact ⟨⟨8, ts, p, c, rfl, .inl ⟨.inl h0, rfl, rfl⟩, HR.out, Near.refl _ _⟩, keep_of (Below.refl _ _)⟩
  · have d0 : decide (n < 0) = false := decide_eq_false h0
    by_cases h1 : (N : Int) ≤ n
    · have d1 : decide ((N : Int) ≤ n) = true := decide_eq_true h1
      go_wp2_with fail
      go_ret
      exact ⟨⟨8, ts, p, c, rfl, .inl ⟨.inr (by rw [List.length_map, ← HN.out]; exact h1), rfl, rfl⟩, HR.out, Near.refl _ _⟩, keep_of (Below.refl _ _)⟩
    · obtain ⟨k, rfl⟩ : ∃ k : Nat, n = (k : Int) := ⟨n.toNat, by omega⟩
      have hkN : k < N := by omega
      have d1 : decide ((N : Int) ≤ (k : Int)) = false := decide_eq_false (by omega)
      obtain ⟨t, ht⟩ : ∃ t, ts[k]? = some t := ⟨_, List.getElem?_eq_getElem (by have := HN.out; omega)⟩
      have hrow := HR.out.row
      rw [← HN.out] at hrow
      obtain ⟨b, off, rfl, hrg, htok⟩ := hrow.at ht
      obtain ⟨y0, y1, y2, y3, y4, y5, y6, y7, y8, y9, y10, y11, y12, y13, y14⟩ := fifteen hrg
      have CP := hide (rput_any W0 rb ts (some ⟨b, off, none⟩) c t w HR.out HF.out (HR.out.k t (List.mem_of_getElem? ht)))
      have HT := hide ht
      clear ht hrow hrg htok
      go_wp2_with fail
      refine CP.out.mono ?_
      rintro e w' ⟨⟨cd, ts', p', c', rfl, hp, hr, hn⟩, hk⟩
      have H := hide (And.intro hp (And.intro hr (And.intro hn hk)))
      clear hp hr hn hk CP y0 y1 y2 y3 y4 y5 y6 y7 y8 y9 y10 y11 y12 y13 y14
      go_wp2_with fail
      go_ret
      exact ⟨⟨cd, ts', p', c', rfl, .inr ⟨k, t.m, rfl, by rw [List.getElem?_map, HT.out]; rfl, H.out.1⟩, H.out.2.1, H.out.2.2.1⟩, H.out.2.2.2⟩
end Go.Proofs.YtmogplecohkjcaaGreatDoor
