/-
  The writer of fields within a letter: text, number, all; the letter's head.
-/
import Derived.Test.YtmogplecohkjcaaGreatDoorME3
import Derived.Test.YtmogplecohkjcaaGreatDoorME2Z
import Derived.Test.YtmogplecohkjcaaGreatDoorHR
import Derived.Test.YtmogplecohkjcaaGreatDoorDVH
import Derived.RegionTactic
namespace Go.Proofs.YtmogplecohkjcaaGreatDoor
open Go.RowKit
open Utf1
open Pol8 hiding text right Right
open Msg15

theorem eown_below {w w1 : World} {base : Nat} {e : TypeId} {size : Nat} {v : Value} {n : Nat} {xs : List Value} (h : w.ownsRow base e size v n xs) (hb : Below w.heap.size w w1) : w1.ownsRow base e size v n xs := by
  refine h.kept (below_grown hb) ?_
  cases hv : v.ownBlock with
  | none => exact .inl rfl
  | some g => exact .inr (by simp)
theorem LWa.keep {w w' : World} {base B : Nat} {a : Nat → Value} {pa : Value} {acc : L} (h : LWa w base B a pa acc) (hb : Below w.heap.size w w') : LWa w' base B a pa acc := by
  obtain ⟨bv, h1, h2⟩ := h
  exact ⟨bv, (hb.block B (Array.getElem?_eq_some_iff.1 h1).1).trans h1, eown_below h2 hb⟩
theorem LW.keep {S w0 w w' : World} {B : Nat} {a : Nat → Value} {acc : L} (h : LW S w0 w B a acc) (hb : Below w.heap.size w w') : LW S w0 w' B a acc := by
  obtain ⟨h1, h2, h3⟩ := h
  refine ⟨h1, ⟨h2.1.trans (hb.mono h2.1.size), h2.2.below hb⟩, ?_⟩
  rcases h3 with h3 | h3
  · exact .inl (h3.keep hb)
  · exact .inr (h3.keep hb)
theorem LW.cell {S w0 w : World} {B : Nat} {a : Nat → Value} {acc : L} (h : LW S w0 w B a acc) (i : Nat) (hi : i < 15) : w.cell? ⟨B, i + 2, none⟩ = some (a i) := by
  obtain ⟨pa, bv, hb⟩ : ∃ pa bv, LB w B a pa bv := by
    rcases h.2.2 with ⟨bv, h1, _⟩ | ⟨bv, h1, _⟩
    · exact ⟨_, _, h1⟩
    · exact ⟨_, _, h1⟩
  refine tag_cell hb (i + 2) (a i) ?_
  match i, hi with
  | 0, _ => rfl
  | 1, _ => rfl
  | 2, _ => rfl
  | 3, _ => rfl
  | 4, _ => rfl
  | 5, _ => rfl
  | 6, _ => rfl
  | 7, _ => rfl
  | 8, _ => rfl
  | 9, _ => rfl
  | 10, _ => rfl
  | 11, _ => rfl
  | 12, _ => rfl
  | 13, _ => rfl
  | 14, _ => rfl

set_option maxRecDepth 100000 in
set_option maxHeartbeats 8000000 in
theorem etext_any (S w0 w : World) (B : Nat) (a : Nat → Value) (acc : L) (s : ByteArray) (h : LW S w0 w B a acc) (hg : Glob w0) (hs : s.size ≤ 1000000) (hl : acc.length ≤ 10000000) :
    Calls Tryz.prog 75 #[.pointer (some ⟨B, 0, none⟩), .string s] w fun e w' => e = .returned (.tuple #[]) ∧ LW S w0 w' B a (acc ++ fld (bl s)) := by
  obtain ⟨D, hD⟩ : ∃ D : ByteArray, D = ⟨(dec s.size).toArray⟩ := ⟨_, rfl⟩
  have hDb : bl D = dec s.size := by rw [hD]
  have hDs : D.size ≤ 10 := by
    rw [← bl_len, hDb]
    exact dec_len s.size 9 (by omega)
  have CI : Hid (∀ wx, LW S w0 wx B a acc → Calls Tryz.prog 88 #[.int .i64 (s.size : Int)] wx fun e w' => e = .returned (.string D) ∧ LW S w0 w' B a acc) := hide (fun wx hx => by
    rw [hD]
    exact (eitoa_any s.size (by omega) wx (hg.below hx.2.1.1)).mono fun e w' ⟨h1, h2⟩ => ⟨h1, hx.keep h2⟩)
  have HW := hide h
  have C1 : Hid (∀ wx, LW S w0 wx B a acc → Calls Tryz.prog 89 #[.pointer (some ⟨B, 0, none⟩), .string D] wx fun e w' => e = .returned (.tuple #[.int .i64 (D.size : Int), .nilIface]) ∧ LW S w0 w' B a (acc ++ bl D)) := hide (fun wx hx => lws_any S w0 wx B a acc D hx (by omega))
  have hl1 : (acc ++ bl D).length ≤ 10000010 := by rw [List.length_append, bl_len]; omega
  have C2 : Hid (∀ wx, LW S w0 wx B a (acc ++ bl D) → Calls Tryz.prog 90 #[.pointer (some ⟨B, 0, none⟩), .int .u8 58] wx fun e w' => e = .returned .nilIface ∧ LW S w0 w' B a (acc ++ bl D ++ [58])) := hide (fun wx hx => lwb_any S w0 wx B a _ 58 58 rfl hx (by omega))
  have hl2 : (acc ++ bl D ++ [58]).length ≤ 10000011 := by rw [List.length_append]; simp only [List.length_singleton]; omega
  have C3 : Hid (∀ wx, LW S w0 wx B a (acc ++ bl D ++ [58]) → Calls Tryz.prog 89 #[.pointer (some ⟨B, 0, none⟩), .string s] wx fun e w' => e = .returned (.tuple #[.int .i64 (s.size : Int), .nilIface]) ∧ LW S w0 w' B a (acc ++ bl D ++ [58] ++ bl s)) := hide (fun wx hx => lws_any S w0 wx B a _ s hx (by omega))
  have hl3 : (acc ++ bl D ++ [58] ++ bl s).length ≤ 11000011 := by rw [List.length_append, bl_len]; omega
  have C4 : Hid (∀ wx, LW S w0 wx B a (acc ++ bl D ++ [58] ++ bl s) → Calls Tryz.prog 90 #[.pointer (some ⟨B, 0, none⟩), .int .u8 44] wx fun e w' => e = .returned .nilIface ∧ LW S w0 w' B a (acc ++ fld (bl s))) := hide (fun wx hx => by
    have := lwb_any S w0 wx B a _ 44 44 rfl hx (by omega)
    have e : acc ++ bl D ++ [58] ++ bl s ++ [44] = acc ++ fld (bl s) := by
      rw [hDb]
      unfold fld
      rw [bl_len]
      simp
    rw [e] at this
    exact this)
  clear h hg hl hl1 hl2 hl3 hDb hDs hD
  go_enter Tryz.func75, Tryz.ntmps75
  go_wp2_with fail
  refine wp_region_held_drew (S := (fun _ => True)) (by kernel_rfl) (trivial) (fun hHeld => ?_)
  refine wpAnyH_at (i := 0) (v := ?va0) (a1 := ?xa0) rfl (by kernel_rfl) (by kernel_rfl) (by kernel_rfl) (fun _ _ _ h => h) (Or.inl ⟨by rfl, ?ya0⟩) (by assumption) ?ha0 ?za0
  case ya0 => (intro w hSw; (try dsimp only at hSw); go_simp; try (with_reducible rfl))
  case ha0 => (go_simp; exact rfl)
  case za0 =>
  refine wpAnyH_at (i := 1) (v := ?va1) (a1 := ?xa1) rfl (by kernel_rfl) (by kernel_rfl) (by kernel_rfl) (fun _ _ _ h => h) (Or.inl ⟨by rfl, ?ya1⟩) (by assumption) ?ha1 ?za1
  case ya1 => (intro w hSw; (try dsimp only at hSw); go_simp; try (with_reducible rfl))
  case ha1 => (go_simp; exact rfl)
  case za1 =>
  refine wpAnyH_at (i := 2) (v := ?va2) (a1 := ?xa2) rfl (by kernel_rfl) (by kernel_rfl) (by kernel_rfl) (fun _ _ _ h => h) (Or.inl ⟨by rfl, ?ya2⟩) (by assumption) ?ha2 ?za2
  case ya2 => (intro w hSw; (try dsimp only at hSw); go_simp; try (with_reducible rfl))
  case ha2 => (go_simp; exact rfl)
  case za2 =>
  refine wpAnyH_at (i := 3) (v := ?va3) (a1 := ?xa3) rfl (by kernel_rfl) (by kernel_rfl) (by kernel_rfl) (fun _ _ _ h => h) (Or.inl ⟨by rfl, ?ya3⟩) (by assumption) ?ha3 ?za3
  case ya3 => (intro w hSw; (try dsimp only at hSw); go_simp; try (with_reducible rfl))
  case ha3 => (go_simp; exact rfl)
  case za3 =>
  refine wpAnyH_ready (rs := [4]) (by kernel_rfl) (by simp) ?_
  refine AllReadyH.cons rfl (fun K hK => ?_) AllReadyH.nil
  go_simp
  try go_wp2_with fail
  refine hK.out _ _ (trivial) (fun hHeld2 => ?_)
  clear hK K hHeld
  have hHeld := hHeld2
  clear hHeld2
  refine wpAnyH_ready (rs := [5]) (by kernel_rfl) (by simp) ?_
  refine AllReadyH.cons rfl (fun K hK => ?_) AllReadyH.nil
  go_simp
  refine (CI.out _ (HW.out.keep ((Below.refl _ _).drew))).mono ?_
  rintro e x1 ⟨rfl, k1⟩
  have K1 := hide k1
  clear k1
  try go_wp2_with fail
  refine hK.out _ _ (trivial) (fun hHeld2 => ?_)
  clear hK K hHeld
  have hHeld := hHeld2
  clear hHeld2
  refine wpAnyH_ready (rs := [6]) (by kernel_rfl) (by simp) ?_
  refine AllReadyH.cons rfl (fun K hK => ?_) AllReadyH.nil
  go_simp
  refine (C1.out _ K1.out).mono ?_
  rintro e x2 ⟨rfl, k2⟩
  have K2 := hide k2
  clear k2
  try go_wp2_with fail
  refine hK.out _ _ (trivial) (fun hHeld2 => ?_)
  clear hK K hHeld
  have hHeld := hHeld2
  clear hHeld2
  refine wpAnyH_done (by kernel_rfl) ?_ _
  clear CI C1 HW K1
  go_wp2_with fail
  refine (C2.out _ K2.out).mono ?_
  rintro e x3 ⟨rfl, k3⟩
  have K3 := hide k3
  clear k3 C2 K2
  go_wp2_with fail
  refine (C3.out _ K3.out).mono ?_
  rintro e x4 ⟨rfl, k4⟩
  have K4 := hide k4
  clear k4 C3 K3
  go_wp2_with fail
  refine (C4.out _ K4.out).mono ?_
  rintro e x5 ⟨rfl, k5⟩
  have K5 := hide k5
  clear k5
  go_wp2_with fail
  clear C4 K4
  go_end0
  exact ⟨rfl, K5.out⟩

set_option maxRecDepth 100000 in
set_option maxHeartbeats 8000000 in
theorem enumber_any (S w0 w : World) (B : Nat) (a : Nat → Value) (acc : L) (n : Nat) (h : LW S w0 w B a acc) (hg : Glob w0) (hn : n ≤ 1000000) (hl : acc.length ≤ 10000000) :
    Calls Tryz.prog 74 #[.pointer (some ⟨B, 0, none⟩), .int .i64 (n : Int)] w fun e w' => e = .returned (.tuple #[]) ∧ LW S w0 w' B a (acc ++ fld (dec n)) := by
  obtain ⟨D, hD⟩ : ∃ D : ByteArray, D = ⟨(dec n).toArray⟩ := ⟨_, rfl⟩
  have hDb : bl D = dec n := by rw [hD]
  have hDs : D.size ≤ 10 := by
    rw [← bl_len, hDb]
    exact dec_len n 9 (by omega)
  have C1 : Hid (∀ wx, LW S w0 wx B a acc → Calls Tryz.prog 88 #[.int .i64 (n : Int)] wx fun e w' => e = .returned (.string D) ∧ LW S w0 w' B a acc) := hide (fun wx hx => by
    rw [hD]
    exact (eitoa_any n (by omega) wx (hg.below hx.2.1.1)).mono fun e w' ⟨h1, h2⟩ => ⟨h1, hx.keep h2⟩)
  have C2 : Hid (∀ wx, LW S w0 wx B a acc → Calls Tryz.prog 75 #[.pointer (some ⟨B, 0, none⟩), .string D] wx fun e w' => e = .returned (.tuple #[]) ∧ LW S w0 w' B a (acc ++ fld (dec n))) := hide (fun wx hx => by
    have := etext_any S w0 wx B a acc D hx hg (by omega) hl
    rw [hDb] at this
    exact this)
  have HW := hide h
  clear h hg hl hDb hDs hD
  go_enter Tryz.func74, Tryz.ntmps74
  go_wp2_with fail
  refine (C1.out _ HW.out).mono ?_
  rintro e x1 ⟨rfl, k1⟩
  have K1 := hide k1
  clear k1 C1 HW
  go_wp2_with fail
  refine (C2.out _ K1.out).mono ?_
  rintro e x2 ⟨rfl, k2⟩
  have K2 := hide k2
  clear k2 C2 K1
  go_wp2_with fail
  go_end0
  exact ⟨rfl, K2.out⟩

set_option maxRecDepth 100000 in
theorem eall_any (S w0 w : World) (B : Nat) (a : Nat → Value) (t : L) (h : LW S w0 w B a t) (h0 : t ≠ []) :
    Calls Tryz.prog 61 #[.pointer (some ⟨B, 0, none⟩)] w fun e w' => e = .returned (.string ⟨t.toArray⟩) ∧ Below w0.heap.size w0 w' := by
  have C1 := hide (lstring_any S w0 w B a t h h0)
  clear h h0
  generalize (⟨t.toArray⟩ : ByteArray) = T at C1 ⊢
  go_enter Tryz.func61, Tryz.ntmps61
  go_wp2_with fail
  refine C1.out.mono ?_
  rintro e w1 ⟨rfl, hb⟩
  have HB := hide hb
  clear hb C1
  go_wp2_with fail
  go_ret
  exact ⟨rfl, HB.out⟩

set_option maxRecDepth 100000 in
set_option maxHeartbeats 16000000 in
theorem ehead_any (S w0 w : World) (B : Nat) (a : Nat → Value) (k f t p : Nat) (hk : k ≤ 1000000) (hf : f ≤ 1000000) (ht : t ≤ 1000000) (hp : p ≤ 1000000) (h : LW S w0 w B a []) (hg : Glob w0) (a0 : a 0 = .int .i64 (k : Int)) (a1 : a 1 = .int .i64 (f : Int)) (a2 : a 2 = .int .i64 (t : Int)) (a3 : a 3 = .int .i64 (p : Int)) :
    Calls Tryz.prog 59 #[.pointer (some ⟨B, 0, none⟩)] w fun e w' => e = .returned (.tuple #[]) ∧ LW S w0 w' B a (flds [dec k, dec f, dec t, dec p]) := by
  have hfl : ∀ n : Nat, n ≤ 1000000 → (fld (dec n)).length ≤ 100 := fun n hn => by
    unfold fld
    have h1 := dec_len n 6 (by omega)
    have h2 := dec_len (dec n).length 6 (by omega)
    simp
    omega
  have h1 := hfl k hk
  have h2 := hfl f hf
  have h3 := hfl t ht
  have C1 : Hid (∀ wx, LW S w0 wx B a [] → Calls Tryz.prog 74 #[.pointer (some ⟨B, 0, none⟩), .int .i64 (k : Int)] wx fun e w' => e = .returned (.tuple #[]) ∧ LW S w0 w' B a (fld (dec k))) := hide (fun wx hx => enumber_any S w0 wx B a [] k hx hg hk (by simp))
  have C2 : Hid (∀ wx, LW S w0 wx B a (fld (dec k)) → Calls Tryz.prog 74 #[.pointer (some ⟨B, 0, none⟩), .int .i64 (f : Int)] wx fun e w' => e = .returned (.tuple #[]) ∧ LW S w0 w' B a (fld (dec k) ++ fld (dec f))) := hide (fun wx hx => enumber_any S w0 wx B a _ f hx hg hf (by omega))
  have C3 : Hid (∀ wx, LW S w0 wx B a (fld (dec k) ++ fld (dec f)) → Calls Tryz.prog 74 #[.pointer (some ⟨B, 0, none⟩), .int .i64 (t : Int)] wx fun e w' => e = .returned (.tuple #[]) ∧ LW S w0 w' B a (fld (dec k) ++ fld (dec f) ++ fld (dec t))) := hide (fun wx hx => enumber_any S w0 wx B a _ t hx hg ht (by rw [List.length_append]; omega))
  have C4 : Hid (∀ wx, LW S w0 wx B a (fld (dec k) ++ fld (dec f) ++ fld (dec t)) → Calls Tryz.prog 74 #[.pointer (some ⟨B, 0, none⟩), .int .i64 (p : Int)] wx fun e w' => e = .returned (.tuple #[]) ∧ LW S w0 w' B a (flds [dec k, dec f, dec t, dec p])) := hide (fun wx hx => by
    have := enumber_any S w0 wx B a _ p hx hg hp (by rw [List.length_append, List.length_append]; omega)
    have e : fld (dec k) ++ fld (dec f) ++ fld (dec t) ++ fld (dec p) = flds [dec k, dec f, dec t, dec p] := by
      show _ = fld (dec k) ++ (fld (dec f) ++ (fld (dec t) ++ (fld (dec p) ++ [])))
      simp
    rw [e] at this
    exact this)
  have HC : Hid (∀ wx acc, LW S w0 wx B a acc → wx.cell? ⟨B, 2, none⟩ = some (.int .i64 (k : Int)) ∧ wx.cell? ⟨B, 3, none⟩ = some (.int .i64 (f : Int)) ∧ wx.cell? ⟨B, 4, none⟩ = some (.int .i64 (t : Int)) ∧ wx.cell? ⟨B, 5, none⟩ = some (.int .i64 (p : Int))) := hide (fun wx acc hx => by
    rw [← a0, ← a1, ← a2, ← a3]
    exact ⟨hx.cell 0 (by decide), hx.cell 1 (by decide), hx.cell 2 (by decide), hx.cell 3 (by decide)⟩)
  generalize flds [dec k, dec f, dec t, dec p] = FF at C4 ⊢
  generalize fld (dec k) = F1 at *
  generalize fld (dec f) = F2 at *
  generalize fld (dec t) = F3 at *
  have HW := hide h
  clear h hg hfl h1 h2 h3 a0 a1 a2 a3 hk hf ht hp
  go_enter Tryz.func59, Tryz.ntmps59
  go_wp2_with fail
  refine wp_region_held_drew (S := (fun wx => wx.cell? ⟨B, 2, none⟩ = some (.int .i64 (k : Int)) ∧ wx.cell? ⟨B, 3, none⟩ = some (.int .i64 (f : Int)) ∧ wx.cell? ⟨B, 4, none⟩ = some (.int .i64 (t : Int)) ∧ wx.cell? ⟨B, 5, none⟩ = some (.int .i64 (p : Int)))) (by kernel_rfl) (HC.out _ _ (HW.out.keep ((Below.refl _ _).drew))) (fun hHeld => ?_)
  refine wpAnyH_at (i := 0) (v := ?vd0) (a1 := ?xd0) rfl (by kernel_rfl) (by kernel_rfl) (by kernel_rfl) (fun _ _ _ h => h) (Or.inl ⟨by rfl, ?yd0⟩) (by assumption) ?hd0 ?zd0
  case yd0 => (intro w hSw; (try dsimp only at hSw); go_simp; try (with_reducible rfl))
  case hd0 => (go_simp; exact rfl)
  case zd0 =>
  refine wpAnyH_at (i := 1) (v := ?vd1) (a1 := ?xd1) rfl (by kernel_rfl) (by kernel_rfl) (by kernel_rfl) (fun _ _ _ h => h) (Or.inl ⟨by rfl, ?yd1⟩) (by assumption) ?hd1 ?zd1
  case yd1 => (intro w hSw; (try dsimp only at hSw); go_simp; try (with_reducible rfl))
  case hd1 => (go_simp; exact rfl)
  case zd1 =>
  refine wpAnyH_at (i := 2) (v := ?vd2) (a1 := ?xd2) rfl (by kernel_rfl) (by kernel_rfl) (by kernel_rfl) (fun _ _ _ h => h) (Or.inl ⟨by rfl, ?yd2⟩) (by assumption) ?hd2 ?zd2
  case yd2 => (intro w hSw; (try dsimp only at hSw); go_simp; try (with_reducible rfl))
  case hd2 => (go_simp; exact rfl)
  case zd2 =>
  refine wpAnyH_at (i := 3) (v := ?vd3) (a1 := ?xd3) rfl (by kernel_rfl) (by kernel_rfl) (by kernel_rfl) (fun _ _ _ h => h) (Or.inl ⟨by rfl, ?yd3⟩) (by assumption) ?hd3 ?zd3
  case yd3 => (intro w hSw; (try dsimp only at hSw); go_simp; try (with_reducible rfl))
  case hd3 => (go_simp; exact rfl)
  case zd3 =>
  refine wpAnyH_at (i := 4) (v := ?vd4) (a1 := ?xd4) rfl (by kernel_rfl) (by kernel_rfl) (by kernel_rfl) (fun _ _ _ h => h) (Or.inl ⟨by rfl, ?yd4⟩) (by assumption) ?hd4 ?zd4
  case yd4 => (intro w hSw; (try dsimp only at hSw); go_simp; try (with_reducible rfl))
  case hd4 => (go_simp; exact rfl)
  case zd4 =>
  refine wpAnyH_at (i := 5) (v := ?vd5) (a1 := ?xd5) rfl (by kernel_rfl) (by kernel_rfl) (by kernel_rfl) (fun _ _ _ h => h) (Or.inl ⟨by rfl, ?yd5⟩) (by assumption) ?hd5 ?zd5
  case yd5 => (intro w hSw; (try dsimp only at hSw); go_simp; try (with_reducible rfl))
  case hd5 => (go_simp; exact rfl)
  case zd5 =>
  refine wpAnyH_at (i := 6) (v := ?vd6) (a1 := ?xd6) rfl (by kernel_rfl) (by kernel_rfl) (by kernel_rfl) (fun _ _ _ h => h) (Or.inl ⟨by rfl, ?yd6⟩) (by assumption) ?hd6 ?zd6
  case yd6 => (intro w hSw; (try dsimp only at hSw); go_simp; try (with_reducible rfl))
  case hd6 => (go_simp; exact rfl)
  case zd6 =>
  refine wpAnyH_at (i := 7) (v := ?vd7) (a1 := ?xd7) rfl (by kernel_rfl) (by kernel_rfl) (by kernel_rfl) (fun _ _ _ h => h) (Or.inl ⟨by rfl, ?yd7⟩) (by assumption) ?hd7 ?zd7
  case yd7 => (intro w hSw; (try dsimp only at hSw); go_simp; try (with_reducible rfl))
  case hd7 => (go_simp; exact rfl)
  case zd7 =>
  refine wpAnyH_ready (rs := [8]) (by kernel_rfl) (by simp) ?_
  refine AllReadyH.cons rfl (fun K hK => ?_) AllReadyH.nil
  go_simp
  refine (C1.out _ (HW.out.keep ((Below.refl _ _).drew))).mono ?_
  rintro e x0 ⟨rfl, k0⟩
  have K0 := hide k0
  clear k0
  try go_wp2_with fail
  refine hK.out _ _ (HC.out _ _ K0.out) (fun hHeld2 => ?_)
  clear hK K hHeld
  have hHeld := hHeld2
  clear hHeld2
  refine wpAnyH_done (by kernel_rfl) ?_ _
  clear C1 HW
  go_wp2_with fail
  refine wp_region_held_drew (S := (fun wx => wx.cell? ⟨B, 2, none⟩ = some (.int .i64 (k : Int)) ∧ wx.cell? ⟨B, 3, none⟩ = some (.int .i64 (f : Int)) ∧ wx.cell? ⟨B, 4, none⟩ = some (.int .i64 (t : Int)) ∧ wx.cell? ⟨B, 5, none⟩ = some (.int .i64 (p : Int)))) (by kernel_rfl) (HC.out _ _ (K0.out.keep ((Below.refl _ _).drew))) (fun hHeld => ?_)
  refine wpAnyH_at (i := 0) (v := ?ve0) (a1 := ?xe0) rfl (by kernel_rfl) (by kernel_rfl) (by kernel_rfl) (fun _ _ _ h => h) (Or.inl ⟨by rfl, ?ye0⟩) (by assumption) ?he0 ?ze0
  case ye0 => (intro w hSw; (try dsimp only at hSw); go_simp; try (with_reducible rfl))
  case he0 => (go_simp; exact rfl)
  case ze0 =>
  refine wpAnyH_at (i := 1) (v := ?ve1) (a1 := ?xe1) rfl (by kernel_rfl) (by kernel_rfl) (by kernel_rfl) (fun _ _ _ h => h) (Or.inl ⟨by rfl, ?ye1⟩) (by assumption) ?he1 ?ze1
  case ye1 => (intro w hSw; (try dsimp only at hSw); go_simp; try (with_reducible rfl))
  case he1 => (go_simp; exact rfl)
  case ze1 =>
  refine wpAnyH_at (i := 2) (v := ?ve2) (a1 := ?xe2) rfl (by kernel_rfl) (by kernel_rfl) (by kernel_rfl) (fun _ _ _ h => h) (Or.inl ⟨by rfl, ?ye2⟩) (by assumption) ?he2 ?ze2
  case ye2 => (intro w hSw; (try dsimp only at hSw); go_simp; try (with_reducible rfl))
  case he2 => (go_simp; exact rfl)
  case ze2 =>
  refine wpAnyH_at (i := 3) (v := ?ve3) (a1 := ?xe3) rfl (by kernel_rfl) (by kernel_rfl) (by kernel_rfl) (fun _ _ _ h => h) (Or.inl ⟨by rfl, ?ye3⟩) (by assumption) ?he3 ?ze3
  case ye3 => (intro w hSw; (try dsimp only at hSw); go_simp; try (with_reducible rfl))
  case he3 => (go_simp; exact rfl)
  case ze3 =>
  refine wpAnyH_at (i := 4) (v := ?ve4) (a1 := ?xe4) rfl (by kernel_rfl) (by kernel_rfl) (by kernel_rfl) (fun _ _ _ h => h) (Or.inl ⟨by rfl, ?ye4⟩) (by assumption) ?he4 ?ze4
  case ye4 => (intro w hSw; (try dsimp only at hSw); go_simp; try (with_reducible rfl))
  case he4 => (go_simp; exact rfl)
  case ze4 =>
  refine wpAnyH_at (i := 5) (v := ?ve5) (a1 := ?xe5) rfl (by kernel_rfl) (by kernel_rfl) (by kernel_rfl) (fun _ _ _ h => h) (Or.inl ⟨by rfl, ?ye5⟩) (by assumption) ?he5 ?ze5
  case ye5 => (intro w hSw; (try dsimp only at hSw); go_simp; try (with_reducible rfl))
  case he5 => (go_simp; exact rfl)
  case ze5 =>
  refine wpAnyH_at (i := 6) (v := ?ve6) (a1 := ?xe6) rfl (by kernel_rfl) (by kernel_rfl) (by kernel_rfl) (fun _ _ _ h => h) (Or.inl ⟨by rfl, ?ye6⟩) (by assumption) ?he6 ?ze6
  case ye6 => (intro w hSw; (try dsimp only at hSw); go_simp; try (with_reducible rfl))
  case he6 => (go_simp; exact rfl)
  case ze6 =>
  refine wpAnyH_at (i := 7) (v := ?ve7) (a1 := ?xe7) rfl (by kernel_rfl) (by kernel_rfl) (by kernel_rfl) (fun _ _ _ h => h) (Or.inl ⟨by rfl, ?ye7⟩) (by assumption) ?he7 ?ze7
  case ye7 => (intro w hSw; (try dsimp only at hSw); go_simp; try (with_reducible rfl))
  case he7 => (go_simp; exact rfl)
  case ze7 =>
  refine wpAnyH_ready (rs := [8]) (by kernel_rfl) (by simp) ?_
  refine AllReadyH.cons rfl (fun K hK => ?_) AllReadyH.nil
  go_simp
  refine (C2.out _ (K0.out.keep ((Below.refl _ _).drew))).mono ?_
  rintro e x1 ⟨rfl, k1⟩
  have K1 := hide k1
  clear k1
  try go_wp2_with fail
  refine hK.out _ _ (HC.out _ _ K1.out) (fun hHeld2 => ?_)
  clear hK K hHeld
  have hHeld := hHeld2
  clear hHeld2
  refine wpAnyH_done (by kernel_rfl) ?_ _
  clear C2 K0
  go_wp2_with fail
  refine wp_region_held_drew (S := (fun wx => wx.cell? ⟨B, 2, none⟩ = some (.int .i64 (k : Int)) ∧ wx.cell? ⟨B, 3, none⟩ = some (.int .i64 (f : Int)) ∧ wx.cell? ⟨B, 4, none⟩ = some (.int .i64 (t : Int)) ∧ wx.cell? ⟨B, 5, none⟩ = some (.int .i64 (p : Int)))) (by kernel_rfl) (HC.out _ _ (K1.out.keep ((Below.refl _ _).drew))) (fun hHeld => ?_)
  refine wpAnyH_at (i := 0) (v := ?vf0) (a1 := ?xf0) rfl (by kernel_rfl) (by kernel_rfl) (by kernel_rfl) (fun _ _ _ h => h) (Or.inl ⟨by rfl, ?yf0⟩) (by assumption) ?hf0 ?zf0
  case yf0 => (intro w hSw; (try dsimp only at hSw); go_simp; try (with_reducible rfl))
  case hf0 => (go_simp; exact rfl)
  case zf0 =>
  refine wpAnyH_at (i := 1) (v := ?vf1) (a1 := ?xf1) rfl (by kernel_rfl) (by kernel_rfl) (by kernel_rfl) (fun _ _ _ h => h) (Or.inl ⟨by rfl, ?yf1⟩) (by assumption) ?hf1 ?zf1
  case yf1 => (intro w hSw; (try dsimp only at hSw); go_simp; try (with_reducible rfl))
  case hf1 => (go_simp; exact rfl)
  case zf1 =>
  refine wpAnyH_at (i := 2) (v := ?vf2) (a1 := ?xf2) rfl (by kernel_rfl) (by kernel_rfl) (by kernel_rfl) (fun _ _ _ h => h) (Or.inl ⟨by rfl, ?yf2⟩) (by assumption) ?hf2 ?zf2
  case yf2 => (intro w hSw; (try dsimp only at hSw); go_simp; try (with_reducible rfl))
  case hf2 => (go_simp; exact rfl)
  case zf2 =>
  refine wpAnyH_at (i := 3) (v := ?vf3) (a1 := ?xf3) rfl (by kernel_rfl) (by kernel_rfl) (by kernel_rfl) (fun _ _ _ h => h) (Or.inl ⟨by rfl, ?yf3⟩) (by assumption) ?hf3 ?zf3
  case yf3 => (intro w hSw; (try dsimp only at hSw); go_simp; try (with_reducible rfl))
  case hf3 => (go_simp; exact rfl)
  case zf3 =>
  refine wpAnyH_at (i := 4) (v := ?vf4) (a1 := ?xf4) rfl (by kernel_rfl) (by kernel_rfl) (by kernel_rfl) (fun _ _ _ h => h) (Or.inl ⟨by rfl, ?yf4⟩) (by assumption) ?hf4 ?zf4
  case yf4 => (intro w hSw; (try dsimp only at hSw); go_simp; try (with_reducible rfl))
  case hf4 => (go_simp; exact rfl)
  case zf4 =>
  refine wpAnyH_at (i := 5) (v := ?vf5) (a1 := ?xf5) rfl (by kernel_rfl) (by kernel_rfl) (by kernel_rfl) (fun _ _ _ h => h) (Or.inl ⟨by rfl, ?yf5⟩) (by assumption) ?hf5 ?zf5
  case yf5 => (intro w hSw; (try dsimp only at hSw); go_simp; try (with_reducible rfl))
  case hf5 => (go_simp; exact rfl)
  case zf5 =>
  refine wpAnyH_at (i := 6) (v := ?vf6) (a1 := ?xf6) rfl (by kernel_rfl) (by kernel_rfl) (by kernel_rfl) (fun _ _ _ h => h) (Or.inl ⟨by rfl, ?yf6⟩) (by assumption) ?hf6 ?zf6
  case yf6 => (intro w hSw; (try dsimp only at hSw); go_simp; try (with_reducible rfl))
  case hf6 => (go_simp; exact rfl)
  case zf6 =>
  refine wpAnyH_at (i := 7) (v := ?vf7) (a1 := ?xf7) rfl (by kernel_rfl) (by kernel_rfl) (by kernel_rfl) (fun _ _ _ h => h) (Or.inl ⟨by rfl, ?yf7⟩) (by assumption) ?hf7 ?zf7
  case yf7 => (intro w hSw; (try dsimp only at hSw); go_simp; try (with_reducible rfl))
  case hf7 => (go_simp; exact rfl)
  case zf7 =>
  refine wpAnyH_ready (rs := [8]) (by kernel_rfl) (by simp) ?_
  refine AllReadyH.cons rfl (fun K hK => ?_) AllReadyH.nil
  go_simp
  refine (C3.out _ (K1.out.keep ((Below.refl _ _).drew))).mono ?_
  rintro e x2 ⟨rfl, k2⟩
  have K2 := hide k2
  clear k2
  try go_wp2_with fail
  refine hK.out _ _ (HC.out _ _ K2.out) (fun hHeld2 => ?_)
  clear hK K hHeld
  have hHeld := hHeld2
  clear hHeld2
  refine wpAnyH_done (by kernel_rfl) ?_ _
  clear C3 K1
  go_wp2_with fail
  refine wp_region_held_drew (S := (fun wx => wx.cell? ⟨B, 2, none⟩ = some (.int .i64 (k : Int)) ∧ wx.cell? ⟨B, 3, none⟩ = some (.int .i64 (f : Int)) ∧ wx.cell? ⟨B, 4, none⟩ = some (.int .i64 (t : Int)) ∧ wx.cell? ⟨B, 5, none⟩ = some (.int .i64 (p : Int)))) (by kernel_rfl) (HC.out _ _ (K2.out.keep ((Below.refl _ _).drew))) (fun hHeld => ?_)
  refine wpAnyH_at (i := 0) (v := ?vg0) (a1 := ?xg0) rfl (by kernel_rfl) (by kernel_rfl) (by kernel_rfl) (fun _ _ _ h => h) (Or.inl ⟨by rfl, ?yg0⟩) (by assumption) ?hg0 ?zg0
  case yg0 => (intro w hSw; (try dsimp only at hSw); go_simp; try (with_reducible rfl))
  case hg0 => (go_simp; exact rfl)
  case zg0 =>
  refine wpAnyH_at (i := 1) (v := ?vg1) (a1 := ?xg1) rfl (by kernel_rfl) (by kernel_rfl) (by kernel_rfl) (fun _ _ _ h => h) (Or.inl ⟨by rfl, ?yg1⟩) (by assumption) ?hg1 ?zg1
  case yg1 => (intro w hSw; (try dsimp only at hSw); go_simp; try (with_reducible rfl))
  case hg1 => (go_simp; exact rfl)
  case zg1 =>
  refine wpAnyH_at (i := 2) (v := ?vg2) (a1 := ?xg2) rfl (by kernel_rfl) (by kernel_rfl) (by kernel_rfl) (fun _ _ _ h => h) (Or.inl ⟨by rfl, ?yg2⟩) (by assumption) ?hg2 ?zg2
  case yg2 => (intro w hSw; (try dsimp only at hSw); go_simp; try (with_reducible rfl))
  case hg2 => (go_simp; exact rfl)
  case zg2 =>
  refine wpAnyH_at (i := 3) (v := ?vg3) (a1 := ?xg3) rfl (by kernel_rfl) (by kernel_rfl) (by kernel_rfl) (fun _ _ _ h => h) (Or.inl ⟨by rfl, ?yg3⟩) (by assumption) ?hg3 ?zg3
  case yg3 => (intro w hSw; (try dsimp only at hSw); go_simp; try (with_reducible rfl))
  case hg3 => (go_simp; exact rfl)
  case zg3 =>
  refine wpAnyH_at (i := 4) (v := ?vg4) (a1 := ?xg4) rfl (by kernel_rfl) (by kernel_rfl) (by kernel_rfl) (fun _ _ _ h => h) (Or.inl ⟨by rfl, ?yg4⟩) (by assumption) ?hg4 ?zg4
  case yg4 => (intro w hSw; (try dsimp only at hSw); go_simp; try (with_reducible rfl))
  case hg4 => (go_simp; exact rfl)
  case zg4 =>
  refine wpAnyH_at (i := 5) (v := ?vg5) (a1 := ?xg5) rfl (by kernel_rfl) (by kernel_rfl) (by kernel_rfl) (fun _ _ _ h => h) (Or.inl ⟨by rfl, ?yg5⟩) (by assumption) ?hg5 ?zg5
  case yg5 => (intro w hSw; (try dsimp only at hSw); go_simp; try (with_reducible rfl))
  case hg5 => (go_simp; exact rfl)
  case zg5 =>
  refine wpAnyH_at (i := 6) (v := ?vg6) (a1 := ?xg6) rfl (by kernel_rfl) (by kernel_rfl) (by kernel_rfl) (fun _ _ _ h => h) (Or.inl ⟨by rfl, ?yg6⟩) (by assumption) ?hg6 ?zg6
  case yg6 => (intro w hSw; (try dsimp only at hSw); go_simp; try (with_reducible rfl))
  case hg6 => (go_simp; exact rfl)
  case zg6 =>
  refine wpAnyH_at (i := 7) (v := ?vg7) (a1 := ?xg7) rfl (by kernel_rfl) (by kernel_rfl) (by kernel_rfl) (fun _ _ _ h => h) (Or.inl ⟨by rfl, ?yg7⟩) (by assumption) ?hg7 ?zg7
  case yg7 => (intro w hSw; (try dsimp only at hSw); go_simp; try (with_reducible rfl))
  case hg7 => (go_simp; exact rfl)
  case zg7 =>
  refine wpAnyH_ready (rs := [8]) (by kernel_rfl) (by simp) ?_
  refine AllReadyH.cons rfl (fun K hK => ?_) AllReadyH.nil
  go_simp
  refine (C4.out _ (K2.out.keep ((Below.refl _ _).drew))).mono ?_
  rintro e x3 ⟨rfl, k3⟩
  have K3 := hide k3
  clear k3
  try go_wp2_with fail
  refine hK.out _ _ (HC.out _ _ K3.out) (fun hHeld2 => ?_)
  clear hK K hHeld
  have hHeld := hHeld2
  clear hHeld2
  refine wpAnyH_done (by kernel_rfl) ?_ _
  clear C4 K2
  go_wp2_with fail
  go_end0
  exact ⟨rfl, K3.out⟩
end Go.Proofs.YtmogplecohkjcaaGreatDoor
