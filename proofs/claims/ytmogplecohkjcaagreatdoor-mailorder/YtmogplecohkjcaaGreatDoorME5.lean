/-
  The letter's body, and the program's Encode.
-/
import Derived.Test.YtmogplecohkjcaaGreatDoorME4
import Derived.Test.YtmogplecohkjcaaGreatDoorMEZ
import Derived.Test.YtmogplecohkjcaaGreatDoorR10
namespace Msg15
open Go
open Pol8 hiding text right Right
theorem flds_take_le : ∀ (l : List L) (i : Nat), (flds (l.take i)).length ≤ (flds l).length
  | [], i => by simp
  | _ :: _, 0 => Nat.zero_le _
  | s :: l, i + 1 => by
    show (fld s ++ flds (l.take i)).length ≤ (fld s ++ flds l).length
    rw [List.length_append, List.length_append]
    have := flds_take_le l i
    omega
theorem flds_take_step {l : List L} {i : Nat} {x : L} (h : l[i]? = some x) : flds (l.take (i + 1)) = flds (l.take i) ++ fld x := by
  rw [List.take_add_one, h, flds_app]
  show _ ++ (fld x ++ []) = _
  rw [List.append_nil]
theorem two_take_step {l : List (L × L)} {i : Nat} {x : L × L} (h : l[i]? = some x) : flds (two (l.take (i + 1))) = flds (two (l.take i)) ++ fld x.1 ++ fld x.2 := by
  have two_app : ∀ a b : List (L × L), two (a ++ b) = two a ++ two b := by
    intro a
    induction a with
    | nil => intro b; rfl
    | cons p a ih => intro b; show p.1 :: p.2 :: two (a ++ b) = p.1 :: p.2 :: (two a ++ two b); rw [ih]
  rw [List.take_add_one, h, two_app, flds_app, List.append_assoc]
  show _ ++ (fld x.1 ++ (fld x.2 ++ [])) = _
  rw [List.append_nil]
theorem two_take_le : ∀ (l : List (L × L)) (i : Nat), (flds (two (l.take i))).length ≤ (flds (two l)).length
  | [], i => by simp
  | _ :: _, 0 => Nat.zero_le _
  | s :: l, i + 1 => by
    show (fld s.1 ++ (fld s.2 ++ flds (two (l.take i)))).length ≤ (fld s.1 ++ (fld s.2 ++ flds (two l))).length
    rw [List.length_append, List.length_append, List.length_append, List.length_append]
    have := two_take_le l i
    omega
end Msg15
namespace Go.Proofs.YtmogplecohkjcaaGreatDoor
open Go.RowKit
open Utf1
open Pol8 hiding text right Right
open Msg15

set_option maxRecDepth 100000 in
set_option maxHeartbeats 16000000 in
theorem ebody_ids (S w0 w : World) (B : Nat) (a : Nat → Value) (acc : L) (vi : Value) (ids : List ByteArray) (h : LW S w0 w B a acc) (hg : Glob w0) (a0 : a 0 = .int .i64 1) (a4 : a 4 = vi) (hv : StrArg w0 vi ids) (hn : ids.length ≤ 1000) (hz : ∀ x ∈ ids, x.size ≤ 1000000) (hL : acc.length + (flds (dec ids.length :: ids.map bl)).length ≤ 9000000) :
    Calls Tryz.prog 60 #[.pointer (some ⟨B, 0, none⟩)] w fun e w' => e = .returned (.tuple #[]) ∧ LW S w0 w' B a (acc ++ flds (dec ids.length :: ids.map bl)) := by
  obtain ⟨N, hN⟩ : ∃ N, N = ids.length := ⟨_, rfl⟩
  have HV := hide hv
  obtain ⟨q, cap, rfl, -, -⟩ := hv
  rw [← hN] at hL HV a4 hn ⊢
  have HNN := hide hN
  clear hN
  have hL' : acc.length + ((fld (dec N)).length + (flds (ids.map bl)).length) ≤ 9000000 := by
    have e : flds (dec N :: ids.map bl) = fld (dec N) ++ flds (ids.map bl) := rfl
    rw [e, List.length_append] at hL
    omega
  have HE : Hid (acc ++ flds (dec N :: ids.map bl) = acc ++ fld (dec N) ++ flds (ids.map bl)) := hide (by
    rw [List.append_assoc]
    rfl)
  rw [HE.out]
  have C1 : Hid (∀ wx, LW S w0 wx B a acc → Calls Tryz.prog 74 #[.pointer (some ⟨B, 0, none⟩), .int .i64 (N : Int)] wx fun e w' => e = .returned (.tuple #[]) ∧ LW S w0 w' B a (acc ++ fld (dec N))) := hide (fun wx hx => enumber_any S w0 wx B a acc N hx hg (by omega) (by omega))
  have C2 : Hid (∀ wx (i : Nat) (y : ByteArray), ids[i]? = some y → LW S w0 wx B a (acc ++ fld (dec N) ++ flds ((ids.map bl).take i)) → Calls Tryz.prog 75 #[.pointer (some ⟨B, 0, none⟩), .string y] wx fun e w' => e = .returned (.tuple #[]) ∧ LW S w0 w' B a (acc ++ fld (dec N) ++ flds ((ids.map bl).take (i + 1)))) := hide (fun wx i y hy hx => by
    have hle := flds_take_le (ids.map bl) i
    have := etext_any S w0 wx B a _ y hx hg (hz y (List.mem_of_getElem? hy)) (by rw [List.length_append, List.length_append]; omega)
    rw [List.append_assoc, ← flds_take_step (x := bl y) (by rw [List.getElem?_map, hy]; rfl)] at this
    exact this)
  have HC : Hid (∀ wx acc, LW S w0 wx B a acc → wx.cell? ⟨B, 2, none⟩ = some (.int .i64 1) ∧ wx.cell? ⟨B, 6, none⟩ = some (.slice q N cap)) := hide (fun wx acc hx => by
    rw [← a0, ← a4]
    exact ⟨hx.cell 0 (by decide), hx.cell 4 (by decide)⟩)
  have HW := hide h
  clear h hg hL hL' hz a0 a4 HE
  obtain ⟨c0, c4⟩ := HC.out _ _ HW.out
  go_enter Tryz.func60, Tryz.ntmps60
  go_wp2_with fail
  refine wp_region_held_drew (S := (fun wx => wx.cell? ⟨B, 6, none⟩ = some (.slice q N cap))) (by kernel_rfl) ((HC.out _ _ (HW.out.keep ((Below.refl _ _).drew))).2) (fun hHeld => ?_)
  refine wpAnyH_at (i := 0) (v := ?va0) (a1 := ?xa0) rfl (by kernel_rfl) (by kernel_rfl) (by kernel_rfl) (fun _ _ _ h => h) (Or.inl ⟨by rfl, ?ya0⟩) (by assumption) ?ha0 ?za0
  case ya0 => (intro w hSw; (try dsimp only at hSw); go_simp; try (with_reducible rfl))
  case ha0 => (go_simp; exact rfl)
  case za0 =>
  refine wpAnyH_at (i := 1) (v := ?va1) (a1 := ?xa1) rfl (by kernel_rfl) (by kernel_rfl) (by kernel_rfl) (fun _ _ _ h => h) (Or.inl ⟨by rfl, ?ya1⟩) (by assumption) ?ha1 ?za1
  case ya1 => (intro w hSw; (try dsimp only at hSw); go_simp; try (with_reducible rfl))
  case ha1 => (go_simp; exact rfl)
  case za1 =>
  refine wpAnyH_at (i := 2) (v := ?va2) (a1 := ?xa2) rfl (by kernel_rfl) (by kernel_rfl) (by kernel_rfl) (fun _ _ _ h => h) (Or.inl ⟨by rfl, ?ya2⟩) (by assumption) ?ha2 ?za2
  case ya2 => (intro w hSw; (try dsimp only at hSw); go_simp; try (with_reducible rfl))
  case ha2 => (go_simp; exact rfl)
  case za2 =>
  refine wpAnyH_at (i := 3) (v := ?va3) (a1 := ?xa3) rfl (by kernel_rfl) (by kernel_rfl) (by kernel_rfl) (fun _ _ _ h => h) (Or.inl ⟨by rfl, ?ya3⟩) (by assumption) ?ha3 ?za3
  case ya3 => (intro w hSw; (try dsimp only at hSw); go_simp; try (with_reducible rfl))
  case ha3 => (go_simp; exact rfl)
  case za3 =>
  refine wpAnyH_at (i := 4) (v := ?va4) (a1 := ?xa4) rfl (by kernel_rfl) (by kernel_rfl) (by kernel_rfl) (fun _ _ _ h => h) (Or.inl ⟨by rfl, ?ya4⟩) (by assumption) ?ha4 ?za4
  case ya4 => (intro w hSw; (try dsimp only at hSw); go_simp; try (with_reducible rfl))
  case ha4 => (go_simp; exact rfl)
  case za4 =>
  refine wpAnyH_at (i := 5) (v := ?va5) (a1 := ?xa5) rfl (by kernel_rfl) (by kernel_rfl) (by kernel_rfl) (fun _ _ _ h => h) (Or.inl ⟨by rfl, ?ya5⟩) (by assumption) ?ha5 ?za5
  case ya5 => (intro w hSw; (try dsimp only at hSw); go_simp; try (with_reducible rfl))
  case ha5 => (go_simp; exact rfl)
  case za5 =>
  refine wpAnyH_at (i := 6) (v := ?va6) (a1 := ?xa6) rfl (by kernel_rfl) (by kernel_rfl) (by kernel_rfl) (fun _ _ _ h => h) (Or.inl ⟨by rfl, ?ya6⟩) (by assumption) ?ha6 ?za6
  case ya6 => (intro w hSw; (try dsimp only at hSw); go_simp; try (with_reducible rfl))
  case ha6 => (go_simp; exact rfl)
  case za6 =>
  refine wpAnyH_at (i := 7) (v := ?va7) (a1 := ?xa7) rfl (by kernel_rfl) (by kernel_rfl) (by kernel_rfl) (fun _ _ _ h => h) (Or.inl ⟨by rfl, ?ya7⟩) (by assumption) ?ha7 ?za7
  case ya7 => (intro w hSw; (try dsimp only at hSw); go_simp; try (with_reducible rfl))
  case ha7 => (go_simp; exact rfl)
  case za7 =>
  refine wpAnyH_ready (rs := [8]) (by kernel_rfl) (by simp) ?_
  refine AllReadyH.cons rfl (fun K hK => ?_) AllReadyH.nil
  go_wp2_with fail
  try go_simp
  refine hK.out _ _ ((by first | exact (HC.out _ _ K1.out).2 | assumption)) (fun hHeld2 => ?_)
  clear hK K hHeld
  have hHeld := hHeld2
  clear hHeld2
  refine wpAnyH_ready (rs := [9]) (by kernel_rfl) (by simp) ?_
  refine AllReadyH.cons rfl (fun K hK => ?_) AllReadyH.nil
  go_simp
  refine (C1.out _ (HW.out.keep ((Below.refl _ _).drew))).mono ?_
  rintro e x1 ⟨rfl, k1⟩
  have K1 := hide k1
  clear k1
  try go_wp2_with fail
  refine hK.out _ _ ((by first | exact (HC.out _ _ K1.out).2 | assumption)) (fun hHeld2 => ?_)
  clear hK K hHeld
  have hHeld := hHeld2
  clear hHeld2
  refine wpAnyH_done (by kernel_rfl) ?_ _
  clear C1 HW c0 c4
  obtain ⟨c0, c4⟩ := HC.out _ _ K1.out
  go_wp2_with fail
  clear c0 c4
  go_loopg [31] N (fun g v wx => ∃ i : Nat, i + g = N ∧ v = .int .i64 (i : Int) ∧ Hid (LW S w0 wx B a (acc ++ fld (dec N) ++ flds ((ids.map bl).take i))))
  case atStart => exact ⟨0, by omega, rfl, hide (by rw [List.take_zero]; show LW S w0 x1 B a (_ ++ []); rw [List.append_nil]; exact K1.out)⟩
  case round =>
    obtain ⟨i, hi, rfl, HR⟩ := hrel
    by_cases hlt : i < N
    · have dlt : decide (i < N) = true := decide_eq_true hlt
      obtain ⟨y, hy⟩ : ∃ y, ids[i]? = some y := ⟨_, List.getElem?_eq_getElem (by rw [← HNN.out]; exact hlt)⟩
      obtain ⟨b, off, rfl, cy⟩ : ∃ b off, q = some ⟨b, off, none⟩ ∧ wr.cell? ⟨b, off + i, none⟩ = some (.string y) := by
        obtain ⟨p', cap', e, -, hc⟩ := HV.out.below HR.out.2.1.1
        injection e with e1 e2 e3
        obtain ⟨b, off, e4, h⟩ := hc i y hy
        exact ⟨b, off, e1.trans e4, h⟩
      have C3 := hide (C2.out wr i y hy HR.out)
      clear hy HR
      go_wp2_with fail
      refine C3.out.mono ?_
      rintro e w3 ⟨rfl, h3⟩
      have H3 := hide h3
      clear h3 C3 cy
      go_wp2_with fail
      go_roundg (gk - 1)
      case measure => omega
      case rel => exact ⟨i + 1, by omega, by first | rfl | simp, H3⟩
    · have dlt : decide (i < N) = false := decide_eq_false hlt
      have HE : Hid (LW S w0 wr B a (acc ++ fld (dec N) ++ flds (ids.map bl))) := hide (by
        have h1 := HR.out
        rw [List.take_of_length_le (by rw [List.length_map, ← HNN.out]; omega)] at h1
        exact h1)
      clear HR C2 hlt hi
      go_wp2_with fail
      go_end0
      exact ⟨rfl, HE.out⟩

theorem LW.re {S w0 w : World} {B : Nat} {a : Nat → Value} {acc : L} (h : LW S w0 w B a acc) : LW w w0 w B a acc := ⟨h.1, ⟨h.2.1.1, KpB.refl _ _⟩, h.2.2⟩
theorem LW.base {S w0 w : World} {B : Nat} {a : Nat → Value} {acc : L} (h : LW S w0 w B a acc) : LW w0 w0 w B a acc := ⟨h.1, ⟨h.2.1.1, fun _ _ _ h1 _ _ => (h.2.1.1.block _ (Array.getElem?_eq_some_iff.1 h1).1).trans h1⟩, h.2.2⟩
theorem LW.kept {S w0 w : World} {B : Nat} {a : Nat → Value} {acc : L} (h : LW S w0 w B a acc) {k : Nat} {cs : Array Value} {ty : TypeId} (h1 : S.heap[k]? = some (.cells cs ty (0, 0))) (h2 : ty ≠ 5) (h3 : k ≠ B) : w.heap[k]? = some (.cells cs ty (0, 0)) := h.2.1.2 k cs ty h1 h2 h3
theorem LW.blk {S w0 w : World} {B : Nat} {a : Nat → Value} {acc : L} (h : LW S w0 w B a acc) : B < w.heap.size := by
  rcases h.2.2 with ⟨bv, h1, _⟩ | ⟨bv, h1, _⟩
  · exact (Array.getElem?_eq_some_iff.1 h1).1
  · exact (Array.getElem?_eq_some_iff.1 h1).1

set_option maxRecDepth 100000 in
set_option maxHeartbeats 16000000 in
theorem ebody_posts (w0 w : World) (B : Nat) (a : Nat → Value) (acc : L) (vp : Value) (ts : List (ByteArray × ByteArray)) (h : LW w0 w0 w B a acc) (hg : Glob w0) (a0 : a 0 = .int .i64 2) (a5 : a 5 = vp) (hv : PostRow w0 vp ts) (hn : ts.length ≤ 1000) (hz : ∀ x ∈ ts, x.1.size ≤ 1000000 ∧ x.2.size ≤ 1000000) (hL : acc.length + (flds (dec ts.length :: two (ts.map (fun x => (bl x.1, bl x.2))))).length ≤ 9000000) :
    Calls Tryz.prog 60 #[.pointer (some ⟨B, 0, none⟩)] w fun e w' => e = .returned (.tuple #[]) ∧ LW w0 w0 w' B a (acc ++ flds (dec ts.length :: two (ts.map (fun x => (bl x.1, bl x.2))))) := by
  obtain ⟨N, hN⟩ : ∃ N, N = ts.length := ⟨_, rfl⟩
  have HV := hide hv
  obtain ⟨q, cap, rfl, -, -, -⟩ := hv
  rw [← hN] at hL HV a5 hn ⊢
  have HNN := hide hN
  obtain ⟨PS, hPS⟩ : ∃ PS, PS = ts.map (fun x => (bl x.1, bl x.2)) := ⟨_, rfl⟩
  rw [← hPS] at hL ⊢
  have HPS : Hid (PS.length = N ∧ ∀ i x y, ts[i]? = some (x, y) → PS[i]? = some (bl x, bl y)) := hide ⟨by rw [hPS, List.length_map, hN], fun i x y hx => by rw [hPS, List.getElem?_map, hx]; rfl⟩
  clear hN hPS
  have hL' : acc.length + ((fld (dec N)).length + (flds (two PS)).length) ≤ 9000000 := by
    have e : flds (dec N :: two PS) = fld (dec N) ++ flds (two PS) := rfl
    rw [e, List.length_append] at hL
    omega
  have HE : Hid (acc ++ flds (dec N :: two PS) = acc ++ fld (dec N) ++ flds (two PS)) := hide (by
    rw [List.append_assoc]
    rfl)
  rw [HE.out]
  have C1 : Hid (∀ wx, LW w0 w0 wx B a acc → Calls Tryz.prog 74 #[.pointer (some ⟨B, 0, none⟩), .int .i64 (N : Int)] wx fun e w' => e = .returned (.tuple #[]) ∧ LW w0 w0 w' B a (acc ++ fld (dec N))) := hide (fun wx hx => enumber_any w0 w0 wx B a acc N hx hg (by omega) (by omega))
  have C2 : Hid (∀ S wx (i : Nat) (x y : ByteArray), ts[i]? = some (x, y) → LW S w0 wx B a (acc ++ fld (dec N) ++ flds (two (PS.take i))) → Calls Tryz.prog 75 #[.pointer (some ⟨B, 0, none⟩), .string x] wx fun e w' => e = .returned (.tuple #[]) ∧ LW S w0 w' B a (acc ++ fld (dec N) ++ flds (two (PS.take i)) ++ fld (bl x))) := hide (fun S wx i x y hy hx => by
    have hle := two_take_le PS i
    exact etext_any S w0 wx B a _ x hx hg (hz _ (List.mem_of_getElem? hy)).1 (by rw [List.length_append, List.length_append]; omega))
  have C3 : Hid (∀ S wx (i : Nat) (x y : ByteArray), ts[i]? = some (x, y) → LW S w0 wx B a (acc ++ fld (dec N) ++ flds (two (PS.take i)) ++ fld (bl x)) → Calls Tryz.prog 75 #[.pointer (some ⟨B, 0, none⟩), .string y] wx fun e w' => e = .returned (.tuple #[]) ∧ LW S w0 w' B a (acc ++ fld (dec N) ++ flds (two (PS.take (i + 1))))) := hide (fun S wx i x y hy hx => by
    have hst : flds (two (PS.take (i + 1))) = flds (two (PS.take i)) ++ fld (bl x) ++ fld (bl y) := two_take_step (HPS.out.2 i x y hy)
    have hle := two_take_le PS (i + 1)
    rw [hst, List.length_append, List.length_append] at hle
    have := etext_any S w0 wx B a _ y hx hg (hz _ (List.mem_of_getElem? hy)).2 (by simp only [List.length_append]; omega)
    refine this.mono fun e w' ⟨h1, h2⟩ => ⟨h1, ?_⟩
    rw [hst, ← List.append_assoc, ← List.append_assoc]
    exact h2)
  have HC : Hid (∀ wx acc, LW w0 w0 wx B a acc → wx.cell? ⟨B, 2, none⟩ = some (.int .i64 2) ∧ wx.cell? ⟨B, 7, none⟩ = some (.slice q N cap)) := hide (fun wx acc hx => by
    rw [← a0, ← a5]
    exact ⟨hx.cell 0 (by decide), hx.cell 5 (by decide)⟩)
  have HW := hide h
  clear h hg hL hL' hz a0 a5 HE
  obtain ⟨c0, c4⟩ := HC.out _ _ HW.out
  go_enter Tryz.func60, Tryz.ntmps60
  go_wp2_with fail
  refine wp_region_held_drew (S := (fun wx => wx.cell? ⟨B, 7, none⟩ = some (.slice q N cap))) (by kernel_rfl) ((HC.out _ _ (HW.out.keep ((Below.refl _ _).drew))).2) (fun hHeld => ?_)
  refine wpAnyH_at (i := 0) (v := ?va0) (a1 := ?xa0) rfl (by kernel_rfl) (by kernel_rfl) (by kernel_rfl) (fun _ _ _ h => h) (Or.inl ⟨by rfl, ?ya0⟩) (by assumption) ?ha0 ?za0
  case ya0 => (intro w hSw; (try dsimp only at hSw); go_simp; try (with_reducible rfl))
  case ha0 => (go_simp; exact rfl)
  case za0 =>
  refine wpAnyH_at (i := 1) (v := ?va1) (a1 := ?xa1) rfl (by kernel_rfl) (by kernel_rfl) (by kernel_rfl) (fun _ _ _ h => h) (Or.inl ⟨by rfl, ?ya1⟩) (by assumption) ?ha1 ?za1
  case ya1 => (intro w hSw; (try dsimp only at hSw); go_simp; try (with_reducible rfl))
  case ha1 => (go_simp; exact rfl)
  case za1 =>
  refine wpAnyH_at (i := 2) (v := ?va2) (a1 := ?xa2) rfl (by kernel_rfl) (by kernel_rfl) (by kernel_rfl) (fun _ _ _ h => h) (Or.inl ⟨by rfl, ?ya2⟩) (by assumption) ?ha2 ?za2
  case ya2 => (intro w hSw; (try dsimp only at hSw); go_simp; try (with_reducible rfl))
  case ha2 => (go_simp; exact rfl)
  case za2 =>
  refine wpAnyH_at (i := 3) (v := ?va3) (a1 := ?xa3) rfl (by kernel_rfl) (by kernel_rfl) (by kernel_rfl) (fun _ _ _ h => h) (Or.inl ⟨by rfl, ?ya3⟩) (by assumption) ?ha3 ?za3
  case ya3 => (intro w hSw; (try dsimp only at hSw); go_simp; try (with_reducible rfl))
  case ha3 => (go_simp; exact rfl)
  case za3 =>
  refine wpAnyH_at (i := 4) (v := ?va4) (a1 := ?xa4) rfl (by kernel_rfl) (by kernel_rfl) (by kernel_rfl) (fun _ _ _ h => h) (Or.inl ⟨by rfl, ?ya4⟩) (by assumption) ?ha4 ?za4
  case ya4 => (intro w hSw; (try dsimp only at hSw); go_simp; try (with_reducible rfl))
  case ha4 => (go_simp; exact rfl)
  case za4 =>
  refine wpAnyH_at (i := 5) (v := ?va5) (a1 := ?xa5) rfl (by kernel_rfl) (by kernel_rfl) (by kernel_rfl) (fun _ _ _ h => h) (Or.inl ⟨by rfl, ?ya5⟩) (by assumption) ?ha5 ?za5
  case ya5 => (intro w hSw; (try dsimp only at hSw); go_simp; try (with_reducible rfl))
  case ha5 => (go_simp; exact rfl)
  case za5 =>
  refine wpAnyH_at (i := 6) (v := ?va6) (a1 := ?xa6) rfl (by kernel_rfl) (by kernel_rfl) (by kernel_rfl) (fun _ _ _ h => h) (Or.inl ⟨by rfl, ?ya6⟩) (by assumption) ?ha6 ?za6
  case ya6 => (intro w hSw; (try dsimp only at hSw); go_simp; try (with_reducible rfl))
  case ha6 => (go_simp; exact rfl)
  case za6 =>
  refine wpAnyH_at (i := 7) (v := ?va7) (a1 := ?xa7) rfl (by kernel_rfl) (by kernel_rfl) (by kernel_rfl) (fun _ _ _ h => h) (Or.inl ⟨by rfl, ?ya7⟩) (by assumption) ?ha7 ?za7
  case ya7 => (intro w hSw; (try dsimp only at hSw); go_simp; try (with_reducible rfl))
  case ha7 => (go_simp; exact rfl)
  case za7 =>
  refine wpAnyH_ready (rs := [8]) (by kernel_rfl) (by simp) ?_
  refine AllReadyH.cons rfl (fun K hK => ?_) AllReadyH.nil
  go_wp2_with fail
  try go_simp
  refine hK.out _ _ ((by first | exact (HC.out _ _ K1.out).2 | assumption)) (fun hHeld2 => ?_)
  clear hK K hHeld
  have hHeld := hHeld2
  clear hHeld2
  refine wpAnyH_ready (rs := [9]) (by kernel_rfl) (by simp) ?_
  refine AllReadyH.cons rfl (fun K hK => ?_) AllReadyH.nil
  go_simp
  refine (C1.out _ (HW.out.keep ((Below.refl _ _).drew))).mono ?_
  rintro e x1 ⟨rfl, k1⟩
  have K1 := hide k1
  clear k1
  try go_wp2_with fail
  refine hK.out _ _ ((by first | exact (HC.out _ _ K1.out).2 | assumption)) (fun hHeld2 => ?_)
  clear hK K hHeld
  have hHeld := hHeld2
  clear hHeld2
  refine wpAnyH_done (by kernel_rfl) ?_ _
  clear C1 HW c0 c4
  obtain ⟨c0, c4⟩ := HC.out _ _ K1.out
  go_wp2_with fail
  clear c0 c4
  go_loopg [59] N (fun g v wx => ∃ i : Nat, i + g = N ∧ v = .int .i64 (i : Int) ∧ Hid (LW w0 w0 wx B a (acc ++ fld (dec N) ++ flds (two (PS.take i)))))
  case atStart => exact ⟨0, by omega, rfl, hide (by rw [List.take_zero]; show LW w0 w0 x1 B a (_ ++ []); rw [List.append_nil]; exact K1.out)⟩
  case round =>
    obtain ⟨i, hi, rfl, HR⟩ := hrel
    by_cases hlt : i < N
    · have dlt : decide (i < N) = true := decide_eq_true hlt
      obtain ⟨xy, hy⟩ : ∃ y, ts[i]? = some y := ⟨_, List.getElem?_eq_getElem (by rw [← HNN.out]; exact hlt)⟩
      obtain ⟨x, y⟩ := xy
      obtain ⟨b, off, rfl, cx, cy⟩ : ∃ b off, q = some ⟨b, off, none⟩ ∧ wr.cell? ⟨b, off + i * 2, none⟩ = some (.string x) ∧ wr.cell? ⟨b, off + i * 2 + 1, none⟩ = some (.string y) := by
        obtain ⟨p', cap', e, -, -, hc⟩ := HV.out.below HR.out.2.1.1
        injection e with e1 e2 e3
        obtain ⟨b, off, e4, h, h'⟩ := hc i x y hy
        exact ⟨b, off, e1.trans e4, h, h'⟩
      obtain ⟨w2, hw2⟩ : ∃ w2, w2 = wr.alloc (.cells #[.string x, .string y] 57) := ⟨_, rfl⟩
      have hbx : w2.heap[wr.heap.size]? = some (.cells #[.string x, .string y] 57 (0, 0)) := by rw [hw2]; exact new_block _ _ _
      have HW2 : Hid (LW w2 w0 w2 B a (acc ++ fld (dec N) ++ flds (two (PS.take i)))) := hide ((HR.out.keep (by rw [hw2]; exact bel_alloc (Below.refl _ _) _)).re)
      have HNE : Hid (wr.heap.size ≠ B) := hide (by have := HR.out.blk; omega)
      have HX : Hid (∀ wx ac, LW w2 w0 wx B a ac → wx.cell? ⟨wr.heap.size, 0, none⟩ = some (.string x) ∧ wx.cell? ⟨wr.heap.size, 1, none⟩ = some (.string y)) := hide (fun wx ac hx => by
        have := hx.kept hbx (by decide) HNE.out
        exact ⟨tag_cell this 0 _ rfl, tag_cell this 1 _ rfl⟩)
      have C4 := hide (fun wx => C2.out w2 wx i x y hy)
      have C5 := hide (fun wx => C3.out w2 wx i x y hy)
      obtain ⟨z0, z1⟩ := HX.out _ _ HW2.out
      clear hy HR hbx
      go_upto_region 13 with fail
      rw [← hw2]
      clear hw2 cx cy z0 z1
      refine wp_region_held_drew (S := (fun wx => wx.cell? ⟨wr.heap.size, 0, none⟩ = some (.string x) ∧ wx.cell? ⟨wr.heap.size, 1, none⟩ = some (.string y))) (by kernel_rfl) ((HX.out _ _ (HW2.out.keep ((Below.refl _ _).drew)))) (fun hHeld => ?_)
      refine wpAnyH_at (i := 0) (v := ?vb0) (a1 := ?xb0) rfl (by kernel_rfl) (by kernel_rfl) (by kernel_rfl) (fun _ _ _ h => h) (Or.inl ⟨by rfl, ?yb0⟩) (by assumption) ?hb0 ?zb0
      case yb0 => (intro w hSw; (try dsimp only at hSw); go_simp; try (with_reducible rfl))
      case hb0 => (go_simp; exact rfl)
      case zb0 =>
      refine wpAnyH_at (i := 1) (v := ?vb1) (a1 := ?xb1) rfl (by kernel_rfl) (by kernel_rfl) (by kernel_rfl) (fun _ _ _ h => h) (Or.inl ⟨by rfl, ?yb1⟩) (by assumption) ?hb1 ?zb1
      case yb1 => (intro w hSw; (try dsimp only at hSw); go_simp; try (with_reducible rfl))
      case hb1 => (go_simp; exact rfl)
      case zb1 =>
      refine wpAnyH_at (i := 2) (v := ?vb2) (a1 := ?xb2) rfl (by kernel_rfl) (by kernel_rfl) (by kernel_rfl) (fun _ _ _ h => h) (Or.inl ⟨by rfl, ?yb2⟩) (by assumption) ?hb2 ?zb2
      case yb2 => (intro w hSw; (try dsimp only at hSw); go_simp; try (with_reducible rfl))
      case hb2 => (go_simp; exact rfl)
      case zb2 =>
      refine wpAnyH_at (i := 3) (v := ?vb3) (a1 := ?xb3) rfl (by kernel_rfl) (by kernel_rfl) (by kernel_rfl) (fun _ _ _ h => h) (Or.inl ⟨by rfl, ?yb3⟩) (by assumption) ?hb3 ?zb3
      case yb3 => (intro w hSw; (try dsimp only at hSw); go_simp; try (with_reducible rfl))
      case hb3 => (go_simp; exact rfl)
      case zb3 =>
      refine wpAnyH_at (i := 4) (v := ?vb4) (a1 := ?xb4) rfl (by kernel_rfl) (by kernel_rfl) (by kernel_rfl) (fun _ _ _ h => h) (Or.inl ⟨by rfl, ?yb4⟩) (by assumption) ?hb4 ?zb4
      case yb4 => (intro w hSw; (try dsimp only at hSw); go_simp; try (with_reducible rfl))
      case hb4 => (go_simp; exact rfl)
      case zb4 =>
      refine wpAnyH_ready (rs := [5]) (by kernel_rfl) (by simp) ?_
      refine AllReadyH.cons rfl (fun K hK => ?_) AllReadyH.nil
      go_simp
      refine (C4.out _ (HW2.out.keep ((Below.refl _ _).drew))).mono ?_
      rintro e x3 ⟨rfl, k3⟩
      have K3 := hide k3
      clear k3
      try go_wp2_with fail
      refine hK.out _ _ ((HX.out _ _ K3.out)) (fun hHeld2 => ?_)
      clear hK K hHeld
      have hHeld := hHeld2
      clear hHeld2
      refine wpAnyH_done (by kernel_rfl) ?_ _
      clear C4 HW2
      go_wp2_with fail
      refine wp_region_held_drew (S := (fun wx => wx.cell? ⟨wr.heap.size, 0, none⟩ = some (.string x) ∧ wx.cell? ⟨wr.heap.size, 1, none⟩ = some (.string y))) (by kernel_rfl) ((HX.out _ _ (K3.out.keep ((Below.refl _ _).drew)))) (fun hHeld => ?_)
      refine wpAnyH_at (i := 0) (v := ?vc0) (a1 := ?xc0) rfl (by kernel_rfl) (by kernel_rfl) (by kernel_rfl) (fun _ _ _ h => h) (Or.inl ⟨by rfl, ?yc0⟩) (by assumption) ?hc0 ?zc0
      case yc0 => (intro w hSw; (try dsimp only at hSw); go_simp; try (with_reducible rfl))
      case hc0 => (go_simp; exact rfl)
      case zc0 =>
      refine wpAnyH_at (i := 1) (v := ?vc1) (a1 := ?xc1) rfl (by kernel_rfl) (by kernel_rfl) (by kernel_rfl) (fun _ _ _ h => h) (Or.inl ⟨by rfl, ?yc1⟩) (by assumption) ?hc1 ?zc1
      case yc1 => (intro w hSw; (try dsimp only at hSw); go_simp; try (with_reducible rfl))
      case hc1 => (go_simp; exact rfl)
      case zc1 =>
      refine wpAnyH_at (i := 2) (v := ?vc2) (a1 := ?xc2) rfl (by kernel_rfl) (by kernel_rfl) (by kernel_rfl) (fun _ _ _ h => h) (Or.inl ⟨by rfl, ?yc2⟩) (by assumption) ?hc2 ?zc2
      case yc2 => (intro w hSw; (try dsimp only at hSw); go_simp; try (with_reducible rfl))
      case hc2 => (go_simp; exact rfl)
      case zc2 =>
      refine wpAnyH_at (i := 3) (v := ?vc3) (a1 := ?xc3) rfl (by kernel_rfl) (by kernel_rfl) (by kernel_rfl) (fun _ _ _ h => h) (Or.inl ⟨by rfl, ?yc3⟩) (by assumption) ?hc3 ?zc3
      case yc3 => (intro w hSw; (try dsimp only at hSw); go_simp; try (with_reducible rfl))
      case hc3 => (go_simp; exact rfl)
      case zc3 =>
      refine wpAnyH_at (i := 4) (v := ?vc4) (a1 := ?xc4) rfl (by kernel_rfl) (by kernel_rfl) (by kernel_rfl) (fun _ _ _ h => h) (Or.inl ⟨by rfl, ?yc4⟩) (by assumption) ?hc4 ?zc4
      case yc4 => (intro w hSw; (try dsimp only at hSw); go_simp; try (with_reducible rfl))
      case hc4 => (go_simp; exact rfl)
      case zc4 =>
      refine wpAnyH_ready (rs := [5]) (by kernel_rfl) (by simp) ?_
      refine AllReadyH.cons rfl (fun K hK => ?_) AllReadyH.nil
      go_simp
      refine (C5.out _ (K3.out.keep ((Below.refl _ _).drew))).mono ?_
      rintro e x4 ⟨rfl, k4⟩
      have K4 := hide k4
      clear k4
      try go_wp2_with fail
      refine hK.out _ _ ((HX.out _ _ K4.out)) (fun hHeld2 => ?_)
      clear hK K hHeld
      have hHeld := hHeld2
      clear hHeld2
      refine wpAnyH_done (by kernel_rfl) ?_ _
      clear C5 K3
      go_wp2_with fail
      go_roundg (gk - 1)
      case measure => omega
      case rel => exact ⟨i + 1, by omega, by first | rfl | simp, hide K4.out.base⟩
    · have dlt : decide (i < N) = false := decide_eq_false hlt
      have HE : Hid (LW w0 w0 wr B a (acc ++ fld (dec N) ++ flds (two PS))) := hide (by
        have h1 := HR.out
        rw [List.take_of_length_le (by rw [HPS.out.1]; omega)] at h1
        exact h1)
      clear HR C2 C3 hlt hi
      go_wp2_with fail
      go_end0
      exact ⟨rfl, HE.out⟩
end Go.Proofs.YtmogplecohkjcaaGreatDoor
