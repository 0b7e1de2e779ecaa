/-
  What Decode tells, by its shape; awake.
-/
import Derived.Test.YtebcpmgooodmpaaGreatDoorME10
namespace Go.Proofs.YtebcpmgooodmpaaGreatDoor
open Go.RowKit
open Utf1
open Pol8 hiding text right Right
open Msg15

theorem DecQ.shape {w : World} {s : L} {e : Ending} (h : DecQ w s e) : ∃ (m : Ms) (z : Int) (pi : Option Addr) (ni ci : Nat) (pp : Option Addr) (np cp : Nat) (q1 : Option Addr) (n1 c1 : Nat) (q2 : Option Addr) (n2 c2 : Nat) (q3 : Option Addr) (n3 c3 : Nat) (q4 : Option Addr) (n4 c4 : Nat) (q5 : Option Addr) (n5 c5 : Nat) (ids : List ByteArray) (ts : List (ByteArray × ByteArray)) (l1 l2 l3 l4 l5 : List ByteArray), e = .returned (.tuple #[.agg #[.int .i64 m.kind, .int .i64 m.fr, .int .i64 m.to, .int .i64 m.ep, .slice pi ni ci, .slice pp np cp, .int .i64 m.pol.ep, .slice q1 n1 c1, .slice q2 n2 c2, .slice q3 n3 c3, .slice q4 n4 c4, .slice q5 n5 c5, .int .i64 m.pol.dp, .int .i64 m.pol.nd, .int .i64 m.pol.bt], .int .i64 z]) ∧ MV w m (.slice pi ni ci) (.slice pp np cp) (.slice q1 n1 c1) (.slice q2 n2 c2) (.slice q3 n3 c3) (.slice q4 n4 c4) (.slice q5 n5 c5) ids ts l1 l2 l3 l4 l5 ∧ Dcd s m z := by
  obtain ⟨m, z, vi, vp, v1, v2, v3, v4, v5, ids, ts, l1, l2, l3, l4, l5, rfl, hmv, hd⟩ := h
  obtain ⟨pi, ni, ci, rfl⟩ : ∃ q n c, vi = .slice q n c := by obtain ⟨q, c, e, -, -⟩ := hmv.hi; exact ⟨_, _, _, e⟩
  obtain ⟨pp, np, cp, rfl⟩ : ∃ q n c, vp = .slice q n c := by obtain ⟨q, c, e, -, -, -⟩ := hmv.hp; exact ⟨_, _, _, e⟩
  obtain ⟨q1, n1, c1, rfl⟩ : ∃ q n c, v1 = .slice q n c := by obtain ⟨q, c, e, -, -⟩ := hmv.hv.s1; exact ⟨_, _, _, e⟩
  obtain ⟨q2, n2, c2, rfl⟩ : ∃ q n c, v2 = .slice q n c := by obtain ⟨q, c, e, -, -⟩ := hmv.hv.s2; exact ⟨_, _, _, e⟩
  obtain ⟨q3, n3, c3, rfl⟩ : ∃ q n c, v3 = .slice q n c := by obtain ⟨q, c, e, -, -⟩ := hmv.hv.s3; exact ⟨_, _, _, e⟩
  obtain ⟨q4, n4, c4, rfl⟩ : ∃ q n c, v4 = .slice q n c := by obtain ⟨q, c, e, -, -⟩ := hmv.hv.s4; exact ⟨_, _, _, e⟩
  obtain ⟨q5, n5, c5, rfl⟩ : ∃ q n c, v5 = .slice q n c := by obtain ⟨q, c, e, -, -⟩ := hmv.hv.s5; exact ⟨_, _, _, e⟩
  exact ⟨m, z, pi, ni, ci, pp, np, cp, q1, n1, c1, q2, n2, c2, q3, n3, c3, q4, n4, c4, q5, n5, c5, ids, ts, l1, l2, l3, l4, l5, rfl, hmv, hd⟩
def awM : Ms := ⟨4, 1, 0, 2, [], [], Pol.zero⟩
theorem ackR {f t e : Int} (h1 : 0 ≤ f ∧ f ≤ 5) (h2 : 0 ≤ t ∧ t ≤ 5) (h3 : f ≠ t) (h4 : 0 ≤ e ∧ e ≤ 1000000) : MRight ⟨4, f, t, e, [], [], Pol.zero⟩ :=
  ⟨h1, h2, h3, h4, ⟨by show (1 : Int) ≤ 4; decide, by show (4 : Int) ≤ 4; decide⟩, fun _ => rfl, fun _ => rfl, fun _ => rfl, fun h => (by rcases h with h | h <;> cases h), fun h => (by cases h), riseI_nil, riseI_nil, fun q hq => (by cases hq)⟩
theorem ackR_to {f t e : Int} (h : MRight ⟨4, f, t, e, [], [], Pol.zero⟩) : (0 ≤ f ∧ f ≤ 5) ∧ (0 ≤ t ∧ t ≤ 5) ∧ f ≠ t ∧ (0 ≤ e ∧ e ≤ 1000000) := ⟨h.fr, h.to, h.ne, h.ep⟩
theorem awM_right : MRight awM := ackR (by decide) (by decide) (by decide) (by decide)
theorem awM_text : textM awM = [49, 58, 52, 44, 49, 58, 49, 44, 49, 58, 48, 44, 49, 58, 50, 44] := by
  have d : ∀ n : Nat, n < 10 → fld (dec n) = [49, 58, UInt8.ofNat (48 + n), 44] := fun n hn => by
    unfold fld
    rw [dec_small n hn]
    show dec 1 ++ _ = _
    rw [dec_small 1 (by decide)]
    rfl
  show fld (dec 4) ++ (fld (dec 1) ++ (fld (dec 0) ++ (fld (dec 2) ++ []))) = _
  rw [d 4 (by decide), d 1 (by decide), d 0 (by decide), d 2 (by decide)]
  rfl

set_option maxRecDepth 100000 in
set_option maxHeartbeats 8000000 in
theorem eawake_any (w : World) (hg : Glob w) (hge : GlobE w) :
    Calls Tryz.prog 9 #[] w fun e w' => e = .returned (.bool true) ∧ Below w.heap.size w w' := by
  have C1 : Hid (Calls Tryz.prog 11 #[.agg #[.int .i64 4, .int .i64 1, .int .i64 0, .int .i64 2, .slice none 0 0, .slice none 0 0, .int .i64 0, .slice none 0 0, .slice none 0 0, .slice none 0 0, .slice none 0 0, .slice none 0 0, .int .i64 0, .int .i64 0, .int .i64 0]] w fun e w' => e = .returned (.tuple #[.string ⟨#[49, 58, 52, 44, 49, 58, 49, 44, 49, 58, 48, 44, 49, 58, 50, 44]⟩, .int .i64 0]) ∧ Below w.heap.size w w') := hide (by
    refine (eencode_any awM _ _ _ _ _ _ _ [] [] [] [] [] [] [] w (MV.bare 4 1 0 2 hg)).mono ?_
    rintro e w' ⟨hq, hb⟩
    rcases hq with ⟨_, rfl⟩ | ⟨hn, _⟩
    · rw [awM_text]
      exact ⟨rfl, hb⟩
    · exact absurd awM_right hn)
  have C2 : Hid (∀ wx, Below w.heap.size w wx → Calls Tryz.prog 15 #[.string ⟨#[49, 58, 52, 44, 49, 58, 49, 44, 49, 58, 48, 44, 49, 58, 50, 44]⟩] wx fun e w' => DecQ w' (textM awM) e ∧ Below wx.heap.size wx w') := hide (fun wx hx => by
    rw [awM_text]
    exact edecode_any ⟨#[49, 58, 52, 44, 49, 58, 49, 44, 49, 58, 48, 44, 49, 58, 50, 44]⟩ (by decide) wx (hg.below hx) (hge.below hx))
  clear hg hge
  go_enter Tryz.func9, Tryz.ntmps9
  go_wp2_with fail
  refine C1.out.mono ?_
  rintro e w1 ⟨rfl, hb1⟩
  have HB1 := hide hb1
  clear hb1 C1
  go_wp2_with fail
  refine (C2.out w1 HB1.out).mono ?_
  rintro e w2 ⟨hq, hb2⟩
  obtain ⟨m, z, pi, ni, ci, pp, np, cp, q1, n1, c1, q2, n2, c2, q3, n3, c3, q4, n4, c4, q5, n5, c5, ids, ts, l1, l2, l3, l4, l5, rfl, -, hd⟩ := hq.shape
  obtain ⟨rfl, rfl⟩ := hd.one (dcd_text awM_right)
  obtain ⟨w3, hw3⟩ : ∃ w3, w3 = w2.alloc (.cells #[.int .i64 awM.kind, .int .i64 awM.fr, .int .i64 awM.to, .int .i64 awM.ep, .slice pi ni ci, .slice pp np cp, .int .i64 awM.pol.ep, .slice q1 n1 c1, .slice q2 n2 c2, .slice q3 n3 c3, .slice q4 n4 c4, .slice q5 n5 c5, .int .i64 awM.pol.dp, .int .i64 awM.pol.nd, .int .i64 awM.pol.bt] 27) := ⟨_, rfl⟩
  have HB3 : Hid (Below w.heap.size w w3) := hide (by rw [hw3]; exact bel_alloc (HB1.out.trans (hb2.mono HB1.out.size)) _)
  have y3 : w3.cell? ⟨w2.heap.size, 3, none⟩ = some (.int .i64 2) := by rw [hw3]; exact tag_cell (new_block _ _ _) 3 _ rfl
  clear hq hd hb2 C2 HB1
  go_upto_region 3 with fail
  rw [← hw3]
  clear hw3
  go_wp2_with fail
  go_ret
  exact ⟨rfl, HB3.out⟩
end Go.Proofs.YtebcpmgooodmpaaGreatDoor
