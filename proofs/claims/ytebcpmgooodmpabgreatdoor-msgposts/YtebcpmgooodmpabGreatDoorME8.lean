/-
  The program's reader: text, number, many.
-/
import Derived.Test.YtebcpmgooodmpabGreatDoorME2b
import Derived.Test.YtebcpmgooodmpabGreatDoorME3
namespace Go.Proofs.YtebcpmgooodmpabGreatDoor
open Go.RowKit
open Utf1
open Pol8 hiding text right Right
open Msg15

/-- A reader's block. -/
def RdB (w : World) (B : Nat) (s : ByteArray) : Prop := w.heap[B]? = some (.cells #[.string s] 59 (0, 0))
theorem grownBy_of {w w' : World} {B : Option Nat} (h : Below w.heap.size w w') : w.grownBy w' B := ⟨h.os, h.tape, h.output, h.size, fun k hk _ => h.block k hk⟩
theorem grownBy_set (w : World) (B j : Nat) (v : Value) : w.grownBy (w.setCell ⟨B, j, none⟩ v) (some B) :=
  ⟨rfl, rfl, rfl, by simp, fun k _ hne => Below.heap_setCell _ _ _ _ (fun e => hne (by rw [e]))⟩
theorem grownBy_trans {w w1 w2 : World} {B : Nat} (h1 : w.grownBy w1 (some B)) (h2 : w1.grownBy w2 (some B)) : w.grownBy w2 (some B) :=
  ⟨h2.os.trans h1.os, h2.tape.trans h1.tape, h2.output.trans h1.output, Nat.le_trans h1.size h2.size, fun k hk hne => (h2.block k (Nat.lt_of_lt_of_le hk h1.size) hne).trans (h1.block k hk hne)⟩

set_option maxRecDepth 100000 in
set_option maxHeartbeats 8000000 in
theorem erd_text (s : ByteArray) (hs : s.size ≤ 100000) (w : World) (B : Nat) (h : RdB w B s) (hg : Glob w) (hge : GlobE w) :
    Calls Tryz.prog 24 #[.pointer (some ⟨B, 0, none⟩)] w fun e w' => (∃ t r : ByteArray, e = .returned (.string t) ∧ Rdr (bl s) (bl t) (bl r) ∧ t.size ≤ s.size ∧ r.size ≤ s.size ∧ RdB w' B r) ∧ w.grownBy w' (some B) := by
  have C1 := hide (ecut_any s hs w hg hge)
  have c0 : w.cell? ⟨B, 0, none⟩ = some (.string s) := tag_cell h 0 _ rfl
  have HB := hide h
  have HBl : Hid (B < w.heap.size) := hide (Array.getElem?_eq_some_iff.1 h).1
  clear h hg hge
  go_enter Tryz.func24, Tryz.ntmps24
  go_wp2_with fail
  refine C1.out.mono ?_
  rintro e w1 ⟨⟨t, r, b, rfl, hq⟩, hb1⟩
  have hsz := cutQ_sizes hq
  have HRD : Hid (Rdr (bl s) (bl t) (bl r)) := hide (by
    rcases hq with ⟨_, h⟩ | ⟨_, rfl, rfl, h⟩
    · exact .inl h
    · exact .inr ⟨h, rfl, rfl⟩)
  have hB1 : RdB w1 B s := (hb1.block B HBl.out).trans HB.out
  have HB1 := hide hB1
  have HG1 : Hid (w.grownBy w1 (some B)) := hide (grownBy_of hb1)
  have d0 : w1.cell? ⟨B, 0, none⟩ = some (.string s) := tag_cell hB1 0 _ rfl
  have f0 := etag_free hB1 0
  obtain ⟨ht, hr, -⟩ := hsz
  have HSZ := hide (And.intro ht hr)
  have C2 := hide (fun wx => pclone_any t (by omega) wx)
  have H2 : Hid (RdB (w1.setCell ⟨B, 0, none⟩ (.string r)) B r) := hide (etok_set hB1 0 (.string r))
  have HG2 := hide (grownBy_trans HG1.out (grownBy_set w1 B 0 (.string r)))
  clear hq hb1 hB1 C1 ht hr c0
  go_wp2_with fail
  refine (C2.out _).mono ?_
  rintro e w3 ⟨rfl, hb3⟩
  have H3 : Hid (RdB w3 B r ∧ w.grownBy w3 (some B)) := hide ⟨(hb3.block B (Array.getElem?_eq_some_iff.1 H2.out).1).trans H2.out, grownBy_trans HG2.out (grownBy_of hb3)⟩
  clear hb3 C2 H2 HG2
  go_wp2_with fail
  go_ret
  exact ⟨⟨t, r, rfl, HRD.out, HSZ.out.1, HSZ.out.2, H3.out.1⟩, H3.out.2⟩

set_option maxRecDepth 100000 in
set_option maxHeartbeats 8000000 in
theorem erd_number (s : ByteArray) (hs : s.size ≤ 100000) (w : World) (B : Nat) (h : RdB w B s) (hg : Glob w) (hge : GlobE w) (base : Nat) (hbb : base ≤ B) (hgb : ∀ wx : World, Below base w wx → GlobE wx) :
    Calls Tryz.prog 22 #[.pointer (some ⟨B, 0, none⟩)] w fun e w' => (∃ (v : Int) (t r : ByteArray), e = .returned (.int .i64 v) ∧ Nm (bl t) v ∧ Rdr (bl s) (bl t) (bl r) ∧ t.size ≤ s.size ∧ r.size ≤ s.size ∧ RdB w' B r) ∧ w.grownBy w' (some B) := by
  have C1 := hide (erd_text s hs w B h hg hge)
  have HBl : Hid (B < w.heap.size) := hide (Array.getElem?_eq_some_iff.1 h).1
  have HGE := hide hgb
  have HBB := hide hbb
  clear h hg hge hgb hbb
  go_enter Tryz.func22, Tryz.ntmps22
  go_wp2_with fail
  refine C1.out.mono ?_
  rintro e w1 ⟨⟨t, r, rfl, hq, ht, hr, hb⟩, hg1⟩
  have HQ := hide (And.intro hq (And.intro ht hr))
  have HB1 := hide hb
  have HG1 := hide hg1
  have hB1 : Below base w w1 := (Below.refl base w).grown hg1 (by have := HBl.out; have := HBB.out; omega) (fun k hk => by injection hk with hk; rw [← hk]; exact HBB.out)
  have C2 := hide (eatoi_any t (by omega) w1 (HGE.out w1 hB1))
  clear hq ht hr hb hg1 C1 hB1
  go_wp2_with fail
  refine C2.out.mono ?_
  rintro e w2 ⟨⟨n, ev, rfl, hor⟩, hb2⟩
  have HN : Hid (Nm (bl t) n) := hide (fun k hk e => by
    rcases hor with ⟨h1, _⟩ | ⟨h1, _⟩
    · rw [e, atoi_dec k hk] at h1
      injection h1 with h1
      exact h1.symm
    · rw [e] at h1
      exact absurd (atoi_dec k hk) (h1 _))
  have H2 : Hid (RdB w2 B r ∧ w.grownBy w2 (some B)) := hide ⟨(hb2.block B (Array.getElem?_eq_some_iff.1 HB1.out).1).trans HB1.out, grownBy_trans HG1.out (grownBy_of hb2)⟩
  obtain ⟨EV, hEV⟩ : ∃ EV, EV = ev := ⟨_, rfl⟩
  subst hEV
  clear hor hb2 C2
  go_wp2_with fail
  go_ret
  exact ⟨⟨n, t, r, rfl, HN.out, HQ.out.1, HQ.out.2.1, HQ.out.2.2, H2.out.1⟩, H2.out.2⟩

set_option maxRecDepth 100000 in
set_option maxHeartbeats 8000000 in
theorem erd_many (s : ByteArray) (hs : s.size ≤ 100000) (w : World) (B : Nat) (h : RdB w B s) (hg : Glob w) (hge : GlobE w) (base : Nat) (hbb : base ≤ B) (hgb : ∀ wx : World, Below base w wx → GlobE wx) :
    Calls Tryz.prog 23 #[.pointer (some ⟨B, 0, none⟩)] w fun e w' => (∃ (z : Int) (t r : ByteArray), e = .returned (.int .i64 z) ∧ (∃ v, Nm (bl t) v ∧ z = min v 64) ∧ Rdr (bl s) (bl t) (bl r) ∧ t.size ≤ s.size ∧ r.size ≤ s.size ∧ RdB w' B r) ∧ w.grownBy w' (some B) := by
  have C1 := hide (erd_number s hs w B h hg hge base hbb hgb)
  clear h hg hge hgb hbb
  go_enter Tryz.func23, Tryz.ntmps23
  go_wp2_with fail
  refine C1.out.mono ?_
  rintro e w1 ⟨⟨v, t, r, rfl, hn, hq, ht, hr, hb⟩, hg1⟩
  have HQ := hide (And.intro hq (And.intro ht (And.intro hr (And.intro hb hg1))))
  have HZ : Hid (∃ v', Nm (bl t) v' ∧ min v 64 = min v' 64) := hide ⟨v, hn, rfl⟩
  clear hq ht hr hb hg1 hn C1
  obtain ⟨z, hz⟩ : ∃ z, z = min v 64 := ⟨_, rfl⟩
  rw [← hz] at HZ
  have HZZ := hide hz
  clear hz
  go_wp2_with fail
  go_ret
  refine ⟨⟨z, t, r, ?_, HZ.out, HQ.out.1, HQ.out.2.1, HQ.out.2.2.1, HQ.out.2.2.2.1⟩, HQ.out.2.2.2.2⟩
  rw [HZZ.out]
  rfl
end Go.Proofs.YtebcpmgooodmpabGreatDoor
