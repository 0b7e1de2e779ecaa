/-
  The program's reader: text, number, many.
-/
import Derived.Test.YtmogplecohkjcaaGreatDoorME2Z
import Derived.Test.YtmogplecohkjcaaGreatDoorME3
import Derived.Test.YtmogplecohkjcaaGreatDoorME7
import Derived.Test.YtmogplecohkjcaaGreatDoorR15
import Derived.Deep.MidRow
namespace Go.Proofs.YtmogplecohkjcaaGreatDoor
open Go.RowKit
open Utf1
open Pol8 hiding text right Right
open Msg15

/-- A reader's block. -/
def RdB (w : World) (B : Nat) (s : ByteArray) : Prop := w.heap[B]? = some (.cells #[.string s] 104 (0, 0))
theorem grownBy_of {w w' : World} {B : Option Nat} (h : Below w.heap.size w w') : w.grownBy w' B := ⟨h.os, h.tape, h.output, h.size, fun k hk _ => h.block k hk⟩
theorem grownBy_set (w : World) (B j : Nat) (v : Value) : w.grownBy (w.setCell ⟨B, j, none⟩ v) (some B) :=
  ⟨rfl, rfl, rfl, by simp, fun k _ hne => Below.heap_setCell _ _ _ _ (fun e => hne (by rw [e]))⟩
theorem grownBy_trans {w w1 w2 : World} {B : Nat} (h1 : w.grownBy w1 (some B)) (h2 : w1.grownBy w2 (some B)) : w.grownBy w2 (some B) :=
  ⟨h2.os.trans h1.os, h2.tape.trans h1.tape, h2.output.trans h1.output, Nat.le_trans h1.size h2.size, fun k hk hne => (h2.block k (Nat.lt_of_lt_of_le hk h1.size) hne).trans (h1.block k hk hne)⟩

set_option maxRecDepth 100000 in
set_option maxHeartbeats 8000000 in
theorem erd_text (s : ByteArray) (hs : s.size ≤ 100000) (w : World) (B : Nat) (h : RdB w B s) (hg : Glob w) (hge : GlobE w) :
    Calls Tryz.prog 80 #[.pointer (some ⟨B, 0, none⟩)] w fun e w' => (∃ t r : ByteArray, e = .returned (.string t) ∧ Rdr (bl s) (bl t) (bl r) ∧ t.size ≤ s.size ∧ r.size ≤ s.size ∧ RdB w' B r) ∧ w.grownBy w' (some B) := by
  have C1 := hide (ecut_any s hs w hg hge)
  have c0 : w.cell? ⟨B, 0, none⟩ = some (.string s) := tag_cell h 0 _ rfl
  have HB := hide h
  have HBl : Hid (B < w.heap.size) := hide (Array.getElem?_eq_some_iff.1 h).1
  clear h hg hge
  go_enter Tryz.func80, Tryz.ntmps80
  go_wp2_with fail
  refine C1.out.mono ?_
  rintro e w1 ⟨⟨t, r, b, rfl, hq⟩, hb1⟩
  have hsz := cutQ_sizes hq
  have HRD : Hid (Rdr (bl s) (bl t) (bl r)) := hide (by
    rcases hq with ⟨_, h⟩ | ⟨_, rfl, rfl, h⟩
    · exact .inl h
    · exact .inr ⟨h, rfl, rfl⟩)
  have hB1 : RdB w1 B s := (hb1.block B HBl.out).trans HB.out
  have HB1 := hide hB1
  have HG1 : Hid (w.grownBy w1 (some B)) := hide (grownBy_of hb1)
  have d0 : w1.cell? ⟨B, 0, none⟩ = some (.string s) := tag_cell hB1 0 _ rfl
  have f0 := etag_free hB1 0
  obtain ⟨ht, hr, -⟩ := hsz
  have HSZ := hide (And.intro ht hr)
  have C2 := hide (fun wx => pclone_any t (by omega) wx)
  have H2 : Hid (RdB (w1.setCell ⟨B, 0, none⟩ (.string r)) B r) := hide (etok_set hB1 0 (.string r))
  have HG2 := hide (grownBy_trans HG1.out (grownBy_set w1 B 0 (.string r)))
  clear hq hb1 hB1 C1 ht hr c0
  go_wp2_with fail
  refine (C2.out _).mono ?_
  rintro e w3 ⟨rfl, hb3⟩
  have H3 : Hid (RdB w3 B r ∧ w.grownBy w3 (some B)) := hide ⟨(hb3.block B (Array.getElem?_eq_some_iff.1 H2.out).1).trans H2.out, grownBy_trans HG2.out (grownBy_of hb3)⟩
  clear hb3 C2 H2 HG2
  go_wp2_with fail
  go_ret
  exact ⟨⟨t, r, rfl, HRD.out, HSZ.out.1, HSZ.out.2, H3.out.1⟩, H3.out.2⟩

set_option maxRecDepth 100000 in
set_option maxHeartbeats 8000000 in
theorem erd_number (s : ByteArray) (hs : s.size ≤ 100000) (w : World) (B : Nat) (h : RdB w B s) (hg : Glob w) (hge : GlobE w) (base : Nat) (hbb : base ≤ B) (hgb : ∀ wx : World, Below base w wx → GlobE wx) :
    Calls Tryz.prog 78 #[.pointer (some ⟨B, 0, none⟩)] w fun e w' => (∃ (v : Int) (t r : ByteArray), e = .returned (.int .i64 v) ∧ Nm (bl t) v ∧ Rdr (bl s) (bl t) (bl r) ∧ t.size ≤ s.size ∧ r.size ≤ s.size ∧ RdB w' B r) ∧ w.grownBy w' (some B) := by
  have C1 := hide (erd_text s hs w B h hg hge)
  have HBl : Hid (B < w.heap.size) := hide (Array.getElem?_eq_some_iff.1 h).1
  have HGE := hide hgb
  have HBB := hide hbb
  clear h hg hge hgb hbb
  go_enter Tryz.func78, Tryz.ntmps78
  go_wp2_with fail
  refine C1.out.mono ?_
  rintro e w1 ⟨⟨t, r, rfl, hq, ht, hr, hb⟩, hg1⟩
  have HQ := hide (And.intro hq (And.intro ht hr))
  have HB1 := hide hb
  have HG1 := hide hg1
  have hB1 : Below base w w1 := (Below.refl base w).grown hg1 (by have := HBl.out; have := HBB.out; omega) (fun k hk => by injection hk with hk; rw [← hk]; exact HBB.out)
  have C2 := hide (eatoi_any t (by omega) w1 (HGE.out w1 hB1))
  clear hq ht hr hb hg1 C1 hB1
  go_wp2_with fail
  refine C2.out.mono ?_
  rintro e w2 ⟨⟨n, ev, rfl, hor⟩, hb2⟩
  have HN : Hid (Nm (bl t) n) := hide (fun k hk e => by
    rcases hor with ⟨h1, _⟩ | ⟨h1, _⟩
    · rw [e, atoi_dec k hk] at h1
      injection h1 with h1
      exact h1.symm
    · rw [e] at h1
      exact absurd (atoi_dec k hk) (h1 _))
  have H2 : Hid (RdB w2 B r ∧ w.grownBy w2 (some B)) := hide ⟨(hb2.block B (Array.getElem?_eq_some_iff.1 HB1.out).1).trans HB1.out, grownBy_trans HG1.out (grownBy_of hb2)⟩
  obtain ⟨EV, hEV⟩ : ∃ EV, EV = ev := ⟨_, rfl⟩
  subst hEV
  clear hor hb2 C2
  go_wp2_with fail
  go_ret
  exact ⟨⟨n, t, r, rfl, HN.out, HQ.out.1, HQ.out.2.1, HQ.out.2.2, H2.out.1⟩, H2.out.2⟩

set_option maxRecDepth 100000 in
set_option maxHeartbeats 8000000 in
theorem erd_many (s : ByteArray) (hs : s.size ≤ 100000) (w : World) (B : Nat) (h : RdB w B s) (hg : Glob w) (hge : GlobE w) (base : Nat) (hbb : base ≤ B) (hgb : ∀ wx : World, Below base w wx → GlobE wx) :
    Calls Tryz.prog 79 #[.pointer (some ⟨B, 0, none⟩)] w fun e w' => (∃ (z : Int) (t r : ByteArray), e = .returned (.int .i64 z) ∧ (∃ v, Nm (bl t) v ∧ z = min v 64) ∧ Rdr (bl s) (bl t) (bl r) ∧ t.size ≤ s.size ∧ r.size ≤ s.size ∧ RdB w' B r) ∧ w.grownBy w' (some B) := by
  have C1 := hide (erd_number s hs w B h hg hge base hbb hgb)
  clear h hg hge hgb hbb
  go_enter Tryz.func79, Tryz.ntmps79
  go_wp2_with fail
  refine C1.out.mono ?_
  rintro e w1 ⟨⟨v, t, r, rfl, hn, hq, ht, hr, hb⟩, hg1⟩
  have HQ := hide (And.intro hq (And.intro ht (And.intro hr (And.intro hb hg1))))
  have HZ : Hid (∃ v', Nm (bl t) v' ∧ min v 64 = min v' 64) := hide ⟨v, hn, rfl⟩
  clear hq ht hr hb hg1 hn C1
  obtain ⟨z, hz⟩ : ∃ z, z = min v 64 := ⟨_, rfl⟩
  rw [← hz] at HZ
  have HZZ := hide hz
  clear hz
  go_wp2_with fail
  go_ret
  refine ⟨⟨z, t, r, ?_, HZ.out, HQ.out.1, HQ.out.2.1, HQ.out.2.2.1, HQ.out.2.2.2.1⟩, HQ.out.2.2.2.2⟩
  rw [HZZ.out]
  rfl
end Go.Proofs.YtmogplecohkjcaaGreatDoor

namespace Go.Proofs.YtmogplecohkjcaaGreatDoor
open Go.RowKit
open Utf1
open Pol8 hiding text right Right
open Msg15

/-- An empty message's cells. -/
abbrev zmsg : Array Value := #[.int .i64 0, .int .i64 0, .int .i64 0, .int .i64 0, .slice none 0 0, .slice none 0 0, .int .i64 0, .slice none 0 0, .slice none 0 0, .slice none 0 0, .slice none 0 0, .slice none 0 0, .int .i64 0, .int .i64 0, .int .i64 0]
structure RD (w : World) (A : Array Value) (cur : ByteArray) (wx : World) : Prop where
  b0 : wx.heap[w.heap.size]? = some (.cells zmsg 35 (0, 0))
  b1 : RdB wx (w.heap.size + 1) cur
  b2 : wx.heap[w.heap.size + 2]? = some (.cells A 35 (0, 0))
  bel : Below w.heap.size w wx
theorem RD.keep {w wx wy : World} {A : Array Value} {cur : ByteArray} (h : RD w A cur wx) (hb : Below wx.heap.size wx wy) : RD w A cur wy :=
  ⟨(hb.block _ (Array.getElem?_eq_some_iff.1 h.b0).1).trans h.b0, (hb.block _ (Array.getElem?_eq_some_iff.1 h.b1).1).trans h.b1, (hb.block _ (Array.getElem?_eq_some_iff.1 h.b2).1).trans h.b2, h.bel.trans (hb.mono h.bel.size)⟩
theorem RD.step {w wx wy : World} {A : Array Value} {cur r : ByteArray} (h : RD w A cur wx) (hg : wx.grownBy wy (some (w.heap.size + 1))) (hb : RdB wy (w.heap.size + 1) r) : RD w A r wy :=
  ⟨(hg.block _ (Array.getElem?_eq_some_iff.1 h.b0).1 (by simp)).trans h.b0, hb, (hg.block _ (Array.getElem?_eq_some_iff.1 h.b2).1 (by simp)).trans h.b2, h.bel.grown hg h.bel.size (fun k hk => by injection hk with hk; omega)⟩
theorem RD.set {w wx : World} {A : Array Value} {cur : ByteArray} (h : RD w A cur wx) (j : Nat) (v : Value) : RD w (A.setIfInBounds j v) cur (wx.setCell ⟨w.heap.size + 2, j, none⟩ v) :=
  ⟨by rw [Below.heap_setCell _ _ _ _ (show w.heap.size ≠ w.heap.size + 2 by omega)]; exact h.b0, by unfold RdB; rw [Below.heap_setCell _ _ _ _ (show w.heap.size + 1 ≠ w.heap.size + 2 by omega)]; exact h.b1, etok_set h.b2 j v, h.bel.setCell (p := ⟨w.heap.size + 2, j, none⟩) (Nat.le_add_right _ _) _⟩
theorem RD.grown {w wx wy : World} {A : Array Value} {cur : ByteArray} {e : TypeId} {sz n : Nat} {v : Value} {xs : List Value} (h : RD w A cur wx) (ho : wx.ownsRow w.heap.size e sz v n xs) (he : e ≠ 35) (he2 : e ≠ 104) (hg : wx.grownBy wy v.ownBlock) : RD w A cur wy :=
  ⟨(hg.block _ (Array.getElem?_eq_some_iff.1 h.b0).1 (fun x => eown_apart ho h.b0 he x.symm)).trans h.b0, (hg.block _ (Array.getElem?_eq_some_iff.1 h.b1).1 (fun x => eown_apart ho h.b1 he2 x.symm)).trans h.b1, (hg.block _ (Array.getElem?_eq_some_iff.1 h.b2).1 (fun x => eown_apart ho h.b2 he x.symm)).trans h.b2, h.bel.grown hg h.bel.size (fun k hk => (ho.lt k hk).1)⟩
theorem own_rd {w wx wy : World} {A : Array Value} {cur : ByteArray} {e : TypeId} {sz n : Nat} {v : Value} {xs : List Value} (h : RD w A cur wx) (ho : wx.ownsRow w.heap.size e sz v n xs) (he2 : e ≠ 104) (hg : wx.grownBy wy (some (w.heap.size + 1))) : wy.ownsRow w.heap.size e sz v n xs := by
  refine ho.kept hg ?_
  cases hv : v.ownBlock with
  | none => exact .inl rfl
  | some g => exact .inr (fun x => eown_apart ho h.b1 he2 (by rw [hv, x]))
theorem rd_text {w wx : World} {A : Array Value} {cur : ByteArray} (h : RD w A cur wx) (hs : cur.size ≤ 100000) (hg : Glob w) (hge : GlobE w) :
    Calls Tryz.prog 80 #[.pointer (some ⟨w.heap.size + 1, 0, none⟩)] wx fun e w' => ∃ t r : ByteArray, e = .returned (.string t) ∧ (Rdr (bl cur) (bl t) (bl r) ∧ t.size ≤ cur.size ∧ r.size ≤ cur.size) ∧ RD w A r w' ∧ wx.grownBy w' (some (w.heap.size + 1)) :=
  (erd_text cur hs wx _ h.b1 (hg.below h.bel) (hge.below h.bel)).mono fun _ _ ⟨⟨t, r, h1, h2, h3, h4, h5⟩, h6⟩ => ⟨t, r, h1, ⟨h2, h3, h4⟩, h.step h6 h5, h6⟩
theorem rd_number {w wx : World} {A : Array Value} {cur : ByteArray} (h : RD w A cur wx) (hs : cur.size ≤ 100000) (hg : Glob w) (hge : GlobE w) :
    Calls Tryz.prog 78 #[.pointer (some ⟨w.heap.size + 1, 0, none⟩)] wx fun e w' => ∃ (v : Int) (t r : ByteArray), e = .returned (.int .i64 v) ∧ (Nm (bl t) v ∧ Rdr (bl cur) (bl t) (bl r) ∧ t.size ≤ cur.size ∧ r.size ≤ cur.size) ∧ RD w A r w' :=
  (erd_number cur hs wx _ h.b1 (hg.below h.bel) (hge.below h.bel) w.heap.size (by omega) (fun _ hy => hge.below (h.bel.trans hy))).mono fun _ _ ⟨⟨v, t, r, h1, h2, h3, h4, h5, h6⟩, h7⟩ => ⟨v, t, r, h1, ⟨h2, h3, h4, h5⟩, h.step h7 h6⟩
theorem rd_many {w wx : World} {A : Array Value} {cur : ByteArray} (h : RD w A cur wx) (hs : cur.size ≤ 100000) (hg : Glob w) (hge : GlobE w) :
    Calls Tryz.prog 79 #[.pointer (some ⟨w.heap.size + 1, 0, none⟩)] wx fun e w' => ∃ (z : Int) (t r : ByteArray), e = .returned (.int .i64 z) ∧ ((∃ v, Nm (bl t) v ∧ z = min v 64) ∧ Rdr (bl cur) (bl t) (bl r) ∧ t.size ≤ cur.size ∧ r.size ≤ cur.size) ∧ RD w A r w' :=
  (erd_many cur hs wx _ h.b1 (hg.below h.bel) (hge.below h.bel) w.heap.size (by omega) (fun _ hy => hge.below (h.bel.trans hy))).mono fun _ _ ⟨⟨v, t, r, h1, h2, h3, h4, h5, h6⟩, h7⟩ => ⟨v, t, r, h1, ⟨h2, h3, h4, h5⟩, h.step h7 h6⟩

/-- No text among the cells. -/
def noS (A : Array Value) : Prop := ∀ (j : Nat) (y : ByteArray), A[j]? ≠ some (.string y)
theorem noS_zmsg : noS zmsg := by
  intro j y h
  have hm := Array.mem_of_getElem? h
  simp at hm
theorem off_of {w : World} {g b o : Nat} {A : Array Value} {t : TypeId} {y : ByteArray} (hg : w.heap[g]? = some (.cells A t (0, 0))) (hA : noS A) (hc : w.cell? ⟨b, o, none⟩ = some (.string y)) : b ≠ g := by
  rintro rfl
  unfold World.cell? at hc
  rw [hg] at hc
  exact hA _ _ hc
theorem strArg_at {w : World} {v : Value} {ss : List ByteArray} {g : Nat} {A : Array Value} {t : TypeId} (h : StrArg w v ss) (hg : w.heap[g]? = some (.cells A t (0, 0))) (hA : noS A) {w' : World} (hw : ∀ k, k ≠ g → w'.heap[k]? = w.heap[k]?) : StrArg w' v ss := by
  obtain ⟨p, cap, e, h0, hc⟩ := h
  refine ⟨p, cap, e, h0, fun i s hi => ?_⟩
  obtain ⟨b, off, hp, hcell⟩ := hc i s hi
  have hb := off_of hg hA hcell
  refine ⟨b, off, hp, ?_⟩
  unfold World.cell? at hcell ⊢
  rw [hw b hb]
  exact hcell
theorem postRow_at {w : World} {v : Value} {ts : List (ByteArray × ByteArray)} {g : Nat} {A : Array Value} {t : TypeId} (h : PostRow w v ts) (hg : w.heap[g]? = some (.cells A t (0, 0))) (hA : noS A) {w' : World} (hw : ∀ k, k ≠ g → w'.heap[k]? = w.heap[k]?) : PostRow w' v ts := by
  obtain ⟨p, cap, e, h1, h0, hc⟩ := h
  refine ⟨p, cap, e, h1, h0, fun i a b hi => ?_⟩
  obtain ⟨g', off, hp, x, y⟩ := hc i a b hi
  have hb := off_of hg hA x
  refine ⟨g', off, hp, ?_, ?_⟩
  · unfold World.cell? at x ⊢
    rw [hw g' hb]
    exact x
  · unfold World.cell? at y ⊢
    rw [hw g' hb]
    exact y
theorem MV.at' {w : World} {m : Ms} {vi vp v1 v2 v3 v4 v5 : Value} {ids : List ByteArray} {ts : List (ByteArray × ByteArray)} {l1 l2 l3 l4 l5 : List ByteArray} {g : Nat} {A : Array Value} {t : TypeId} (h : MV w m vi vp v1 v2 v3 v4 v5 ids ts l1 l2 l3 l4 l5) (hg : w.heap[g]? = some (.cells A t (0, 0))) (hA : noS A) {w' : World} (hw : ∀ k, k ≠ g → w'.heap[k]? = w.heap[k]?) (hG : Glob w') : MV w' m vi vp v1 v2 v3 v4 v5 ids ts l1 l2 l3 l4 l5 :=
  ⟨strArg_at h.hi hg hA hw, postRow_at h.hp hg hA hw, ⟨strArg_at h.hv.s1 hg hA hw, strArg_at h.hv.s2 hg hA hw, strArg_at h.hv.s3 hg hA hw, strArg_at h.hv.s4 hg hA hw, strArg_at h.hv.s5 hg hA hw, h.hv.e1, h.hv.e2, h.hv.e3, h.hv.e4, h.hv.e5, hG⟩, h.ei, h.ep, h.hf, h.li, h.lp⟩
theorem postRow_nil (w : World) : PostRow w (.slice none 0 0) [] := ⟨none, 0, rfl, Nat.le_refl _, fun _ => rfl, fun i a b h => by simp at h⟩
/-- A message of no lists. -/
theorem MV.bare {w : World} (k f t e : Int) (hg : Glob w) : MV w ⟨k, f, t, e, [], [], Pol.zero⟩ (.slice none 0 0) (.slice none 0 0) (.slice none 0 0) (.slice none 0 0) (.slice none 0 0) (.slice none 0 0) (.slice none 0 0) [] [] [] [] [] [] [] :=
  ⟨strArg_nil w, postRow_nil w, PolV.zero w hg, rfl, rfl, fits_zero, by simp, by simp⟩
/-- Posts as cells. -/
def postV (ts : List (ByteArray × ByteArray)) : List Value := ts.flatMap fun x => [.string x.1, .string x.2]
theorem postV_len (ts : List (ByteArray × ByteArray)) : (postV ts).length = ts.length * 2 := by
  induction ts with
  | nil => rfl
  | cons x ts ih =>
    show (postV ts).length + 1 + 1 = (ts.length + 1) * 2
    omega
theorem postV_app (a b : List (ByteArray × ByteArray)) : postV (a ++ b) = postV a ++ postV b := List.flatMap_append
theorem postV_at : ∀ (ts : List (ByteArray × ByteArray)) (i : Nat) (x y : ByteArray), ts[i]? = some (x, y) → (postV ts)[i * 2]? = some (.string x) ∧ (postV ts)[i * 2 + 1]? = some (.string y)
  | [], i, x, y, h => by simp at h
  | z :: ts, 0, x, y, h => by
    have : z = (x, y) := by simpa using h
    subst this
    exact ⟨rfl, rfl⟩
  | z :: ts, i + 1, x, y, h => by
    have h' : ts[i]? = some (x, y) := by simpa using h
    have ih := postV_at ts i x y h'
    have e : (i + 1) * 2 = i * 2 + 1 + 1 := by omega
    rw [e]
    exact ih
theorem own_post {w : World} {B : Nat} {v : Value} {ts : List (ByteArray × ByteArray)} (h : w.ownsRow B 57 2 v ts.length (postV ts)) : PostRow w v ts := by
  obtain ⟨_, ⟨e, h0⟩ | ⟨g, cap, cur, e, _, _, h1, _⟩⟩ := id h
  · have : ts = [] := List.eq_nil_of_length_eq_zero h0
    subst this
    rw [e]
    exact postRow_nil w
  · subst e
    refine ⟨_, cap, rfl, h1, fun x => (by cases x), fun i x y hi => ⟨g, 0, rfl, ?_, ?_⟩⟩
    · have hl := (List.getElem?_eq_some_iff.1 hi).1
      rw [Nat.zero_add, h.cellAt (i * 2) (by omega)]
      exact (postV_at ts i x y hi).1
    · have hl := (List.getElem?_eq_some_iff.1 hi).1
      rw [Nat.zero_add, h.cellAt (i * 2 + 1) (by omega)]
      exact (postV_at ts i x y hi).2
theorem einfoPost : (Tryz.prog.info? 57).map (fun i => (i.zero, i.size, i.bytes)) = some (some (.agg #[.string ⟨#[]⟩, .string ⟨#[]⟩]), 2, 32) := by kernel_rfl
theorem setCells_heap {g : Nat} {t : TypeId} : ∀ (vs : List Value) (o : Nat) (w : World) (A : Array Value), w.heap[g]? = some (.cells A t (0, 0)) → ∃ A', (w.setCells g o vs).heap[g]? = some (.cells A' t (0, 0)) ∧ ∀ j, A'[j]? = if o ≤ j ∧ j < o + vs.length ∧ j < A.size then vs[j - o]? else A[j]?
  | [], o, w, A, h => ⟨A, h, fun j => by rw [if_neg (by simp; omega)]⟩
  | v :: vs, o, w, A, h => by
    rw [World.setCells]
    obtain ⟨A', h1, h2⟩ := setCells_heap vs (o + 1) _ _ (etok_set h o v)
    refine ⟨A', h1, fun j => ?_⟩
    rw [h2 j]
    simp only [Array.size_setIfInBounds, List.length_cons]
    by_cases hj : o + 1 ≤ j ∧ j < o + 1 + vs.length ∧ j < A.size
    · rw [if_pos hj, if_pos ⟨by omega, by omega, hj.2.2⟩, show j - o = (j - (o + 1)) + 1 by omega, List.getElem?_cons_succ]
    · rw [if_neg hj]
      by_cases hjo : j = o
      · subst hjo
        by_cases hl : j < A.size
        · rw [if_pos ⟨Nat.le_refl _, by omega, hl⟩, Nat.sub_self, Array.getElem?_setIfInBounds, if_pos rfl, if_pos hl]
          rfl
        · rw [if_neg (fun h => hl h.2.2), Array.getElem?_setIfInBounds, if_pos rfl, if_neg hl, Array.getElem?_eq_none (by omega)]
      · rw [if_neg (fun h => hj ⟨by omega, by omega, h.2.2⟩), Array.getElem?_setIfInBounds, if_neg (fun h => hjo h.symm)]
theorem setCells_other {g k : Nat} (hk : k ≠ g) : ∀ (vs : List Value) (o : Nat) (w : World), (w.setCells g o vs).heap[k]? = w.heap[k]?
  | [], _, _ => rfl
  | v :: vs, o, w => by
    rw [World.setCells, setCells_other hk vs (o + 1)]
    exact Below.heap_setCell _ _ _ _ hk
theorem setCells9 (w : World) (g : Nat) (v0 v1 v2 v3 v4 v5 v6 v7 v8 : Value) : w.setCells g 6 [v0, v1, v2, v3, v4, v5, v6, v7, v8] = ((((((((w.setCell ⟨g, 6, none⟩ v0).setCell ⟨g, 7, none⟩ v1).setCell ⟨g, 8, none⟩ v2).setCell ⟨g, 9, none⟩ v3).setCell ⟨g, 10, none⟩ v4).setCell ⟨g, 11, none⟩ v5).setCell ⟨g, 12, none⟩ v6).setCell ⟨g, 13, none⟩ v7).setCell ⟨g, 14, none⟩ v8 := rfl
theorem block9 {w : World} {g : Nat} {t : TypeId} (c0 c1 c2 c3 c4 c5 x0 x1 x2 x3 x4 x5 x6 x7 x8 v0 v1 v2 v3 v4 v5 v6 v7 v8 : Value) (h : w.heap[g]? = some (.cells #[c0, c1, c2, c3, c4, c5, x0, x1, x2, x3, x4, x5, x6, x7, x8] t (0, 0))) : (w.setCells g 6 [v0, v1, v2, v3, v4, v5, v6, v7, v8]).heap[g]? = some (.cells #[c0, c1, c2, c3, c4, c5, v0, v1, v2, v3, v4, v5, v6, v7, v8] t (0, 0)) := by
  rw [setCells9]
  have h6 : (w.setCell ⟨g, 6, none⟩ v0).heap[g]? = some (.cells #[c0, c1, c2, c3, c4, c5, v0, x1, x2, x3, x4, x5, x6, x7, x8] t (0, 0)) := etok_set h 6 v0
  have h7 : ((w.setCell ⟨g, 6, none⟩ v0).setCell ⟨g, 7, none⟩ v1).heap[g]? = some (.cells #[c0, c1, c2, c3, c4, c5, v0, v1, x2, x3, x4, x5, x6, x7, x8] t (0, 0)) := etok_set h6 7 v1
  have h8 : (((w.setCell ⟨g, 6, none⟩ v0).setCell ⟨g, 7, none⟩ v1).setCell ⟨g, 8, none⟩ v2).heap[g]? = some (.cells #[c0, c1, c2, c3, c4, c5, v0, v1, v2, x3, x4, x5, x6, x7, x8] t (0, 0)) := etok_set h7 8 v2
  have h9 : ((((w.setCell ⟨g, 6, none⟩ v0).setCell ⟨g, 7, none⟩ v1).setCell ⟨g, 8, none⟩ v2).setCell ⟨g, 9, none⟩ v3).heap[g]? = some (.cells #[c0, c1, c2, c3, c4, c5, v0, v1, v2, v3, x4, x5, x6, x7, x8] t (0, 0)) := etok_set h8 9 v3
  have h10 : (((((w.setCell ⟨g, 6, none⟩ v0).setCell ⟨g, 7, none⟩ v1).setCell ⟨g, 8, none⟩ v2).setCell ⟨g, 9, none⟩ v3).setCell ⟨g, 10, none⟩ v4).heap[g]? = some (.cells #[c0, c1, c2, c3, c4, c5, v0, v1, v2, v3, v4, x5, x6, x7, x8] t (0, 0)) := etok_set h9 10 v4
  have h11 : ((((((w.setCell ⟨g, 6, none⟩ v0).setCell ⟨g, 7, none⟩ v1).setCell ⟨g, 8, none⟩ v2).setCell ⟨g, 9, none⟩ v3).setCell ⟨g, 10, none⟩ v4).setCell ⟨g, 11, none⟩ v5).heap[g]? = some (.cells #[c0, c1, c2, c3, c4, c5, v0, v1, v2, v3, v4, v5, x6, x7, x8] t (0, 0)) := etok_set h10 11 v5
  have h12 : (((((((w.setCell ⟨g, 6, none⟩ v0).setCell ⟨g, 7, none⟩ v1).setCell ⟨g, 8, none⟩ v2).setCell ⟨g, 9, none⟩ v3).setCell ⟨g, 10, none⟩ v4).setCell ⟨g, 11, none⟩ v5).setCell ⟨g, 12, none⟩ v6).heap[g]? = some (.cells #[c0, c1, c2, c3, c4, c5, v0, v1, v2, v3, v4, v5, v6, x7, x8] t (0, 0)) := etok_set h11 12 v6
  have h13 : ((((((((w.setCell ⟨g, 6, none⟩ v0).setCell ⟨g, 7, none⟩ v1).setCell ⟨g, 8, none⟩ v2).setCell ⟨g, 9, none⟩ v3).setCell ⟨g, 10, none⟩ v4).setCell ⟨g, 11, none⟩ v5).setCell ⟨g, 12, none⟩ v6).setCell ⟨g, 13, none⟩ v7).heap[g]? = some (.cells #[c0, c1, c2, c3, c4, c5, v0, v1, v2, v3, v4, v5, v6, v7, x8] t (0, 0)) := etok_set h12 13 v7
  have h14 : (((((((((w.setCell ⟨g, 6, none⟩ v0).setCell ⟨g, 7, none⟩ v1).setCell ⟨g, 8, none⟩ v2).setCell ⟨g, 9, none⟩ v3).setCell ⟨g, 10, none⟩ v4).setCell ⟨g, 11, none⟩ v5).setCell ⟨g, 12, none⟩ v6).setCell ⟨g, 13, none⟩ v7).setCell ⟨g, 14, none⟩ v8).heap[g]? = some (.cells #[c0, c1, c2, c3, c4, c5, v0, v1, v2, v3, v4, v5, v6, v7, v8] t (0, 0)) := etok_set h13 14 v8
  exact h14
theorem setCells_below {B g : Nat} {a : World} (hg : B ≤ g) : ∀ (vs : List Value) (w : World) (o : Nat), Below B a w → Below B a (w.setCells g o vs)
  | [], _, _, h => h
  | v :: r, w, o, h => by
    rw [World.setCells]
    exact setCells_below hg r _ (o + 1) (h.setCell (show B ≤ (⟨g, o, none⟩ : Addr).block from hg) v)
end Go.Proofs.YtmogplecohkjcaaGreatDoor
