/-
  The document's builder: take.
-/
import Derived.Test.YtkdppcpkigpmdaaR24
import Derived.BigRegion
namespace Go.Proofs.Ytkdppcpkigpmdaa
open Go.RowKit
open Utf1

/-- A token's box. -/
def tokBox (w : World) (kind : Int) (name text : ByteArray) (cl : Bool) (ap : Option Addr) (am ac : Nat) : World := w.alloc (.cells #[.int .i64 kind, .string name, .slice ap am ac, .bool cl, .string text] 36)
/-- The text of the last node, longer. -/
def moreF (i : List Fl) (f : Fl) (t : List UInt8) : List Fl := i ++ [{ f with text := f.text ++ t }]
theorem lastF_snoc (i : List Fl) (f : Fl) (u : Int) (h : f.up = u) : lastF (i ++ [f]) u (i ++ [f]).length = (i.length : Int) := by
  rw [List.length_append]
  show lastF (i ++ [f]) u (i.length + 1) = _
  unfold lastF
  rw [if_pos]
  rw [List.getElem?_append_right (Nat.le_refl _), Nat.sub_self]
  show some f.up = some u
  rw [h]
theorem more_fb {w : World} {base R : Nat} {i : List Fl} {f : Fl} {op : List Nat} {bad : Bool} {g lc : Nat} {ov : Value} (h : FB w base R (i ++ [f]) op bad) (hR : RB w R (.slice (some ⟨g, 0, none⟩) (i ++ [f]).length lc) ov bad) (t : List UInt8) : FB (w.setCell ⟨g, i.length * 5 + 2, none⟩ (.string ⟨(f.text ++ t).toArray⟩)) base R (moreF i f t) op bad ∧ base ≤ g ∧ w.frozen? ⟨g, i.length * 5 + 2, none⟩ = false ∧ ∃ cs, w.heap[g]? = some (.cells cs 69 (0, 0)) := by
  have hro := h.row hR
  have hop := h.ops hR
  have hgR : g ≠ R := fun e => own_apart hro hR (by decide) (by rw [e]; rfl)
  have hgb : base ≤ g := (hro.lt g rfl).1
  have hfr : w.frozen? ⟨g, i.length * 5 + 2, none⟩ = false := by
    obtain ⟨_, ⟨e, _⟩ | ⟨g', cap', cur, e, _, hg, _⟩⟩ := hro
    · cases e
    · cases e
      exact tag_free hg _
  have hcs : ∃ cs, w.heap[g]? = some (.cells cs 69 (0, 0)) := by
    obtain ⟨_, ⟨e, _⟩ | ⟨g', cap', cur, e, _, hg, _⟩⟩ := hro
    · cases e
    · cases e
      exact ⟨_, hg⟩
  refine ⟨⟨h.1, by simpa using h.2.1, .slice (some ⟨g, 0, none⟩) (i ++ [f]).length lc, ov, ?_, ?_, ?_⟩, hgb, hfr, hcs⟩
  · unfold RB
    rw [Below.heap_setCell _ _ _ _ (by simpa using Ne.symm hgR)]
    exact hR
  · have h1 := own_put hro (i.length * 5 + 2) (.string ⟨(f.text ++ t).toArray⟩)
    have e : (flCells (i ++ [f])).set (i.length * 5 + 2) (.string ⟨(f.text ++ t).toArray⟩) = flCells (moreF i f t) := by
      unfold moreF
      rw [flCells_app, flCells_app, List.set_append_right _ _ (by rw [flCells_len]; omega), flCells_len, Nat.add_sub_cancel_left]
      rfl
    rw [e] at h1
    have hl : (moreF i f t).length = (i ++ [f]).length := by simp [moreF]
    rw [hl]
    exact h1
  · exact ownsRow_setCell_other hop (a := ⟨g, i.length * 5 + 2, none⟩) (fun e => own_two_ne hop hro (by decide) e rfl) _

set_option maxRecDepth 100000 in
set_option maxHeartbeats 8000000 in
theorem rtake_more (w : World) (base R : Nat) (i : List Fl) (f : Fl) (op : List Nat) (bad : Bool) (name text : ByteArray) (cl : Bool) (ap : Option Addr) (am ac : Nat) (h : FB w base R (i ++ [f]) op bad) (hl : op.length ≤ 10000) (hlf : i.length ≤ 10000) (hu : f.up = hereF op) (hn : f.name = []) (ht : bl text ≠ []) (hsz : f.text.length + text.size ≤ 1000000) :
    Calls Try.prog 25 #[.pointer (some ⟨R, 0, none⟩), .agg #[.int .i64 1, .string name, .slice ap am ac, .bool cl, .string text]] w fun e w' => e = .returned (.tuple #[]) ∧ FB w' base R (moreF i f (bl text)) op bad ∧ Bel base w w' := by
  have f0 := eqlit text []
  rw [decide_eq_false ht] at f0
  have f1 : text.toList.isEmpty = false := by
    cases hh : text.toList with
    | nil => rw [hh] at f0; cases f0
    | cons => rfl
  obtain ⟨w1, hw1⟩ : ∃ w1, w1 = w.alloc (.cells #[.int .i64 1, .string name, .slice ap am ac, .bool cl, .string text] 36) := ⟨_, rfl⟩
  have hb1 : Below w.heap.size w w1 := by rw [hw1]; exact (Below.refl _ _).alloc (Nat.le_refl _) _
  have c0 : w1.cell? ⟨w.heap.size, 0, none⟩ = some (.int .i64 1) := by rw [hw1, new_cell]; rfl
  have c4 : w1.cell? ⟨w.heap.size, 4, none⟩ = some (.string text) := by rw [hw1, new_cell]; rfl
  have hf1 := h.under hb1
  have HLA := hide (last_st w1 base R (i ++ [f]) op bad hf1 (by omega) (by simp; omega))
  rw [lastF_snoc i f (hereF op) hu] at HLA
  have HF1 := hide hf1
  have HB1 := hide (Bel.of hb1 h.2.1)
  obtain ⟨Nw, hNw⟩ : ∃ Nw, Nw = w.heap.size := ⟨_, rfl⟩
  rw [← hNw] at c0 c4
  have hbox : w1.heap[Nw]? = some (.cells #[.int .i64 1, .string name, .slice ap am ac, .bool cl, .string text] 36 (0, 0)) := by rw [hw1, hNw]; exact heap_alloc_new _ _
  have HBOX := hide hbox
  have hNlt : Nw < w1.heap.size := lt_of_block hbox
  have HNw := hide hNw
  clear h hf1 hb1 f0 ht hbox
  go_enter Try.func25, Try.ntmps25
  go_wp2_with fail
  rw [← hw1, ← HNw.out]
  clear hw1 hNw HNw
  go_wp2_with fail
  refine HLA.out.mono ?_
  rintro e w2 ⟨rfl, n, hw2⟩
  have hb2 : Below w1.heap.size w1 w2 := by rw [hw2]; exact bel_drewN _ _
  have hf2 := HF1.out.under hb2
  obtain ⟨lp, lc, pp, pc, hR, hfr, -⟩ := hf2.reads
  obtain ⟨g, rfl, x0, -, x2, -⟩ := hfr i.length f (by rw [List.getElem?_append_right (Nat.le_refl _), Nat.sub_self]; rfl)
  have r0 : w2.cell? ⟨R, 0, none⟩ = some (.slice (some ⟨g, 0, none⟩) (i ++ [f]).length lc) := tag_cell hR 0 _ rfl
  have hll : (i ++ [f]).length = i.length + 1 := by simp
  rw [hll] at r0
  replace c4 := cell_keep c4 hb2
  obtain ⟨hfb, hgb, hfz, gcs, hgcs⟩ := more_fb hf2 hR (bl text)
  obtain ⟨XN, hXN⟩ : ∃ X : ByteArray, X = ⟨f.name.toArray⟩ := ⟨_, rfl⟩
  obtain ⟨XT, hXT⟩ : ∃ X : ByteArray, X = ⟨f.text.toArray⟩ := ⟨_, rfl⟩
  rw [← hXN] at x0
  rw [← hXT] at x2
  have q0 : XN.toList.isEmpty = true := by rw [ByteArray.toList_eq, hXN, hn]; rfl
  have hcat : (⟨(f.text ++ bl text).toArray⟩ : ByteArray) = XT ++ text := by
    rw [hXT]
    cases text
    simp [bl]
    rfl
  rw [hcat] at hfb
  have hsx : XT.size + text.size ≤ 1000000 := by rw [hXT]; exact hsz
  have hgN : g ≠ Nw := fun e => own_apart (hf2.row hR) ((hb2.block Nw hNlt).trans HBOX.out) (by decide) (by rw [e]; rfl)
  obtain ⟨Mi, hMi⟩ : ∃ Mi, Mi = i.length := ⟨_, rfl⟩
  rw [← hMi] at r0 x0 x2 hfb hfz hlf ⊢
  have HFB := hide hfb
  have HB2 := hide ((HB1.out.trans (Bel.of hb2 HF1.out.2.1)).trans (Bel.set hgcs (by decide) hgb (Mi * 5 + 2) (.string (XT ++ text))))
  clear hfb hf2 hR hfr hXN hXT hcat hw2 HLA HF1 HB1 hb2 hu hn hsz hll hMi HBOX hgcs
  go_upto_region 6 with fail
  go_region
  go_wp2_with fail
  go_end0
  first
    | exact ⟨rfl, HFB.out, HB2.out⟩
    | exact ⟨rfl, HFB.out.under (bel_one _), HB2.out.trans (Bel.of (bel_one _) HFB.out.2.1)⟩

set_option maxRecDepth 100000 in
set_option maxHeartbeats 8000000 in
theorem rtake_new (w : World) (base R : Nat) (fl : List Fl) (op : List Nat) (bad : Bool) (name text : ByteArray) (cl : Bool) (ap : Option Addr) (am ac : Nat) (h : FB w base R fl op bad) (hl : op.length ≤ 10000) (hlf : fl.length ≤ 10000) (ht : bl text ≠ []) (hla : lastF fl (hereF op) fl.length = -1 ∨ ∃ (k : Nat) (f : Fl), lastF fl (hereF op) fl.length = (k : Int) ∧ fl[k]? = some f ∧ f.name ≠ []) :
    Calls Try.prog 25 #[.pointer (some ⟨R, 0, none⟩), .agg #[.int .i64 1, .string name, .slice ap am ac, .bool cl, .string text]] w fun e w' => e = .returned (.tuple #[]) ∧ FB w' base R (fl ++ [⟨[], [], bl text, hereF op, none, 0, 0⟩]) op (bad || decide (2000 < fl.length + 1)) ∧ Bel base w w' := by
  have f0 := eqlit text []
  rw [decide_eq_false ht] at f0
  have f1 : text.toList.isEmpty = false := by
    cases hh : text.toList with
    | nil => rw [hh] at f0; cases f0
    | cons => rfl
  obtain ⟨w1, hw1⟩ : ∃ w1, w1 = w.alloc (.cells #[.int .i64 1, .string name, .slice ap am ac, .bool cl, .string text] 36) := ⟨_, rfl⟩
  have hb1 : Below w.heap.size w w1 := by rw [hw1]; exact (Below.refl _ _).alloc (Nat.le_refl _) _
  have c0 : w1.cell? ⟨w.heap.size, 0, none⟩ = some (.int .i64 1) := by rw [hw1, new_cell]; rfl
  have c4 : w1.cell? ⟨w.heap.size, 4, none⟩ = some (.string text) := by rw [hw1, new_cell]; rfl
  have hf1 := h.under hb1
  have HLA := hide (last_st w1 base R fl op bad hf1 (by omega) (by omega))
  have HF1 := hide hf1
  have HB1 := hide (Bel.of hb1 h.2.1)
  obtain ⟨Nw, hNw⟩ : ∃ Nw, Nw = w.heap.size := ⟨_, rfl⟩
  rw [← hNw] at c0 c4
  have HNw := hide hNw
  have HPU : Hid (∀ wx, FB wx base R fl op bad → Calls Try.prog 38 #[.pointer (some ⟨R, 0, none⟩), .agg #[.string ⟨#[]⟩, .slice none 0 0, .string text, .slice none 0 0]] wx fun e w' => e = .returned (.tuple #[]) ∧ FB w' base R (fl ++ [⟨[], [], bl text, hereF op, none, 0, 0⟩]) op (bad || decide (2000 < fl.length + 1)) ∧ Bel base wx w') := hide (fun wx hx => rput_st wx base R fl op bad ⟨#[]⟩ text none 0 0 [] hx (by omega) (by omega))
  obtain ⟨bx, hbx⟩ : ∃ bx : Bool, bx = (bad || decide (2000 < fl.length + 1)) := ⟨_, rfl⟩
  rw [← hbx] at HPU ⊢
  clear h hf1 hb1 f0 ht hbx
  rcases hla with hla | ⟨k, f, hla, hfk, hfn⟩
  · rw [hla] at HLA
    clear hla
    go_enter Try.func25, Try.ntmps25
    go_wp2_with fail
    rw [← hw1, ← HNw.out]
    clear hw1 hNw HNw
    go_wp2_with fail
    refine HLA.out.mono ?_
    rintro e w2 ⟨rfl, n, hw2⟩
    have hb2 : Below w1.heap.size w1 w2 := by rw [hw2]; exact bel_drewN _ _
    have HP := hide (HPU.out w2 (HF1.out.under hb2))
    have HB2 := hide (HB1.out.trans (Bel.of hb2 HF1.out.2.1))
    replace c4 := cell_keep c4 hb2
    clear hb2 hw2 HLA HPU HF1 HB1 c0
    go_wp2_with fail
    refine HP.out.mono ?_
    rintro e w3 ⟨rfl, m1, m2⟩
    have HE := hide (And.intro m1 (HB2.out.trans m2))
    clear m1 m2 HP HB2
    go_wp2_with fail
    go_end0
    exact ⟨rfl, HE.out⟩
  · rw [hla] at HLA
    have hkl : k < fl.length := (List.getElem?_eq_some_iff.1 hfk).1
    have HFK := hide hfk
    have q0 : (⟨f.name.toArray⟩ : ByteArray).toList.isEmpty = false := by
      rw [ByteArray.toList_eq]
      show f.name.isEmpty = false
      cases hh : f.name with
      | nil => exact absurd hh hfn
      | cons => rfl
    generalize hXN : (⟨f.name.toArray⟩ : ByteArray) = XN at q0
    have HXN := hide hXN
    clear hla hfk hfn hXN
    go_enter Try.func25, Try.ntmps25
    go_wp2_with fail
    rw [← hw1, ← HNw.out]
    clear hw1 hNw HNw
    go_wp2_with fail
    refine HLA.out.mono ?_
    rintro e w2 ⟨rfl, n, hw2⟩
    have hb2 : Below w1.heap.size w1 w2 := by rw [hw2]; exact bel_drewN _ _
    have hf2 := HF1.out.under hb2
    obtain ⟨lp, lc, pp, pc, hR, hfr, -⟩ := hf2.reads
    obtain ⟨g, rfl, x0, -⟩ := hfr k f HFK.out
    rw [HXN.out] at x0
    have r0 : w2.cell? ⟨R, 0, none⟩ = some (.slice (some ⟨g, 0, none⟩) fl.length lc) := tag_cell hR 0 _ rfl
    have HP := hide (HPU.out w2 hf2)
    have HB2 := hide (HB1.out.trans (Bel.of hb2 HF1.out.2.1))
    replace c4 := cell_keep c4 hb2
    clear hb2 hw2 HLA HPU HF1 HB1 c0 hf2 hR hfr HFK HXN
    go_wp2_with fail
    refine HP.out.mono ?_
    rintro e w3 ⟨rfl, m1, m2⟩
    have HE := hide (And.intro m1 (HB2.out.trans m2))
    clear m1 m2 HP HB2
    go_wp2_with fail
    go_end0
    exact ⟨rfl, HE.out⟩
end Go.Proofs.Ytkdppcpkigpmdaa
