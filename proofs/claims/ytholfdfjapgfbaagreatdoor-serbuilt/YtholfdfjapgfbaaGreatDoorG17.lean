/-
  The tree's builder: an open node more.
-/
import Derived.Test.YtholfdfjapgfbaaGreatDoorG16
namespace Go.Proofs.YtholfdfjapgfbaaGreatDoor.Dm
open Go.RowKit
open Utf1

/-- How a node more among the open ones leaves the memory. -/
def PushEnd (w w' : World) (B base : Nat) (ov pa bv x y : Value) (l : List (Nd × Value × Value)) (nm tx : ByteArray) (ap : Option Addr) (am ac : Nat) (cp : Option Addr) (cm cc : Nat) (ov' : Value) : Prop :=
  BB w' B ov' pa bv x y ∧ w'.ownsRow base 42 4 ov' (l.length + 1) (ndCells l ++ [.string nm, .slice ap am ac, .string tx, .slice cp cm cc]) ∧
  (ov'.ownBlock = ov.ownBlock ∨ ov'.ownBlock = some w.heap.size) ∧ Stays w w' (B :: blk ov) ∧ Below base w w'

theorem push_facts {w w5 : World} {B base : Nat} {ov pa bv x y v' : Value} {l : List (Nd × Value × Value)} (hbB : base ≤ B) (hbw : base ≤ w.heap.size) (h : BB w B ov pa bv x y) (hro : w.ownsRow base 42 4 ov l.length (ndCells l))
    (hown : w5.ownsRow base 42 4 v' (l.length + 1) (ndCells l ++ [.string ⟨#[]⟩, .slice none 0 0, .string ⟨#[]⟩, .slice none 0 0])) (hgr : w.grownBy w5 ov.ownBlock) (hfr : v'.ownBlock = ov.ownBlock ∨ v'.ownBlock = some w.heap.size)
    (nm tx : ByteArray) (ap : Option Addr) (am ac : Nat) (cp : Option Addr) (cm cc : Nat) :
    ∃ g2 c2, v' = .slice (some ⟨g2, 0, none⟩) (l.length + 1) c2 ∧ (g2 ≠ B ∧
      w5.cell? ⟨g2, l.length * 4, none⟩ = some (.string ⟨#[]⟩) ∧ w5.cell? ⟨g2, l.length * 4 + 1, none⟩ = some (.slice none 0 0) ∧ w5.cell? ⟨g2, l.length * 4 + 2, none⟩ = some (.string ⟨#[]⟩) ∧ w5.cell? ⟨g2, l.length * 4 + 3, none⟩ = some (.slice none 0 0) ∧
      w5.frozen? ⟨g2, l.length * 4, none⟩ = false ∧ w5.frozen? ⟨g2, l.length * 4 + 1, none⟩ = false ∧ w5.frozen? ⟨g2, l.length * 4 + 2, none⟩ = false ∧ w5.frozen? ⟨g2, l.length * 4 + 3, none⟩ = false ∧
      w5.cell? ⟨B, 0, none⟩ = some ov ∧ w5.frozen? ⟨B, 0, none⟩ = false ∧
      PushEnd w (((((w5.setCell ⟨g2, l.length * 4, none⟩ (.string nm)).setCell ⟨g2, l.length * 4 + 1, none⟩ (.slice ap am ac)).setCell ⟨g2, l.length * 4 + 2, none⟩ (.string tx)).setCell ⟨g2, l.length * 4 + 3, none⟩ (.slice cp cm cc)).setCell ⟨B, 0, none⟩ (.slice (some ⟨g2, 0, none⟩) (l.length + 1) c2)) B base ov pa bv x y l nm tx ap am ac cp cm cc (.slice (some ⟨g2, 0, none⟩) (l.length + 1) c2) ∧
      PushEnd w (((((w5.setCell ⟨B, 0, none⟩ (.slice (some ⟨g2, 0, none⟩) (l.length + 1) c2)).setCell ⟨g2, l.length * 4, none⟩ (.string nm)).setCell ⟨g2, l.length * 4 + 1, none⟩ (.slice ap am ac)).setCell ⟨g2, l.length * 4 + 2, none⟩ (.string tx)).setCell ⟨g2, l.length * 4 + 3, none⟩ (.slice cp cm cc)) B base ov pa bv x y l nm tx ap am ac cp cm cc (.slice (some ⟨g2, 0, none⟩) (l.length + 1) c2)) := by
  obtain ⟨g2, c2, rfl, hcell⟩ := own_at hown (by omega)
  have hlen := ndCells_len l
  have hat : ∀ j, j < 4 → w5.cell? ⟨g2, l.length * 4 + j, none⟩ = [Value.string ⟨#[]⟩, .slice none 0 0, .string ⟨#[]⟩, .slice none 0 0][j]? := by
    intro j hj
    rw [hcell _ (by omega), List.getElem?_append_right (by omega), hlen, Nat.add_sub_cancel_left]
  have hfrz : ∀ j, w5.frozen? ⟨g2, j, none⟩ = false := by
    intro j
    obtain ⟨_, ⟨e, _⟩ | ⟨g', cap', cur, e, _, hg, _⟩⟩ := hown
    · cases e
    · cases e
      exact tag_free hg j
  have hoB : ov.ownBlock ≠ some B := own_apart hro h (by decide)
  have hB5 : BB w5 B ov pa bv x y := (hgr.block _ (lt_of_block h) (fun e => hoB e.symm)).trans h
  have n2 : g2 ≠ B := fun e => own_apart hown hB5 (by decide) (by rw [e]; rfl)
  have hgB : (Value.slice (some ⟨g2, 0, none⟩) (l.length + 1) c2).ownBlock ≠ some B := by
    intro e
    exact n2 (by simpa [Value.ownBlock] using e)
  have hg2b : base ≤ g2 := (hown.lt g2 rfl).1
  have hbel : Below base w w5 := (Below.refl base w).grown hgr hbw (fun j hj => (hro.lt j hj).1)
  have hattr : ∀ j ∈ B :: blk ov, ∀ cs fz, w.heap[j]? ≠ some (.cells cs 38 fz) := by
    intro j hj cs fz e
    rcases List.mem_cons.1 hj with rfl | hj
    · have h2 := h
      unfold BB at h2
      rw [h2] at e
      cases e
    · exact own_apart hro e (by decide) (by unfold blk at hj; simpa using hj)
  have hout : ∀ j, j < w.heap.size → j ∉ B :: blk ov → j ≠ B ∧ j ≠ g2 ∧ w5.heap[j]? = w.heap[j]? := by
    intro j hj hS
    have j1 : j ≠ B := fun e => hS (by rw [e]; exact List.mem_cons_self ..)
    have j2 : ov.ownBlock ≠ some j := fun e => hS (List.mem_cons_of_mem _ (by unfold blk; rw [e]; simp))
    refine ⟨j1, ?_, hgr.block j hj (fun e => j2 e.symm)⟩
    rintro rfl
    rcases hfr with e | e
    · exact j2 e.symm
    · have : j = w.heap.size := by simpa [Value.ownBlock] using e
      omega
  have hkeep : ∀ (wx : World) (j : Nat) (v : Value), BB wx B ov pa bv x y → BB (wx.setCell ⟨g2, j, none⟩ v) B ov pa bv x y := by
    intro wx j v hx
    unfold BB
    rw [Below.heap_setCell _ _ _ _ (by simpa using Ne.symm n2)]
    exact hx
  have hset : ∀ (wx : World) (v : Value), BB wx B ov pa bv x y → BB (wx.setCell ⟨B, 0, none⟩ v) B v pa bv x y := fun wx v hx => tok_set hx 0 v
  refine ⟨g2, c2, rfl, n2, hat 0 (by decide), hat 1 (by decide), hat 2 (by decide), hat 3 (by decide), hfrz _, hfrz _, hfrz _, hfrz _, tag_cell hB5 0 _ rfl, tag_free hB5 0, ?_, ?_⟩
  · refine ⟨hset _ _ (hkeep _ _ _ (hkeep _ _ _ (hkeep _ _ _ (hkeep _ _ _ hB5)))), ?_, hfr, ⟨?_, ?_, hattr⟩, ?_⟩
    · rw [← set_four (ndCells l) (.string ⟨#[]⟩) (.slice none 0 0) (.string ⟨#[]⟩) (.slice none 0 0), hlen]
      exact ownsRow_setCell_other (own_put (own_put (own_put (own_put hown _ _) _ _) _ _) _ _) (a := ⟨B, 0, none⟩) hgB _
    · simpa using hgr.size
    · intro j hj hS
      obtain ⟨j1, j2, j3⟩ := hout j hj hS
      rw [Below.heap_setCell _ _ _ _ (by simpa using j1), Below.heap_setCell _ _ _ _ (by simpa using j2), Below.heap_setCell _ _ _ _ (by simpa using j2), Below.heap_setCell _ _ _ _ (by simpa using j2), Below.heap_setCell _ _ _ _ (by simpa using j2)]
      exact j3
    · exact ((((hbel.setCell (p := ⟨g2, l.length * 4, none⟩) hg2b _).setCell (p := ⟨g2, l.length * 4 + 1, none⟩) hg2b _).setCell (p := ⟨g2, l.length * 4 + 2, none⟩) hg2b _).setCell (p := ⟨g2, l.length * 4 + 3, none⟩) hg2b _).setCell (p := ⟨B, 0, none⟩) hbB _
  · have hk2 : ∀ (wx : World) (j : Nat) (v o2 : Value), BB wx B o2 pa bv x y → BB (wx.setCell ⟨g2, j, none⟩ v) B o2 pa bv x y := by
      intro wx j v o2 hx
      unfold BB
      rw [Below.heap_setCell _ _ _ _ (by simpa using Ne.symm n2)]
      exact hx
    refine ⟨hk2 _ _ _ _ (hk2 _ _ _ _ (hk2 _ _ _ _ (hk2 _ _ _ _ (hset _ _ hB5)))), ?_, hfr, ⟨?_, ?_, hattr⟩, ?_⟩
    · rw [← set_four (ndCells l) (.string ⟨#[]⟩) (.slice none 0 0) (.string ⟨#[]⟩) (.slice none 0 0), hlen]
      exact own_put (own_put (own_put (own_put (ownsRow_setCell_other hown (a := ⟨B, 0, none⟩) hgB _) _ _) _ _) _ _) _ _
    · simpa using hgr.size
    · intro j hj hS
      obtain ⟨j1, j2, j3⟩ := hout j hj hS
      rw [Below.heap_setCell _ _ _ _ (by simpa using j2), Below.heap_setCell _ _ _ _ (by simpa using j2), Below.heap_setCell _ _ _ _ (by simpa using j2), Below.heap_setCell _ _ _ _ (by simpa using j2), Below.heap_setCell _ _ _ _ (by simpa using j1)]
      exact j3
    · exact ((((hbel.setCell (p := ⟨B, 0, none⟩) hbB _).setCell (p := ⟨g2, l.length * 4, none⟩) hg2b _).setCell (p := ⟨g2, l.length * 4 + 1, none⟩) hg2b _).setCell (p := ⟨g2, l.length * 4 + 2, none⟩) hg2b _).setCell (p := ⟨g2, l.length * 4 + 3, none⟩) hg2b _
end Go.Proofs.YtholfdfjapgfbaaGreatDoor.Dm
