/-
  The program's own lines read: the closure, list by list.
-/
import Derived.Test.YtebcpmgooodmpabGreatDoorR11
import Derived.Laws.Rows
import Derived.Lib.SmallJoins
namespace Go.Proofs.YtebcpmgooodmpabGreatDoor
open Go.RowKit
open Utf1 Pol8

def zeroP : Array Value := #[.int .i64 0, .slice none 0 0, .slice none 0 0, .slice none 0 0, .slice none 0 0, .slice none 0 0, .int .i64 0, .int .i64 0, .int .i64 0]
/-- A row of strings in blocks from B on. -/
def RowB (B : Nat) (w : World) (v : Value) (ss : List ByteArray) : Prop := StrArg w v ss ∧ ∀ b off n c, v = .slice (some ⟨b, off, none⟩) n c → B ≤ b
theorem RowB.below {B : Nat} {w w' : World} {v : Value} {ss : List ByteArray} (h : RowB B w v ss) (hb : Below w.heap.size w w') : RowB B w' v ss := ⟨h.1.below hb, h.2⟩
theorem RowB.setCell {B : Nat} {w : World} {v : Value} {ss : List ByteArray} (h : RowB B w v ss) {a : Addr} (ha : a.block < B) (u : Value) : RowB B (w.setCell a u) v ss := by
  obtain ⟨⟨p, cap, rfl, h0, hc⟩, hb⟩ := h
  refine ⟨⟨p, cap, rfl, h0, fun i s hi => ?_⟩, hb⟩
  obtain ⟨b, off, hp, hcell⟩ := hc i s hi
  refine ⟨b, off, hp, ?_⟩
  have h1 := hb b off _ _ (by rw [hp])
  unfold World.cell? at hcell ⊢
  rw [Below.heap_setCell _ _ _ _ (by show b ≠ a.block; omega)]
  exact hcell
theorem RowB.setRow {B : Nat} {w : World} {v : Value} {ss : List ByteArray} (h : RowB B w v ss) {g : Nat} (ha : g < B) (cs : Array Value) : RowB B (w.setRow g cs) v ss := by
  obtain ⟨⟨p, cap, rfl, h0, hc⟩, hb⟩ := h
  refine ⟨⟨p, cap, rfl, h0, fun i s hi => ?_⟩, hb⟩
  obtain ⟨b, off, hp, hcell⟩ := hc i s hi
  refine ⟨b, off, hp, ?_⟩
  have h1 := hb b off _ _ (by rw [hp])
  unfold World.cell? at hcell ⊢
  rw [setRow_other _ _ _ _ (by show b ≠ g; omega)]
  exact hcell
/-- The text that is left, the answer's variable, the policy under way. -/
def RS (w : World) (S : ByteArray) (A : Array Value) (wx : World) : Prop := wx.heap[w.heap.size]? = some (.cells #[.string S] 9 (0, 0)) ∧ wx.heap[w.heap.size + 1]? = some (.cells zeroP 31 (0, 0)) ∧ wx.heap[w.heap.size + 1 + 1]? = some (.cells A 31 (0, 0)) ∧ Below w.heap.size w wx
theorem RS.keep {w wx wy : World} {S : ByteArray} {A : Array Value} (h : RS w S A wx) (hb : Below wx.heap.size wx wy) : RS w S A wy :=
  ⟨(hb.block _ (Array.getElem?_eq_some_iff.1 h.1).1).trans h.1, (hb.block _ (Array.getElem?_eq_some_iff.1 h.2.1).1).trans h.2.1, (hb.block _ (Array.getElem?_eq_some_iff.1 h.2.2.1).1).trans h.2.2.1, h.2.2.2.trans (hb.mono h.2.2.2.size)⟩
theorem RS.lt {w wx : World} {S : ByteArray} {A : Array Value} (h : RS w S A wx) : w.heap.size + 3 ≤ wx.heap.size := by
  have := (Array.getElem?_eq_some_iff.1 h.2.2.1).1
  omega
theorem RS.putS {w wx : World} {S : ByteArray} {A : Array Value} (h : RS w S A wx) (S' : ByteArray) : RS w S' A (wx.setCell ⟨w.heap.size, 0, none⟩ (.string S')) :=
  ⟨by have := heap_setCell_same wx w.heap.size 0 _ _ (.string S') h.1; exact this, (Below.heap_setCell _ _ _ _ (by show w.heap.size + 1 ≠ w.heap.size; omega)).trans h.2.1, (Below.heap_setCell _ _ _ _ (by show w.heap.size + 1 + 1 ≠ w.heap.size; omega)).trans h.2.2.1, h.2.2.2.setCell (Nat.le_refl _) _⟩
theorem RS.putA {w wx : World} {S : ByteArray} {A : Array Value} (h : RS w S A wx) (i : Nat) (v : Value) : RS w S (A.setIfInBounds i v) (wx.setCell ⟨w.heap.size + 1 + 1, i, none⟩ v) :=
  ⟨(Below.heap_setCell _ _ _ _ (by show w.heap.size ≠ w.heap.size + 1 + 1; omega)).trans h.1, (Below.heap_setCell _ _ _ _ (by show w.heap.size + 1 ≠ w.heap.size + 1 + 1; omega)).trans h.2.1, heap_setCell_same wx _ i _ _ v h.2.2.1, h.2.2.2.setCell (by show w.heap.size ≤ w.heap.size + 1 + 1; omega) _⟩

set_option maxRecDepth 100000 in
set_option maxHeartbeats 8000000 in
theorem ptake_st (w wx : World) (S K : ByteArray) (A : Array Value) (i : Nat) (old : Value) (hS : S.size ≤ 100000) (hK : K.size ≤ 100) (h : RS w S A wx) (hi : A[i]? = some old) :
    Calls Tryz.prog 64 #[.string K, .pointer (some ⟨w.heap.size + 1 + 1, i, none⟩), .pointer (some ⟨w.heap.size, 0, none⟩)] wx fun e w' => e = .returned (.tuple #[]) ∧ ∃ (p : Option Addr) (c : Nat) (ls : List ByteArray) (S' : ByteArray), RS w S' (A.setIfInBounds i (.slice p (List.length ls) c)) w' ∧ RowB (w.heap.size + 3) w' (.slice p ls.length c) ls ∧ ls.map bl = (cutN 65 (bl K) (bl S)).1 ∧ bl S' = (cutN 65 (bl K) (bl S)).2 ∧ ∀ v' ss', RowB (w.heap.size + 3) wx v' ss' → RowB (w.heap.size + 3) w' v' ss' := by
  have C1 := hide (pcutList_any S K hS hK wx)
  have y0 := tag_cell h.1 0 _ rfl
  have HH := hide h
  have HI := hide hi
  have hlt := h.lt
  clear h hi
  go_enter Tryz.func64, Tryz.ntmps64
  go_wp2_with fail
  refine C1.out.mono ?_
  rintro e w2 ⟨⟨p, c, ls, S', rfl, hsa, hls, hS', hoff⟩, hb2⟩
  have H2 := hide (HH.out.keep hb2)
  have HP : Hid (RowB (w.heap.size + 3) w2 (.slice p ls.length c) ls) := hide ⟨hsa, fun b off n cc e => by
    injection e with e
    have := hoff b off e
    omega⟩
  have HLS := hide (And.intro hls hS')
  have HB2 := hide hb2
  have c1 := tag_cell H2.out.2.2.1 i _ HI.out
  have z1 := Go.Joins.unfrozen_of_block H2.out.2.2.1 i
  have c0 := tag_cell H2.out.1 0 _ rfl
  have z0 := Go.Joins.unfrozen_of_block H2.out.1 0
  have c0' : (w2.setCell ⟨w.heap.size + 1 + 1, i, none⟩ (.slice p ls.length c)).cell? ⟨w.heap.size, 0, none⟩ = some (.string S) := tag_cell (H2.out.putA i (.slice p ls.length c)).1 0 _ rfl
  have z0' : (w2.setCell ⟨w.heap.size + 1 + 1, i, none⟩ (.slice p ls.length c)).frozen? ⟨w.heap.size, 0, none⟩ = false := Go.Joins.unfrozen_of_block (H2.out.putA i (.slice p ls.length c)).1 0
  clear hsa hls hS' hoff hb2 y0 C1 c0 z0
  go_wp2_with fail
  go_end0
  refine ⟨rfl, p, c, ls, S', (H2.out.putA i _).putS S', (HP.out.setCell (by show w.heap.size + 1 + 1 < w.heap.size + 3; omega) _).setCell (by show w.heap.size < w.heap.size + 3; omega) _, HLS.out.1, HLS.out.2, fun v' ss' hr => ?_⟩
  exact ((hr.below HB2.out).setCell (by show w.heap.size + 1 + 1 < w.heap.size + 3; omega) _).setCell (by show w.heap.size < w.heap.size + 3; omega) _
end Go.Proofs.YtebcpmgooodmpabGreatDoor
