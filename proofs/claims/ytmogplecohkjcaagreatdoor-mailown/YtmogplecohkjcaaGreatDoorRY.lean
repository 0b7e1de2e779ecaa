/-
  The program's own lines read: the closure, list by list.
-/
import Derived.Test.YtmogplecohkjcaaGreatDoorR11
import Derived.Laws.Rows
import Derived.Lib.SmallJoins
import Derived.Test.YtmogplecohkjcaaGreatDoorQ13
namespace Go.Proofs.YtmogplecohkjcaaGreatDoor
open Go.RowKit
open Utf1 Pol8

def zeroP : Array Value := #[.int .i64 0, .slice none 0 0, .slice none 0 0, .slice none 0 0, .slice none 0 0, .slice none 0 0, .int .i64 0, .int .i64 0, .int .i64 0]
/-- A row of strings in blocks from B on. -/
def RowB (B : Nat) (w : World) (v : Value) (ss : List ByteArray) : Prop := StrArg w v ss ∧ ∀ b off n c, v = .slice (some ⟨b, off, none⟩) n c → B ≤ b
theorem RowB.below {B : Nat} {w w' : World} {v : Value} {ss : List ByteArray} (h : RowB B w v ss) (hb : Below w.heap.size w w') : RowB B w' v ss := ⟨h.1.below hb, h.2⟩
theorem RowB.setCell {B : Nat} {w : World} {v : Value} {ss : List ByteArray} (h : RowB B w v ss) {a : Addr} (ha : a.block < B) (u : Value) : RowB B (w.setCell a u) v ss := by
  obtain ⟨⟨p, cap, rfl, h0, hc⟩, hb⟩ := h
  refine ⟨⟨p, cap, rfl, h0, fun i s hi => ?_⟩, hb⟩
  obtain ⟨b, off, hp, hcell⟩ := hc i s hi
  refine ⟨b, off, hp, ?_⟩
  have h1 := hb b off _ _ (by rw [hp])
  unfold World.cell? at hcell ⊢
  rw [Below.heap_setCell _ _ _ _ (by show b ≠ a.block; omega)]
  exact hcell
theorem RowB.setRow {B : Nat} {w : World} {v : Value} {ss : List ByteArray} (h : RowB B w v ss) {g : Nat} (ha : g < B) (cs : Array Value) : RowB B (w.setRow g cs) v ss := by
  obtain ⟨⟨p, cap, rfl, h0, hc⟩, hb⟩ := h
  refine ⟨⟨p, cap, rfl, h0, fun i s hi => ?_⟩, hb⟩
  obtain ⟨b, off, hp, hcell⟩ := hc i s hi
  refine ⟨b, off, hp, ?_⟩
  have h1 := hb b off _ _ (by rw [hp])
  unfold World.cell? at hcell ⊢
  rw [setRow_other _ _ _ _ (by show b ≠ g; omega)]
  exact hcell
/-- The text that is left, the answer's variable, the policy under way. -/
def RS (w : World) (S : ByteArray) (A : Array Value) (wx : World) : Prop := wx.heap[w.heap.size]? = some (.cells #[.string S] 9 (0, 0)) ∧ wx.heap[w.heap.size + 1]? = some (.cells zeroP 33 (0, 0)) ∧ wx.heap[w.heap.size + 1 + 1]? = some (.cells A 33 (0, 0)) ∧ Below w.heap.size w wx
theorem RS.keep {w wx wy : World} {S : ByteArray} {A : Array Value} (h : RS w S A wx) (hb : Below wx.heap.size wx wy) : RS w S A wy :=
  ⟨(hb.block _ (Array.getElem?_eq_some_iff.1 h.1).1).trans h.1, (hb.block _ (Array.getElem?_eq_some_iff.1 h.2.1).1).trans h.2.1, (hb.block _ (Array.getElem?_eq_some_iff.1 h.2.2.1).1).trans h.2.2.1, h.2.2.2.trans (hb.mono h.2.2.2.size)⟩
theorem RS.lt {w wx : World} {S : ByteArray} {A : Array Value} (h : RS w S A wx) : w.heap.size + 3 ≤ wx.heap.size := by
  have := (Array.getElem?_eq_some_iff.1 h.2.2.1).1
  omega
theorem RS.putS {w wx : World} {S : ByteArray} {A : Array Value} (h : RS w S A wx) (S' : ByteArray) : RS w S' A (wx.setCell ⟨w.heap.size, 0, none⟩ (.string S')) :=
  ⟨by have := heap_setCell_same wx w.heap.size 0 _ _ (.string S') h.1; exact this, (Below.heap_setCell _ _ _ _ (by show w.heap.size + 1 ≠ w.heap.size; omega)).trans h.2.1, (Below.heap_setCell _ _ _ _ (by show w.heap.size + 1 + 1 ≠ w.heap.size; omega)).trans h.2.2.1, h.2.2.2.setCell (Nat.le_refl _) _⟩
theorem RS.putA {w wx : World} {S : ByteArray} {A : Array Value} (h : RS w S A wx) (i : Nat) (v : Value) : RS w S (A.setIfInBounds i v) (wx.setCell ⟨w.heap.size + 1 + 1, i, none⟩ v) :=
  ⟨(Below.heap_setCell _ _ _ _ (by show w.heap.size ≠ w.heap.size + 1 + 1; omega)).trans h.1, (Below.heap_setCell _ _ _ _ (by show w.heap.size + 1 ≠ w.heap.size + 1 + 1; omega)).trans h.2.1, heap_setCell_same wx _ i _ _ v h.2.2.1, h.2.2.2.setCell (by show w.heap.size ≤ w.heap.size + 1 + 1; omega) _⟩

set_option maxRecDepth 100000 in
set_option maxHeartbeats 8000000 in
theorem ptake_st (w wx : World) (S K : ByteArray) (A : Array Value) (i : Nat) (old : Value) (hS : S.size ≤ 100000) (hK : K.size ≤ 100) (h : RS w S A wx) (hi : A[i]? = some old) :
    Calls Tryz.prog 109 #[.string K, .pointer (some ⟨w.heap.size + 1 + 1, i, none⟩), .pointer (some ⟨w.heap.size, 0, none⟩)] wx fun e w' => e = .returned (.tuple #[]) ∧ ∃ (p : Option Addr) (c : Nat) (ls : List ByteArray) (S' : ByteArray), RS w S' (A.setIfInBounds i (.slice p (List.length ls) c)) w' ∧ RowB (w.heap.size + 3) w' (.slice p ls.length c) ls ∧ ls.map bl = (cutN 65 (bl K) (bl S)).1 ∧ bl S' = (cutN 65 (bl K) (bl S)).2 ∧ ∀ v' ss', RowB (w.heap.size + 3) wx v' ss' → RowB (w.heap.size + 3) w' v' ss' := by
  have C1 := hide (pcutList_any S K hS hK wx)
  have y0 := tag_cell h.1 0 _ rfl
  have HH := hide h
  have HI := hide hi
  have hlt := h.lt
  clear h hi
  go_enter Tryz.func109, Tryz.ntmps109
  go_wp2_with fail
  refine C1.out.mono ?_
  rintro e w2 ⟨⟨p, c, ls, S', rfl, hsa, hls, hS', hoff⟩, hb2⟩
  have H2 := hide (HH.out.keep hb2)
  have HP : Hid (RowB (w.heap.size + 3) w2 (.slice p ls.length c) ls) := hide ⟨hsa, fun b off n cc e => by
    injection e with e
    have := hoff b off e
    omega⟩
  have HLS := hide (And.intro hls hS')
  have HB2 := hide hb2
  have c1 := tag_cell H2.out.2.2.1 i _ HI.out
  have z1 := Go.Joins.unfrozen_of_block H2.out.2.2.1 i
  have c0 := tag_cell H2.out.1 0 _ rfl
  have z0 := Go.Joins.unfrozen_of_block H2.out.1 0
  have c0' : (w2.setCell ⟨w.heap.size + 1 + 1, i, none⟩ (.slice p ls.length c)).cell? ⟨w.heap.size, 0, none⟩ = some (.string S) := tag_cell (H2.out.putA i (.slice p ls.length c)).1 0 _ rfl
  have z0' : (w2.setCell ⟨w.heap.size + 1 + 1, i, none⟩ (.slice p ls.length c)).frozen? ⟨w.heap.size, 0, none⟩ = false := Go.Joins.unfrozen_of_block (H2.out.putA i (.slice p ls.length c)).1 0
  clear hsa hls hS' hoff hb2 y0 C1 c0 z0
  go_wp2_with fail
  go_end0
  refine ⟨rfl, p, c, ls, S', (H2.out.putA i _).putS S', (HP.out.setCell (by show w.heap.size + 1 + 1 < w.heap.size + 3; omega) _).setCell (by show w.heap.size < w.heap.size + 3; omega) _, HLS.out.1, HLS.out.2, fun v' ss' hr => ?_⟩
  exact ((hr.below HB2.out).setCell (by show w.heap.size + 1 + 1 < w.heap.size + 3; omega) _).setCell (by show w.heap.size < w.heap.size + 3; omega) _
end Go.Proofs.YtmogplecohkjcaaGreatDoor

namespace Go.Proofs.YtmogplecohkjcaaGreatDoor
open Go.RowKit
open Utf1 Pol8

/-- The closure that takes a list's lines. -/
abbrev takeV (b : Nat) : Value := .func (.func 109) #[] #[.pointer (some ⟨b, 0, none⟩)]
set_option maxRecDepth 100000 in
set_option maxHeartbeats 16000000 in
theorem ptakes_st (w wx : World) (S : ByteArray) (e0 : Int) (hS : S.size ≤ 100000) (h : RS w S #[.int .i64 e0, .slice none 0 0, .slice none 0 0, .slice none 0 0, .slice none 0 0, .slice none 0 0, .int .i64 0, .int .i64 0, .int .i64 0] wx) :
    Calls Tryz.prog 92 #[.pointer (some ⟨w.heap.size + 1 + 1, 0, none⟩), takeV w.heap.size] wx fun e w' => e = .returned (.tuple #[]) ∧ ∃ (p1 p2 p3 p4 p5 : Option Addr) (c1 c2 c3 c4 c5 : Nat) (l1 l2 l3 l4 l5 : List ByteArray) (S' : ByteArray), RS w S' #[.int .i64 e0, .slice p1 (List.length l1) c1, .slice p2 (List.length l2) c2, .slice p3 (List.length l3) c3, .slice p4 (List.length l4) c4, .slice p5 (List.length l5) c5, .int .i64 0, .int .i64 0, .int .i64 0] w' ∧ RowB (w.heap.size + 3) w' (.slice p1 l1.length c1) l1 ∧ RowB (w.heap.size + 3) w' (.slice p2 l2.length c2) l2 ∧ RowB (w.heap.size + 3) w' (.slice p3 l3.length c3) l3 ∧ RowB (w.heap.size + 3) w' (.slice p4 l4.length c4) l4 ∧ RowB (w.heap.size + 3) w' (.slice p5 l5.length c5) l5 ∧
      l1.map bl = (cutN 65 kElem (bl S)).1 ∧ l2.map bl = (cutN 65 kAttr (cutN 65 kElem (bl S)).2).1 ∧ l3.map bl = (cutN 65 kScheme (cutN 65 kAttr (cutN 65 kElem (bl S)).2).2).1 ∧ l4.map bl = (cutN 65 kClass (cutN 65 kScheme (cutN 65 kAttr (cutN 65 kElem (bl S)).2).2).2).1 ∧ l5.map bl = (cutN 65 kProp (cutN 65 kClass (cutN 65 kScheme (cutN 65 kAttr (cutN 65 kElem (bl S)).2).2).2).2).1 ∧ bl S' = (cutN 65 kProp (cutN 65 kClass (cutN 65 kScheme (cutN 65 kAttr (cutN 65 kElem (bl S)).2).2).2).2).2 := by
  have CT : Hid (∀ (wy : World) (T K : ByteArray) (A : Array Value) (i : Nat) (old : Value), T.size ≤ 100000 → K.size ≤ 100 → RS w T A wy → A[i]? = some old → _) := hide (fun wy T K A i old hT hK hr ho => ptake_st w wy T K A i old hT hK hr ho)
  have HH := hide h
  have HSZ := hide hS
  clear h hS
  go_enter Tryz.func92, Tryz.ntmps92
  go_wp2_with fail
  refine (CT.out _ S ⟨#[101, 108, 101, 109]⟩ _ 1 (.slice none 0 0) HSZ.out (by decide) HH.out rfl).mono ?_
  rintro e x1 ⟨rfl, p1, c1, l1, S1, hr1, hw1, hl1, hs1, hk1⟩
  have HR1 : Hid (RS w S1 #[.int .i64 e0, .slice p1 (List.length l1) c1, .slice none 0 0, .slice none 0 0, .slice none 0 0, .slice none 0 0, .int .i64 0, .int .i64 0, .int .i64 0] x1) := hide hr1
  have HZ1 : Hid (S1.size ≤ 100000) := hide (by rw [← bl_len, hs1]; have h1 := (cutN_len 65 (bl ⟨#[101, 108, 101, 109]⟩) (bl S)).2.2; have h2 := HSZ.out; rw [bl_len] at h1; omega)
  have HW1 := hide hw1
  have HL1 := hide hl1
  have HS1 := hide hs1
  have HK1 := hide hk1
  clear hr1 hw1 hl1 hs1 hk1 HH
  go_wp2_with fail
  refine (CT.out _ S1 ⟨#[97, 116, 116, 114]⟩ _ 2 (.slice none 0 0) HZ1.out (by decide) HR1.out rfl).mono ?_
  rintro e x2 ⟨rfl, p2, c2, l2, S2, hr2, hw2, hl2, hs2, hk2⟩
  have HR2 : Hid (RS w S2 #[.int .i64 e0, .slice p1 (List.length l1) c1, .slice p2 (List.length l2) c2, .slice none 0 0, .slice none 0 0, .slice none 0 0, .int .i64 0, .int .i64 0, .int .i64 0] x2) := hide hr2
  have HZ2 : Hid (S2.size ≤ 100000) := hide (by rw [← bl_len, hs2]; have h1 := (cutN_len 65 (bl ⟨#[97, 116, 116, 114]⟩) (bl S1)).2.2; have h2 := HZ1.out; rw [bl_len] at h1; omega)
  have HW2 := hide hw2
  have HL2 := hide hl2
  have HS2 := hide hs2
  have HK2 := hide hk2
  clear hr2 hw2 hl2 hs2 hk2 HR1
  go_wp2_with fail
  refine (CT.out _ S2 ⟨#[115, 99, 104, 101, 109, 101]⟩ _ 3 (.slice none 0 0) HZ2.out (by decide) HR2.out rfl).mono ?_
  rintro e x3 ⟨rfl, p3, c3, l3, S3, hr3, hw3, hl3, hs3, hk3⟩
  have HR3 : Hid (RS w S3 #[.int .i64 e0, .slice p1 (List.length l1) c1, .slice p2 (List.length l2) c2, .slice p3 (List.length l3) c3, .slice none 0 0, .slice none 0 0, .int .i64 0, .int .i64 0, .int .i64 0] x3) := hide hr3
  have HZ3 : Hid (S3.size ≤ 100000) := hide (by rw [← bl_len, hs3]; have h1 := (cutN_len 65 (bl ⟨#[115, 99, 104, 101, 109, 101]⟩) (bl S2)).2.2; have h2 := HZ2.out; rw [bl_len] at h1; omega)
  have HW3 := hide hw3
  have HL3 := hide hl3
  have HS3 := hide hs3
  have HK3 := hide hk3
  clear hr3 hw3 hl3 hs3 hk3 HR2
  go_wp2_with fail
  refine (CT.out _ S3 ⟨#[99, 108, 97, 115, 115]⟩ _ 4 (.slice none 0 0) HZ3.out (by decide) HR3.out rfl).mono ?_
  rintro e x4 ⟨rfl, p4, c4, l4, S4, hr4, hw4, hl4, hs4, hk4⟩
  have HR4 : Hid (RS w S4 #[.int .i64 e0, .slice p1 (List.length l1) c1, .slice p2 (List.length l2) c2, .slice p3 (List.length l3) c3, .slice p4 (List.length l4) c4, .slice none 0 0, .int .i64 0, .int .i64 0, .int .i64 0] x4) := hide hr4
  have HZ4 : Hid (S4.size ≤ 100000) := hide (by rw [← bl_len, hs4]; have h1 := (cutN_len 65 (bl ⟨#[99, 108, 97, 115, 115]⟩) (bl S3)).2.2; have h2 := HZ3.out; rw [bl_len] at h1; omega)
  have HW4 := hide hw4
  have HL4 := hide hl4
  have HS4 := hide hs4
  have HK4 := hide hk4
  clear hr4 hw4 hl4 hs4 hk4 HR3
  go_wp2_with fail
  refine (CT.out _ S4 ⟨#[112, 114, 111, 112]⟩ _ 5 (.slice none 0 0) HZ4.out (by decide) HR4.out rfl).mono ?_
  rintro e x5 ⟨rfl, p5, c5, l5, S5, hr5, hw5, hl5, hs5, hk5⟩
  have HR5 : Hid (RS w S5 #[.int .i64 e0, .slice p1 (List.length l1) c1, .slice p2 (List.length l2) c2, .slice p3 (List.length l3) c3, .slice p4 (List.length l4) c4, .slice p5 (List.length l5) c5, .int .i64 0, .int .i64 0, .int .i64 0] x5) := hide hr5
  have HZ5 : Hid (S5.size ≤ 100000) := hide (by rw [← bl_len, hs5]; have h1 := (cutN_len 65 (bl ⟨#[112, 114, 111, 112]⟩) (bl S4)).2.2; have h2 := HZ4.out; rw [bl_len] at h1; omega)
  have HW5 := hide hw5
  have HL5 := hide hl5
  have HS5 := hide hs5
  have HK5 := hide hk5
  clear hr5 hw5 hl5 hs5 hk5 HR4
  clear CT
  go_wp2_with fail
  go_end0
  have e1 : bl S1 = (cutN 65 kElem (bl S)).2 := HS1.out
  have e2 : bl S2 = (cutN 65 kAttr (bl S1)).2 := HS2.out
  have e3 : bl S3 = (cutN 65 kScheme (bl S2)).2 := HS3.out
  have e4 : bl S4 = (cutN 65 kClass (bl S3)).2 := HS4.out
  have e5 : bl S5 = (cutN 65 kProp (bl S4)).2 := HS5.out
  refine ⟨rfl, p1, p2, p3, p4, p5, c1, c2, c3, c4, c5, l1, l2, l3, l4, l5, S5, HR5.out, HK5.out _ _ (HK4.out _ _ (HK3.out _ _ (HK2.out _ _ HW1.out))), HK5.out _ _ (HK4.out _ _ (HK3.out _ _ HW2.out)), HK5.out _ _ (HK4.out _ _ HW3.out), HK5.out _ _ HW4.out, HW5.out, HL1.out, ?_, ?_, ?_, ?_, ?_⟩
  · rw [← e1]; exact HL2.out
  · rw [← e1, ← e2]; exact HL3.out
  · rw [← e1, ← e2, ← e3]; exact HL4.out
  · rw [← e1, ← e2, ← e3, ← e4]; exact HL5.out
  · rw [← e1, ← e2, ← e3, ← e4]; exact e5
end Go.Proofs.YtmogplecohkjcaaGreatDoor

namespace Go.Proofs.YtmogplecohkjcaaGreatDoor
open Go.RowKit
open Utf1 Pol8

/-- Nothing that was there before. -/
def NB (w : World) (p : Option Addr) : Prop := ∀ b off, p = some ⟨b, off, none⟩ → w.heap.size ≤ b
theorem RowB.nb {w w' : World} {p : Option Addr} {n c : Nat} {ss : List ByteArray} (h : RowB (w.heap.size + 3) w' (.slice p n c) ss) : NB w p := fun b off e => by
  have := h.2 b off n c (by rw [e])
  omega
theorem mk_size (l : L) : (⟨l.toArray⟩ : ByteArray).size = l.length := by rw [← bl_len]
set_option maxRecDepth 100000 in
set_option maxHeartbeats 32000000 in
theorem preadL_any (s : ByteArray) (hs : s.size ≤ 99999) (w : World) (hg : Glob w) (hge : GlobE w) :
    Calls Tryz.prog 96 #[.string s] w fun e w' => (∃ (p1 p2 p3 p4 p5 : Option Addr) (c1 c2 c3 c4 c5 : Nat) (l1 l2 l3 l4 l5 : List ByteArray), e = .returned (.agg #[.int .i64 (readL (bl s)).ep, .slice p1 (List.length l1) c1, .slice p2 (List.length l2) c2, .slice p3 (List.length l3) c3, .slice p4 (List.length l4) c4, .slice p5 (List.length l5) c5, .int .i64 (readL (bl s)).dp, .int .i64 (readL (bl s)).nd, .int .i64 (readL (bl s)).bt]) ∧ PolV w' (.slice p1 l1.length c1) (.slice p2 l2.length c2) (.slice p3 l3.length c3) (.slice p4 l4.length c4) (.slice p5 l5.length c5) (readL (bl s)) l1 l2 l3 l4 l5 ∧ NB w p1 ∧ NB w p2 ∧ NB w p3 ∧ NB w p4 ∧ NB w p5) ∧ Below w.heap.size w w' := by
  obtain ⟨Q, hQ⟩ : ∃ Q, Q = readL (bl s) := ⟨_, rfl⟩
  rw [← hQ]
  have HQ := hide hQ
  have HG := hide hg
  have HGE := hide hge
  clear hQ hg hge
  obtain ⟨w1, hw1⟩ : ∃ w1, w1 = ((w.alloc (.cells #[.string s] 9)).alloc (.cells #[.int .i64 0, .slice none 0 0, .slice none 0 0, .slice none 0 0, .slice none 0 0, .slice none 0 0, .int .i64 0, .int .i64 0, .int .i64 0] 33)).alloc (.cells #[.int .i64 0, .slice none 0 0, .slice none 0 0, .slice none 0 0, .slice none 0 0, .slice none 0 0, .int .i64 0, .int .i64 0, .int .i64 0] 33) := ⟨_, rfl⟩
  have H1 : Hid (RS w s #[.int .i64 0, .slice none 0 0, .slice none 0 0, .slice none 0 0, .slice none 0 0, .slice none 0 0, .int .i64 0, .int .i64 0, .int .i64 0] w1) := hide (by
    rw [hw1]
    refine ⟨?_, ?_, ?_, bel_alloc (bel_alloc (bel_alloc (Below.refl _ _) _) _) _⟩
    · rw [Below.heap_alloc _ _ _ (by simp; omega), Below.heap_alloc _ _ _ (by simp)]
      exact new_block _ _ _
    · rw [Below.heap_alloc _ _ _ (by simp)]
      exact heap_alloc2_new _ _ _
    · have h := heap_alloc_new ((w.alloc (.cells #[.string s] 9)).alloc (.cells #[.int .i64 0, .slice none 0 0, .slice none 0 0, .slice none 0 0, .slice none 0 0, .slice none 0 0, .int .i64 0, .int .i64 0, .int .i64 0] 33)) (.cells #[.int .i64 0, .slice none 0 0, .slice none 0 0, .slice none 0 0, .slice none 0 0, .slice none 0 0, .int .i64 0, .int .i64 0, .int .i64 0] 33)
      have e : ((w.alloc (.cells #[.string s] 9)).alloc (.cells #[.int .i64 0, .slice none 0 0, .slice none 0 0, .slice none 0 0, .slice none 0 0, .slice none 0 0, .int .i64 0, .int .i64 0, .int .i64 0] 33)).heap.size = w.heap.size + 1 + 1 := by simp
      rw [e] at h
      exact h)
  obtain ⟨L1, hL1⟩ : ∃ L1 : ByteArray, L1 = ⟨(lineOf kEpoch (bl s)).toArray⟩ := ⟨_, rfl⟩
  obtain ⟨R1, hR1⟩ : ∃ R1 : ByteArray, R1 = ⟨(restOf kEpoch (bl s)).toArray⟩ := ⟨_, rfl⟩
  have HL1 : Hid (bl L1 = lineOf kEpoch (bl s) ∧ bl R1 = restOf kEpoch (bl s) ∧ L1.size ≤ 100000 ∧ R1.size ≤ 100000) := hide (by
    have h := restOf_len kEpoch (bl s)
    rw [bl_len] at h
    rw [hL1, hR1, mk_size, mk_size]
    exact ⟨rfl, rfl, by omega, by omega⟩)
  have C1 := hide (pcutLine_any s ⟨#[101, 112, 111, 99, 104]⟩ (by omega) (by decide) w1)
  rw [show bl ⟨#[101, 112, 111, 99, 104]⟩ = kEpoch from rfl, ← hL1, ← hR1] at C1
  clear hL1 hR1
  generalize (cutL kEpoch (bl s)).isSome = ok1 at C1
  have y0 := tag_cell H1.out.1 0 _ rfl
  have hmf : ∀ (fn : Fn) (first cap : Array Value) (w : World), (Instr.makeFunc fn first cap).run Tryz.prog w = .ok (.func fn first cap) w := fun _ _ _ _ => rfl
  go_enter Tryz.func96, Tryz.ntmps96
  go_upto_region 2 with fail
  rw [← hw1]
  clear hw1
  go_wp2_with fail
  refine C1.out.mono ?_
  rintro e w2 ⟨rfl, h2⟩
  have H2 := hide (H1.out.keep h2)
  clear h2 C1 H1 y0
  have c0 := tag_cell H2.out.1 0 _ rfl
  have z0 := Go.Joins.unfrozen_of_block H2.out.1 0
  obtain ⟨w3, hw3⟩ : ∃ w3, w3 = w2.setCell ⟨w.heap.size, 0, none⟩ (.string R1) := ⟨_, rfl⟩
  have H3 : Hid (RS w R1 #[.int .i64 0, .slice none 0 0, .slice none 0 0, .slice none 0 0, .slice none 0 0, .slice none 0 0, .int .i64 0, .int .i64 0, .int .i64 0] w3) := hide (by rw [hw3]; exact H2.out.putS R1)
  go_upto_region 3 with fail
  rw [← hw3]
  clear hw3 c0 z0 H2
  have C2 := hide (pnumber_any L1 HL1.out.2.2.1 w3 (HGE.out.below H3.out.2.2.2))
  obtain ⟨e0, he0⟩ : ∃ e0, e0 = numA (bl L1) := ⟨_, rfl⟩
  rw [← he0] at C2
  have HE0 := hide he0
  clear he0
  go_wp2_with fail
  refine C2.out.mono ?_
  rintro e w4 ⟨rfl, h4⟩
  have H4 := hide (H3.out.keep h4)
  clear h4 C2 H3
  have c0 := tag_cell H4.out.2.2.1 0 _ rfl
  have z0 := Go.Joins.unfrozen_of_block H4.out.2.2.1 0
  obtain ⟨w5, hw5⟩ : ∃ w5, w5 = w4.setCell ⟨w.heap.size + 1 + 1, 0, none⟩ (.int .i64 e0) := ⟨_, rfl⟩
  have H5 : Hid (RS w R1 #[.int .i64 e0, .slice none 0 0, .slice none 0 0, .slice none 0 0, .slice none 0 0, .slice none 0 0, .int .i64 0, .int .i64 0, .int .i64 0] w5) := hide (by rw [hw5]; exact H4.out.putA 0 (.int .i64 e0))
  go_upto_region 4 with fail
  rw [← hw5]
  clear hw5 c0 z0 H4
  have C3 := hide (ptakes_st w w5 R1 e0 HL1.out.2.2.2 H5.out)
  go_wp2_with fail
  refine C3.out.mono ?_
  rintro e w6 ⟨rfl, p1, p2, p3, p4, p5, c1, c2, c3, c4, c5, l1, l2, l3, l4, l5, S6, hr6, r1, r2, r3, r4, r5, m1, m2, m3, m4, m5, m6⟩
  have H6 : Hid (RS w S6 #[.int .i64 e0, .slice p1 (List.length l1) c1, .slice p2 (List.length l2) c2, .slice p3 (List.length l3) c3, .slice p4 (List.length l4) c4, .slice p5 (List.length l5) c5, .int .i64 0, .int .i64 0, .int .i64 0] w6) := hide hr6
  have HRW := hide (And.intro r1 (And.intro r2 (And.intro r3 (And.intro r4 r5))))
  have HM := hide (And.intro m1 (And.intro m2 (And.intro m3 (And.intro m4 (And.intro m5 m6)))))
  clear hr6 r1 r2 r3 r4 r5 m1 m2 m3 m4 m5 m6 C3 H5 hmf
  have hS6 : S6.size ≤ 100000 := by
    have h1 := HL1.out.2.2.2
    have q1 := (cutN_len 65 kElem (bl R1)).2.2
    have q2 := (cutN_len 65 kAttr (cutN 65 kElem (bl R1)).2).2.2
    have q3 := (cutN_len 65 kScheme (cutN 65 kAttr (cutN 65 kElem (bl R1)).2).2).2.2
    have q4 := (cutN_len 65 kClass (cutN 65 kScheme (cutN 65 kAttr (cutN 65 kElem (bl R1)).2).2).2).2.2
    have q5 := (cutN_len 65 kProp (cutN 65 kClass (cutN 65 kScheme (cutN 65 kAttr (cutN 65 kElem (bl R1)).2).2).2).2).2.2
    rw [← bl_len, HM.out.2.2.2.2.2]
    rw [bl_len] at q1
    omega
  obtain ⟨L7, hL7⟩ : ∃ L7 : ByteArray, L7 = ⟨(lineOf kCaps (bl S6)).toArray⟩ := ⟨_, rfl⟩
  have hbL7 : bl L7 = lineOf kCaps (bl S6) := by rw [hL7]
  have hzL7 : L7.size ≤ 100000 := by rw [hL7, mk_size]; have h := (restOf_len kCaps (bl S6)).2; rw [bl_len] at h; omega
  have C4 := hide (pcutLine_any S6 ⟨#[99, 97, 112, 115]⟩ hS6 (by decide) w6)
  rw [show bl ⟨#[99, 97, 112, 115]⟩ = kCaps from rfl, ← hL7] at C4
  clear hL7
  generalize (⟨(restOf kCaps (bl S6)).toArray⟩ : ByteArray) = R7 at C4
  generalize (cutL kCaps (bl S6)).isSome = ok7 at C4
  have HBL7 := hide hbL7
  clear hbL7
  obtain ⟨D1, hD1⟩ : ∃ D1 : ByteArray, D1 = ⟨(fst' 32 (bl L7)).toArray⟩ := ⟨_, rfl⟩
  obtain ⟨M1, hM1⟩ : ∃ M1 : ByteArray, M1 = ⟨(snd' 32 (bl L7)).toArray⟩ := ⟨_, rfl⟩
  have HD1 : Hid (bl D1 = fst' 32 (bl L7) ∧ bl M1 = snd' 32 (bl L7) ∧ D1.size ≤ 100000 ∧ M1.size ≤ 100000) := hide (by
    have h := fst_len 32 (bl L7)
    rw [bl_len] at h
    rw [hD1, hM1, mk_size, mk_size]
    exact ⟨rfl, rfl, by omega, by omega⟩)
  have C5 : Hid (∀ wx, _) := hide (fun wx => pcut_any 32 L7 hzL7 wx)
  rw [← hD1, ← hM1] at C5
  clear hD1 hM1
  generalize (cutB 32 (bl L7)).isSome = ok8 at C5
  obtain ⟨D2, hD2⟩ : ∃ D2 : ByteArray, D2 = ⟨(fst' 32 (bl M1)).toArray⟩ := ⟨_, rfl⟩
  obtain ⟨M2, hM2⟩ : ∃ M2 : ByteArray, M2 = ⟨(snd' 32 (bl M1)).toArray⟩ := ⟨_, rfl⟩
  have HD2 : Hid (bl D2 = fst' 32 (bl M1) ∧ bl M2 = snd' 32 (bl M1) ∧ D2.size ≤ 100000 ∧ M2.size ≤ 100000) := hide (by
    have h := fst_len 32 (bl M1)
    have h2 := HD1.out.2.2.2
    rw [bl_len] at h
    rw [hD2, hM2, mk_size, mk_size]
    exact ⟨rfl, rfl, by omega, by omega⟩)
  have C6 : Hid (∀ wx, _) := hide (fun wx => pcut_any 32 M1 HD1.out.2.2.2 wx)
  rw [← hD2, ← hM2] at C6
  clear hD2 hM2 hzL7 hS6
  generalize (cutB 32 (bl M1)).isSome = ok9 at C6
  have y0 := tag_cell H6.out.1 0 _ rfl
  go_wp2_with fail
  refine C4.out.mono ?_
  rintro e w7 ⟨rfl, h7⟩
  have H7 := hide (H6.out.keep h7)
  have B7 := hide h7
  clear h7 C4 y0
  go_wp2_with fail
  refine (C5.out w7).mono ?_
  rintro e w8 ⟨rfl, h8⟩
  have H8 := hide (H7.out.keep h8)
  have B8 := hide (bel2 B7.out h8)
  clear h8 C5 H7 B7
  go_wp2_with fail
  refine (C6.out w8).mono ?_
  rintro e w9 ⟨rfl, h9⟩
  have H9 := hide (H8.out.keep h9)
  have B9 := hide (bel2 B8.out h9)
  clear h9 C6 H8 B8
  obtain ⟨n6, hn6⟩ : ∃ n6, n6 = numA (bl D1) := ⟨_, rfl⟩
  have HNn6 := hide hn6
  have CN := hide (pnumber_any D1 HD1.out.2.2.1 w9 (HGE.out.below H9.out.2.2.2))
  rw [← hn6] at CN
  clear hn6
  go_wp2_with fail
  refine CN.out.mono ?_
  rintro e w10 ⟨rfl, hh⟩
  have H10 := hide (H9.out.keep hh)
  have B10 := hide (bel2 B9.out hh)
  clear hh CN H9 B9
  obtain ⟨n7, hn7⟩ : ∃ n7, n7 = numA (bl D2) := ⟨_, rfl⟩
  have HNn7 := hide hn7
  have CN := hide (pnumber_any D2 HD2.out.2.2.1 w10 (HGE.out.below H10.out.2.2.2))
  rw [← hn7] at CN
  clear hn7
  go_wp2_with fail
  refine CN.out.mono ?_
  rintro e w11 ⟨rfl, hh⟩
  have H11 := hide (H10.out.keep hh)
  have B11 := hide (bel2 B10.out hh)
  clear hh CN H10 B10
  obtain ⟨n8, hn8⟩ : ∃ n8, n8 = numA (bl M2) := ⟨_, rfl⟩
  have HNn8 := hide hn8
  have CN := hide (pnumber_any M2 HD2.out.2.2.2 w11 (HGE.out.below H11.out.2.2.2))
  rw [← hn8] at CN
  clear hn8
  go_wp2_with fail
  refine CN.out.mono ?_
  rintro e w12 ⟨rfl, hh⟩
  have H12 := hide (H11.out.keep hh)
  have B12 := hide (bel2 B11.out hh)
  clear hh CN H11 B11
  have k6 := tag_cell H12.out.2.2.1 6 _ rfl
  have z6 := Go.Joins.unfrozen_of_block H12.out.2.2.1 6
  have H12a := hide (H12.out.putA 6 (.int .i64 n6))
  have k7 := tag_cell H12a.out.2.2.1 7 _ rfl
  have z7 := Go.Joins.unfrozen_of_block H12a.out.2.2.1 7
  have H12b := hide (H12a.out.putA 7 (.int .i64 n7))
  have k8 := tag_cell H12b.out.2.2.1 8 _ rfl
  have z8 := Go.Joins.unfrozen_of_block H12b.out.2.2.1 8
  obtain ⟨w13, hw13⟩ : ∃ w13, w13 = ((w12.setCell ⟨w.heap.size + 1 + 1, 6, none⟩ (.int .i64 n6)).setCell ⟨w.heap.size + 1 + 1, 7, none⟩ (.int .i64 n7)).setCell ⟨w.heap.size + 1 + 1, 8, none⟩ (.int .i64 n8) := ⟨_, rfl⟩
  have H13 : Hid (RS w S6 #[.int .i64 e0, .slice p1 (List.length l1) c1, .slice p2 (List.length l2) c2, .slice p3 (List.length l3) c3, .slice p4 (List.length l4) c4, .slice p5 (List.length l5) c5, .int .i64 n6, .int .i64 n7, .int .i64 n8] w13) := hide (by rw [hw13]; exact H12b.out.putA 8 (.int .i64 n8))
  have HR13 : Hid (∀ v ss, RowB (w.heap.size + 3) w6 v ss → RowB (w.heap.size + 3) w13 v ss) := hide (fun v ss hr => by
    rw [hw13]
    exact (((hr.below B12.out).setCell (by show w.heap.size + 1 + 1 < w.heap.size + 3; omega) _).setCell (by show w.heap.size + 1 + 1 < w.heap.size + 3; omega) _).setCell (by show w.heap.size + 1 + 1 < w.heap.size + 3; omega) _)
  go_upto_region 9 with fail
  rw [← hw13]
  clear hw13 k6 z6 k7 z7 k8 z8 H12 H12a H12b B12
  go_step
  refine wpList_load_row rfl 33 _ rfl (w.heap.size + 1 + 1) rfl 33 #[.int .i64 e0, .slice p1 (List.length l1) c1, .slice p2 (List.length l2) c2, .slice p3 (List.length l3) c3, .slice p4 (List.length l4) c4, .slice p5 (List.length l5) c5, .int .i64 n6, .int .i64 n7, .int .i64 n8] (0, 0) _ H13.out.2.2.1 Tryz.underlying33 rfl (by kernel_rfl) ?_
  refine wpList_store_row rfl 33 _ _ rfl (w.heap.size + 1) #[.int .i64 e0, .slice p1 (List.length l1) c1, .slice p2 (List.length l2) c2, .slice p3 (List.length l3) c3, .slice p4 (List.length l4) c4, .slice p5 (List.length l5) c5, .int .i64 n6, .int .i64 n7, .int .i64 n8] rfl rfl 33 _ H13.out.2.1 (by kernel_rfl) rfl (by simp [Value.oneCell']) ?_
  obtain ⟨w14, hw14⟩ : ∃ w14, w14 = w13.setRow (w.heap.size + 1) #[.int .i64 e0, .slice p1 (List.length l1) c1, .slice p2 (List.length l2) c2, .slice p3 (List.length l3) c3, .slice p4 (List.length l4) c4, .slice p5 (List.length l5) c5, .int .i64 n6, .int .i64 n7, .int .i64 n8] := ⟨_, rfl⟩
  have K14 : Hid (w14.heap[w.heap.size + 1]? = some (.cells #[.int .i64 e0, .slice p1 (List.length l1) c1, .slice p2 (List.length l2) c2, .slice p3 (List.length l3) c3, .slice p4 (List.length l4) c4, .slice p5 (List.length l5) c5, .int .i64 n6, .int .i64 n7, .int .i64 n8] 33 (0, 0))) := hide (by rw [hw14]; exact setRow_heap _ _ _ _ _ _ H13.out.2.1)
  have B14 : Hid (Below w.heap.size w w14) := hide (by
    rw [hw14]
    have h := H13.out.2.2.2
    exact ⟨h.os, h.tape, h.output, by rw [size_setRow]; exact h.size, fun k hk => (setRow_other _ _ k _ (by omega)).trans (h.block k hk)⟩)
  have HR14 : Hid (∀ v ss, RowB (w.heap.size + 3) w6 v ss → StrArg w14 v ss) := hide (fun v ss hr => by
    rw [hw14]
    exact ((HR13.out v ss hr).setRow (by omega) _).1)
  rw [← hw14]
  clear hw14 H13 HR13
  go_wp2_with fail
  refine bodyPost_ret (results_cell_row rfl _ _ (w.heap.size + 1) 33 #[.int .i64 e0, .slice p1 (List.length l1) c1, .slice p2 (List.length l2) c2, .slice p3 (List.length l3) c3, .slice p4 (List.length l4) c4, .slice p5 (List.length l5) c5, .int .i64 n6, .int .i64 n7, .int .i64 n8] (0, 0) _ rfl K14.out Tryz.underlying33 rfl (by kernel_rfl)) rfl ?_
  have hq : Q = ⟨e0, l1.map bl, l2.map bl, l3.map bl, l4.map bl, l5.map bl, n6, n7, n8⟩ := by
    have hm := HM.out
    rw [HQ.out, HE0.out, HNn6.out, HNn7.out, HNn8.out, hm.1, hm.2.1, hm.2.2.1, hm.2.2.2.1, hm.2.2.2.2.1, HD2.out.1, HD2.out.2.1, HD1.out.1, HD1.out.2.1, HBL7.out, hm.2.2.2.2.2, HL1.out.1, HL1.out.2.1]
    rfl
  rw [hq]
  exact ⟨⟨p1, p2, p3, p4, p5, c1, c2, c3, c4, c5, l1, l2, l3, l4, l5, rfl, ⟨HR14.out _ _ HRW.out.1, HR14.out _ _ HRW.out.2.1, HR14.out _ _ HRW.out.2.2.1, HR14.out _ _ HRW.out.2.2.2.1, HR14.out _ _ HRW.out.2.2.2.2, rfl, rfl, rfl, rfl, rfl, HG.out.below B14.out⟩, HRW.out.1.nb, HRW.out.2.1.nb, HRW.out.2.2.1.nb, HRW.out.2.2.2.1.nb, HRW.out.2.2.2.2.nb⟩, B14.out⟩
end Go.Proofs.YtmogplecohkjcaaGreatDoor
