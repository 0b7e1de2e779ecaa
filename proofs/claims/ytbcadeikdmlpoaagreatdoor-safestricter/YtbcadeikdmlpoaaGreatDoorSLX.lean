/-
  What is asked of package safe; a link in memory; awake.
-/
import Derived.Test.YtbcadeikdmlpoaaGreatDoorSPX
namespace Go.Proofs.YtbcadeikdmlpoaaGreatDoor
open Go.RowKit
open Utf1 Pol8

/-- What is asked of safe.Safe, safe.Value and safe.Place. -/
def SafeC : Prop := ∀ (v1 v2 v3 v4 v5 : Value) (p : Pol) (l1 l2 l3 l4 l5 : List ByteArray) (v : Value) (ns : List Nd) (w : World), PolV w v1 v2 v3 v4 v5 p l1 l2 l3 l4 l5 → fits p → Dm.NAt w v ns → wsL ns ≤ 20000 →
  Calls Tryz.prog 8 #[pval p v1 v2 v3 v4 v5, v] w fun e w' => e = .returned (.bool (Saf.safeB p ns)) ∧ Below w.heap.size w w'
def ValueC : Prop := ∀ (v1 v2 v3 v4 v5 : Value) (p : Pol) (l1 l2 l3 l4 l5 : List ByteArray) (e n v : ByteArray) (w : World), PolV w v1 v2 v3 v4 v5 p l1 l2 l3 l4 l5 → fits p → e.size ≤ 100000 → n.size ≤ 100000 → v.size ≤ 90000 →
  Calls Tryz.prog 40 #[pval p v1 v2 v3 v4 v5, .string e, .agg #[.string n, .string v]] w fun r w' => r = .returned (.bool (Saf.valueB p (bl e) (bl n) (bl v))) ∧ Below w.heap.size w w'
def PlaceC : Prop := ∀ (n : ByteArray) (w : World), n.size ≤ 100000 →
  Calls Tryz.prog 57 #[.string n] w fun e w' => e = .returned (.bool (Saf.placeB (bl n))) ∧ Below w.heap.size w w'

def pairV : List (ByteArray × ByteArray) → List Value
  | [] => []
  | x :: r => .string x.1 :: .string x.2 :: pairV r
theorem pairV_at : ∀ (l : List (ByteArray × ByteArray)) (i : Nat) (x : ByteArray × ByteArray), l[i]? = some x → (pairV l)[i * 2]? = some (.string x.1) ∧ (pairV l)[i * 2 + 1]? = some (.string x.2)
  | [], i, x, h => by simp at h
  | y :: r, 0, x, h => by
    have e : y = x := by simpa using h
    subst e
    exact ⟨rfl, rfl⟩
  | y :: r, i + 1, x, h => by
    have := pairV_at r i x (by simpa using h)
    rw [show (i + 1) * 2 = i * 2 + 2 by omega, pairV]
    simpa using this
abbrev atOf (l : List (ByteArray × ByteArray)) : Saf.At := l.map fun x => (bl x.1, bl x.2)
/-- Attributes in a block of their own. -/
theorem arow_block {w : World} {g : Nat} {l : List (ByteArray × ByteArray)} (hg : w.heap[g]? = some (.cells (pairV l).toArray 33 (0, 0))) (hz : ∀ x ∈ l, x.1.size ≤ 100000 ∧ x.2.size ≤ 100000) (hl : l.length ≤ 1000) : Dm.ARow w (some ⟨g, 0, none⟩) l.length (atOf l) := by
  refine ⟨⟨by rw [List.length_map], by omega⟩, fun i kv hi => ?_⟩
  rw [List.getElem?_map] at hi
  cases hx : l[i]? with
  | none => rw [hx] at hi; cases hi
  | some x =>
    rw [hx] at hi
    cases hi
    obtain ⟨h1, h2⟩ := pairV_at l i x hx
    obtain ⟨z1, z2⟩ := hz x (List.mem_of_getElem? hx)
    refine ⟨g, 0, rfl, ?_, ?_, by show (bl x.1).length ≤ _; rw [bl_len]; omega, by show (bl x.2).length ≤ _; rw [bl_len]; omega⟩
    · rw [Nat.zero_add]
      exact tag_cell hg _ _ (by rw [List.getElem?_toArray]; exact h1)
    · rw [Nat.zero_add]
      exact tag_cell hg _ _ (by rw [List.getElem?_toArray]; exact h2)
/-- One element in a block of its own. -/
theorem nat_block {w : World} {g : Nat} {XN : ByteArray} {ap : Option Addr} {am ac : Nat} {at' : Saf.At} (hg : w.heap[g]? = some (.cells #[.string XN, .slice ap am ac, .string ⟨#[]⟩, .slice none 0 0] 36 (0, 0))) (hz : XN.size ≤ 100000) (ha : Dm.ARow w ap am at') : Dm.NAt w (.slice (some ⟨g, 0, none⟩) 1 1) [.mk (bl XN) at' [] []] := by
  refine ⟨2, some ⟨g, 0, none⟩, 1, rfl, (show 1 ≤ 9223372036854775807 by decide), fun i nd hi => ?_⟩
  have h0 : i = 0 := by
    have := (List.getElem?_eq_some_iff.1 hi).1
    simp at this
    exact this
  subst h0
  have e : Nd.mk (bl XN) at' [] [] = nd := by simpa using hi
  subst e
  refine ⟨g, 0, ap, am, ac, none, 0, 0, rfl, tag_cell hg 0 _ rfl, tag_cell hg 1 _ rfl, tag_cell hg 2 _ rfl, tag_cell hg 3 _ rfl, ⟨by show (bl XN).length ≤ _; rw [bl_len]; omega, by show 0 ≤ _; omega⟩, ha, ⟨none, 0, rfl, Nat.zero_le _, fun i nd h => absurd h (by show ([] : List Nd)[i]? ≠ some nd; simp)⟩⟩

def awP : Pol := ⟨1, [[97]], [[97, 46, 104, 114, 101, 102]], [[104, 116, 116, 112, 115]], [], [], 9, 99, 999⟩
theorem awP_fits : fits awP := by
  intro l hl
  simp only [awP, List.mem_cons, List.not_mem_nil, or_false] at hl
  rcases hl with rfl | rfl | rfl | rfl | rfl <;> simp
abbrev xPlace : ByteArray := ⟨#[104, 116, 116, 112, 115, 58, 47, 47, 120]⟩
abbrev bHref : ByteArray := ⟨#[104, 114, 101, 102]⟩
abbrev bRel : ByteArray := ⟨#[114, 101, 108]⟩
abbrev bForced : ByteArray := ⟨#[110, 111, 102, 111, 108, 108, 111, 119, 32, 110, 111, 111, 112, 101, 110, 101, 114]⟩
theorem aw_yes : Saf.safeB awP [.mk [97] [(bl bHref, bl xPlace), (bl bRel, bl bForced)] [] []] = true := by kernel_rfl
theorem aw_no : Saf.safeB awP [.mk [97] [(bl bHref, bl xPlace)] [] []] = false := by kernel_rfl

/-- What awake lays: a policy, two attributes. -/
structure AwB (w : World) (b1 : Nat) (wx : World) : Prop where
  p : wx.heap[b1 + 3]? = some (.cells #[.int .i64 1, .slice (some ⟨b1, 0, none⟩) 1 1, .slice (some ⟨b1 + 1, 0, none⟩) 1 1, .slice (some ⟨b1 + 2, 0, none⟩) 1 1, .slice none 0 0, .slice none 0 0, .int .i64 9, .int .i64 99, .int .i64 999] 24 (0, 0))
  h : wx.heap[b1 + 4]? = some (.cells #[.string bHref, .string xPlace] 33 (0, 0))
  r : wx.heap[b1 + 5]? = some (.cells #[.string bRel, .string bForced] 33 (0, 0))
  s1 : StrArg wx (.slice (some ⟨b1, 0, none⟩) 1 1) [⟨#[97]⟩]
  s2 : StrArg wx (.slice (some ⟨b1 + 1, 0, none⟩) 1 1) [⟨#[97, 46, 104, 114, 101, 102]⟩]
  s3 : StrArg wx (.slice (some ⟨b1 + 2, 0, none⟩) 1 1) [⟨#[104, 116, 116, 112, 115]⟩]
  b : Below w.heap.size w wx
theorem AwB.keep {w wx wy : World} {b1 : Nat} (h : AwB w b1 wx) (hb : Below wx.heap.size wx wy) : AwB w b1 wy :=
  ⟨(hb.block _ (Array.getElem?_eq_some_iff.1 h.p).1).trans h.p, (hb.block _ (Array.getElem?_eq_some_iff.1 h.h).1).trans h.h, (hb.block _ (Array.getElem?_eq_some_iff.1 h.r).1).trans h.r, h.s1.below hb, h.s2.below hb, h.s3.below hb, h.b.trans (hb.mono h.b.size)⟩
theorem AwB.pol {w wx : World} {b1 : Nat} (h : AwB w b1 wx) : PolV wx (.slice (some ⟨b1, 0, none⟩) 1 1) (.slice (some ⟨b1 + 1, 0, none⟩) 1 1) (.slice (some ⟨b1 + 2, 0, none⟩) 1 1) (.slice none 0 0) (.slice none 0 0) awP [⟨#[97]⟩] [⟨#[97, 46, 104, 114, 101, 102]⟩] [⟨#[104, 116, 116, 112, 115]⟩] [] [] :=
  ⟨h.s1, h.s2, h.s3, strArg_nil _, strArg_nil _, rfl, rfl, rfl, rfl, rfl, trivial⟩
theorem one_row (w : World) (x : ByteArray) (t : TypeId) : StrArg (w.alloc (.cells #[.string x] t)) (.slice (some ⟨w.heap.size, 0, none⟩) 1 1) [x] := strArg_row w [x] t
theorem AwB.new (w : World) : AwB w w.heap.size ((((((w.alloc (.cells #[.string ⟨#[97]⟩] 9)).alloc (.cells #[.string ⟨#[97, 46, 104, 114, 101, 102]⟩] 9)).alloc (.cells #[.string ⟨#[104, 116, 116, 112, 115]⟩] 9)).alloc (.cells #[.int .i64 1, .slice (some ⟨w.heap.size, 0, none⟩) 1 1, .slice (some ⟨w.heap.size + 1, 0, none⟩) 1 1, .slice (some ⟨w.heap.size + 2, 0, none⟩) 1 1, .slice none 0 0, .slice none 0 0, .int .i64 9, .int .i64 99, .int .i64 999] 24)).alloc (.cells #[.string bHref, .string xPlace] 33)).alloc (.cells #[.string bRel, .string bForced] 33)) := by
  obtain ⟨wa, ha⟩ : ∃ wa, wa = w.alloc (.cells #[.string ⟨#[97]⟩] 9) := ⟨_, rfl⟩
  obtain ⟨wb, hb⟩ : ∃ wb, wb = wa.alloc (.cells #[.string ⟨#[97, 46, 104, 114, 101, 102]⟩] 9) := ⟨_, rfl⟩
  obtain ⟨wc, hc⟩ : ∃ wc, wc = wb.alloc (.cells #[.string ⟨#[104, 116, 116, 112, 115]⟩] 9) := ⟨_, rfl⟩
  obtain ⟨wd, hd⟩ : ∃ wd, wd = wc.alloc (.cells #[.int .i64 1, .slice (some ⟨w.heap.size, 0, none⟩) 1 1, .slice (some ⟨w.heap.size + 1, 0, none⟩) 1 1, .slice (some ⟨w.heap.size + 2, 0, none⟩) 1 1, .slice none 0 0, .slice none 0 0, .int .i64 9, .int .i64 99, .int .i64 999] 24) := ⟨_, rfl⟩
  obtain ⟨we, he⟩ : ∃ we, we = wd.alloc (.cells #[.string bHref, .string xPlace] 33) := ⟨_, rfl⟩
  obtain ⟨wf, hf⟩ : ∃ wf, wf = we.alloc (.cells #[.string bRel, .string bForced] 33) := ⟨_, rfl⟩
  have za : wa.heap.size = w.heap.size + 1 := by rw [ha]; simp
  have zb : wb.heap.size = w.heap.size + 2 := by rw [hb]; simp; omega
  have zc : wc.heap.size = w.heap.size + 3 := by rw [hc]; simp; omega
  have zd : wd.heap.size = w.heap.size + 4 := by rw [hd]; simp; omega
  have ze : we.heap.size = w.heap.size + 5 := by rw [he]; simp; omega
  have Ba : Below w.heap.size w wa := by rw [ha]; exact bel_alloc (Below.refl _ _) _
  have Bb : Below wa.heap.size wa wb := by rw [hb]; exact bel_alloc (Below.refl _ _) _
  have Bc : Below wb.heap.size wb wc := by rw [hc]; exact bel_alloc (Below.refl _ _) _
  have Bd : Below wc.heap.size wc wd := by rw [hd]; exact bel_alloc (Below.refl _ _) _
  have Be : Below wd.heap.size wd we := by rw [he]; exact bel_alloc (Below.refl _ _) _
  have Bf : Below we.heap.size we wf := by rw [hf]; exact bel_alloc (Below.refl _ _) _
  have r1 := one_row w ⟨#[97]⟩ 9
  have r2 := one_row wa ⟨#[97, 46, 104, 114, 101, 102]⟩ 9
  have r3 := one_row wb ⟨#[104, 116, 116, 112, 115]⟩ 9
  rw [← ha] at r1
  rw [← hb, za] at r2
  rw [← hc, zb] at r3
  have k4 := new_block wc #[.int .i64 1, .slice (some ⟨w.heap.size, 0, none⟩) 1 1, .slice (some ⟨w.heap.size + 1, 0, none⟩) 1 1, .slice (some ⟨w.heap.size + 2, 0, none⟩) 1 1, .slice none 0 0, .slice none 0 0, .int .i64 9, .int .i64 99, .int .i64 999] 24
  have k5 := new_block wd #[.string bHref, .string xPlace] 33
  have k6 := new_block we #[.string bRel, .string bForced] 33
  rw [← hd, zc] at k4
  rw [← he, zd] at k5
  rw [← hf, ze] at k6
  rw [← ha, ← hb, ← hc, ← hd, ← he, ← hf]
  have Bcf := bel2 (bel2 Bd Be) Bf
  have Bdf := bel2 Be Bf
  exact ⟨(Bdf.block _ (by omega)).trans k4, (Bf.block _ (by omega)).trans k5, k6, ((r1.below Bb).below Bc).below Bcf, (r2.below Bc).below Bcf, r3.below Bcf, bel2 (bel2 (bel2 Ba Bb) Bc) Bcf⟩
end Go.Proofs.YtbcadeikdmlpoaaGreatDoor

namespace Go.Proofs.YtbcadeikdmlpoaaGreatDoor
open Go.RowKit
open Utf1 Pol8

theorem link_nat {w0 w : World} (hw : w = (w0.alloc (.cells #[.string ⟨#[104, 114, 101, 102]⟩, .string ⟨#[104, 116, 116, 112, 115, 58, 47, 47, 120]⟩, .string ⟨#[114, 101, 108]⟩, .string ⟨#[110, 111, 102, 111, 108, 108, 111, 119, 32, 110, 111, 111, 112, 101, 110, 101, 114]⟩] 33)).alloc (.cells #[.string ⟨#[97]⟩, .slice (some ⟨w0.heap.size, 0, none⟩) 2 2, .string ⟨#[]⟩, .slice none 0 0] 36)) : Dm.NAt w (.slice (some ⟨w0.heap.size + 1, 0, none⟩) 1 1) [.mk [97] [(bl bHref, bl xPlace), (bl bRel, bl bForced)] [] []] ∧ Below w0.heap.size w0 w := by
  obtain ⟨wa, ha⟩ : ∃ wa, wa = w0.alloc (.cells #[.string ⟨#[104, 114, 101, 102]⟩, .string ⟨#[104, 116, 116, 112, 115, 58, 47, 47, 120]⟩, .string ⟨#[114, 101, 108]⟩, .string ⟨#[110, 111, 102, 111, 108, 108, 111, 119, 32, 110, 111, 111, 112, 101, 110, 101, 114]⟩] 33) := ⟨_, rfl⟩
  have za : wa.heap.size = w0.heap.size + 1 := by rw [ha]; simp
  have k1 := new_block w0 #[.string ⟨#[104, 114, 101, 102]⟩, .string ⟨#[104, 116, 116, 112, 115, 58, 47, 47, 120]⟩, .string ⟨#[114, 101, 108]⟩, .string ⟨#[110, 111, 102, 111, 108, 108, 111, 119, 32, 110, 111, 111, 112, 101, 110, 101, 114]⟩] 33
  rw [← ha] at k1
  rw [← ha] at hw
  have k2 := new_block wa #[.string ⟨#[97]⟩, .slice (some ⟨w0.heap.size, 0, none⟩) 2 2, .string ⟨#[]⟩, .slice none 0 0] 36
  rw [← hw, za] at k2
  have B : Below wa.heap.size wa w := by rw [hw]; exact bel_alloc (Below.refl _ _) _
  have Ba : Below w0.heap.size w0 wa := by rw [ha]; exact bel_alloc (Below.refl _ _) _
  have hr : Dm.ARow wa (some ⟨w0.heap.size, 0, none⟩) 2 (atOf [(bHref, xPlace), (bRel, bForced)]) := arow_block (l := [(bHref, xPlace), (bRel, bForced)]) k1 (by decide) (by decide)
  exact ⟨nat_block (XN := ⟨#[97]⟩) k2 (by decide) (hr.below B), bel2 Ba B⟩
theorem link_nat1 {w0 w : World} (hw : w = (w0.alloc (.cells #[.string ⟨#[104, 114, 101, 102]⟩, .string ⟨#[104, 116, 116, 112, 115, 58, 47, 47, 120]⟩] 33)).alloc (.cells #[.string ⟨#[97]⟩, .slice (some ⟨w0.heap.size, 0, none⟩) 1 1, .string ⟨#[]⟩, .slice none 0 0] 36)) : Dm.NAt w (.slice (some ⟨w0.heap.size + 1, 0, none⟩) 1 1) [.mk [97] [(bl bHref, bl xPlace)] [] []] ∧ Below w0.heap.size w0 w := by
  obtain ⟨wa, ha⟩ : ∃ wa, wa = w0.alloc (.cells #[.string ⟨#[104, 114, 101, 102]⟩, .string ⟨#[104, 116, 116, 112, 115, 58, 47, 47, 120]⟩] 33) := ⟨_, rfl⟩
  have za : wa.heap.size = w0.heap.size + 1 := by rw [ha]; simp
  have k1 := new_block w0 #[.string ⟨#[104, 114, 101, 102]⟩, .string ⟨#[104, 116, 116, 112, 115, 58, 47, 47, 120]⟩] 33
  rw [← ha] at k1
  rw [← ha] at hw
  have k2 := new_block wa #[.string ⟨#[97]⟩, .slice (some ⟨w0.heap.size, 0, none⟩) 1 1, .string ⟨#[]⟩, .slice none 0 0] 36
  rw [← hw, za] at k2
  have B : Below wa.heap.size wa w := by rw [hw]; exact bel_alloc (Below.refl _ _) _
  have Ba : Below w0.heap.size w0 wa := by rw [ha]; exact bel_alloc (Below.refl _ _) _
  have hr : Dm.ARow wa (some ⟨w0.heap.size, 0, none⟩) 1 (atOf [(bHref, xPlace)]) := arow_block (l := [(bHref, xPlace)]) k1 (by decide) (by decide)
  exact ⟨nat_block (XN := ⟨#[97]⟩) k2 (by decide) (hr.below B), bel2 Ba B⟩
set_option maxRecDepth 100000 in
set_option maxHeartbeats 8000000 in
theorem awake_any (hS : SafeC) (w : World) :
    Calls Tryz.prog 5 #[] w fun e w' => e = .returned (.bool true) ∧ Below w.heap.size w w' := by
  obtain ⟨w1, hw1⟩ : ∃ w1, w1 = ((((((w.alloc (.cells #[.string ⟨#[97]⟩] 9)).alloc (.cells #[.string ⟨#[97, 46, 104, 114, 101, 102]⟩] 9)).alloc (.cells #[.string ⟨#[104, 116, 116, 112, 115]⟩] 9)).alloc (.cells #[.int .i64 1, .slice (some ⟨w.heap.size, 0, none⟩) 1 1, .slice (some ⟨w.heap.size + 1, 0, none⟩) 1 1, .slice (some ⟨w.heap.size + 1 + 1, 0, none⟩) 1 1, .slice none 0 0, .slice none 0 0, .int .i64 9, .int .i64 99, .int .i64 999] 24)).alloc (.cells #[.string ⟨#[104, 114, 101, 102]⟩, .string ⟨#[104, 116, 116, 112, 115, 58, 47, 47, 120]⟩] 33)).alloc (.cells #[.string ⟨#[114, 101, 108]⟩, .string ⟨#[110, 111, 102, 111, 108, 108, 111, 119, 32, 110, 111, 111, 112, 101, 110, 101, 114]⟩] 33)) := ⟨_, rfl⟩
  have H1 : Hid (AwB w w.heap.size w1) := hide (by rw [hw1]; exact AwB.new w)
  have HY : Hid (∀ wx, AwB w w.heap.size wx → wx.cell? ⟨w.heap.size + 1 + 1 + 1, 0, none⟩ = some (.int .i64 1) ∧ wx.cell? ⟨w.heap.size + 1 + 1 + 1, 1, none⟩ = some (.slice (some ⟨w.heap.size, 0, none⟩) 1 1) ∧ wx.cell? ⟨w.heap.size + 1 + 1 + 1, 2, none⟩ = some (.slice (some ⟨w.heap.size + 1, 0, none⟩) 1 1) ∧ wx.cell? ⟨w.heap.size + 1 + 1 + 1, 3, none⟩ = some (.slice (some ⟨w.heap.size + 1 + 1, 0, none⟩) 1 1) ∧ wx.cell? ⟨w.heap.size + 1 + 1 + 1, 4, none⟩ = some (.slice none 0 0) ∧ wx.cell? ⟨w.heap.size + 1 + 1 + 1, 5, none⟩ = some (.slice none 0 0) ∧ wx.cell? ⟨w.heap.size + 1 + 1 + 1, 6, none⟩ = some (.int .i64 9) ∧ wx.cell? ⟨w.heap.size + 1 + 1 + 1, 7, none⟩ = some (.int .i64 99) ∧ wx.cell? ⟨w.heap.size + 1 + 1 + 1, 8, none⟩ = some (.int .i64 999) ∧ wx.cell? ⟨w.heap.size + 1 + 1 + 1 + 1, 0, none⟩ = some (.string ⟨#[104, 114, 101, 102]⟩) ∧ wx.cell? ⟨w.heap.size + 1 + 1 + 1 + 1, 1, none⟩ = some (.string ⟨#[104, 116, 116, 112, 115, 58, 47, 47, 120]⟩) ∧ wx.cell? ⟨w.heap.size + 1 + 1 + 1 + 1 + 1, 0, none⟩ = some (.string ⟨#[114, 101, 108]⟩) ∧ wx.cell? ⟨w.heap.size + 1 + 1 + 1 + 1 + 1, 1, none⟩ = some (.string ⟨#[110, 111, 102, 111, 108, 108, 111, 119, 32, 110, 111, 111, 112, 101, 110, 101, 114]⟩)) := hide (fun wx h => ⟨tag_cell h.p 0 _ rfl, tag_cell h.p 1 _ rfl, tag_cell h.p 2 _ rfl, tag_cell h.p 3 _ rfl, tag_cell h.p 4 _ rfl, tag_cell h.p 5 _ rfl, tag_cell h.p 6 _ rfl, tag_cell h.p 7 _ rfl, tag_cell h.p 8 _ rfl, tag_cell h.h 0 _ rfl, tag_cell h.h 1 _ rfl, tag_cell h.r 0 _ rfl, tag_cell h.r 1 _ rfl⟩)
  have C1 : Hid (∀ wx v, AwB w w.heap.size wx → Dm.NAt wx v [.mk [97] [(bl bHref, bl xPlace), (bl bRel, bl bForced)] [] []] → Calls Tryz.prog 8 #[.agg #[.int .i64 1, .slice (some ⟨w.heap.size, 0, none⟩) 1 1, .slice (some ⟨w.heap.size + 1, 0, none⟩) 1 1, .slice (some ⟨w.heap.size + 1 + 1, 0, none⟩) 1 1, .slice none 0 0, .slice none 0 0, .int .i64 9, .int .i64 99, .int .i64 999], v] wx fun e w' => e = .returned (.bool true) ∧ AwB w w.heap.size w') := hide (fun wx v h hn => by
    have := hS _ _ _ _ _ awP _ _ _ _ _ v _ wx h.pol awP_fits hn (by decide)
    rw [aw_yes] at this
    exact this.mono fun _ w' ⟨h1, h2⟩ => ⟨h1, h.keep h2⟩)
  have C2 : Hid (∀ wx v, AwB w w.heap.size wx → Dm.NAt wx v [.mk [97] [(bl bHref, bl xPlace)] [] []] → Calls Tryz.prog 8 #[.agg #[.int .i64 1, .slice (some ⟨w.heap.size, 0, none⟩) 1 1, .slice (some ⟨w.heap.size + 1, 0, none⟩) 1 1, .slice (some ⟨w.heap.size + 1 + 1, 0, none⟩) 1 1, .slice none 0 0, .slice none 0 0, .int .i64 9, .int .i64 99, .int .i64 999], v] wx fun e w' => e = .returned (.bool false) ∧ AwB w w.heap.size w') := hide (fun wx v h hn => by
    have := hS _ _ _ _ _ awP _ _ _ _ _ v _ wx h.pol awP_fits hn (by decide)
    rw [aw_no] at this
    exact this.mono fun _ w' ⟨h1, h2⟩ => ⟨h1, h.keep h2⟩)
  clear hS
  go_enter Tryz.func5, Tryz.ntmps5
  go_upto_region 4 with fail
  rw [← hw1]
  clear hw1
  obtain ⟨y0, y1, y2, y3, y4, y5, y6, y7, y8, y9, y10, y11, y12⟩ := HY.out w1 H1.out
  obtain ⟨w3, hw3⟩ : ∃ w3, w3 = (w1.alloc (.cells #[.string ⟨#[104, 114, 101, 102]⟩, .string ⟨#[104, 116, 116, 112, 115, 58, 47, 47, 120]⟩, .string ⟨#[114, 101, 108]⟩, .string ⟨#[110, 111, 102, 111, 108, 108, 111, 119, 32, 110, 111, 111, 112, 101, 110, 101, 114]⟩] 33)).alloc (.cells #[.string ⟨#[97]⟩, .slice (some ⟨w1.heap.size, 0, none⟩) 2 2, .string ⟨#[]⟩, .slice none 0 0] 36) := ⟨_, rfl⟩
  have HL3 := hide (link_nat hw3)
  go_wp2_with fail
  rw [← hw3]
  clear hw3
  refine (C1.out w3 _ (H1.out.keep HL3.out.2) HL3.out.1).mono ?_
  rintro e w4 ⟨rfl, h4⟩
  have H4 := hide h4
  clear h4 C1 HL3 H1 y0 y1 y2 y3 y4 y5 y6 y7 y8 y9 y10 y11 y12
  obtain ⟨y0, y1, y2, y3, y4, y5, y6, y7, y8, y9, y10, y11, y12⟩ := HY.out w4 H4.out
  obtain ⟨w6, hw6⟩ : ∃ w6, w6 = (w4.alloc (.cells #[.string ⟨#[104, 114, 101, 102]⟩, .string ⟨#[104, 116, 116, 112, 115, 58, 47, 47, 120]⟩] 33)).alloc (.cells #[.string ⟨#[97]⟩, .slice (some ⟨w4.heap.size, 0, none⟩) 1 1, .string ⟨#[]⟩, .slice none 0 0] 36) := ⟨_, rfl⟩
  have HL6 := hide (link_nat1 hw6)
  go_wp2_with fail
  rw [← hw6]
  clear hw6
  refine (C2.out w6 _ (H4.out.keep HL6.out.2) HL6.out.1).mono ?_
  rintro e w7 ⟨rfl, h7⟩
  have H7 := hide h7
  clear h7 C2 HL6 H4 y0 y1 y2 y3 y4 y5 y6 y7 y8 y9 y10 y11 y12
  go_wp2_with fail
  go_ret
  exact ⟨rfl, H7.out.b⟩
end Go.Proofs.YtbcadeikdmlpoaaGreatDoor

namespace Go.Proofs.YtbcadeikdmlpoaaGreatDoor
open Go.RowKit
open Utf1 Pol8

theorem safeC_any : SafeC := fun v1 v2 v3 v4 v5 p l1 l2 l3 l4 l5 v ns w hv hf hk hws => psafe_any v1 v2 v3 v4 v5 p l1 l2 l3 l4 l5 v ns w hv hf hk hws
theorem valueC_any : ValueC := fun v1 v2 v3 v4 v5 p l1 l2 l3 l4 l5 e n v w hv hf he hn hz => pvalue_any v1 v2 v3 v4 v5 p l1 l2 l3 l4 l5 e n v w hv hf he hn hz
theorem placeC_any : PlaceC := fun n w _ => pplace_any n w
end Go.Proofs.YtbcadeikdmlpoaaGreatDoor
