/-
  A policy, and a pair of texts, among the arguments, read.
-/
import Derived.Test.YtmogplecohkjcaaGreatDoorPC
import Derived.SliceStrings
import Derived.OpenShut
import Derived.ShutString
namespace Go.Proofs.YtmogplecohkjcaaGreatDoor
open Go.ChangeShapes Go.WideShapes Go.ChangeAt Go.RowKit
open Utf1 Pol8

theorem cons_of {α : Type} {l : List α} {n : Nat} (h : l.length = n + 1) : ∃ a r, l = a :: r ∧ r.length = n := by
  cases l with
  | nil => simp at h
  | cons a r => exact ⟨a, r, rfl, by simpa using h⟩
theorem list9 {α : Type} {l : List α} (h : l.length = 9) : ∃ a0 a1 a2 a3 a4 a5 a6 a7 a8, l = [a0, a1, a2, a3, a4, a5, a6, a7, a8] := by
  obtain ⟨a0, r0, rfl, h0⟩ := cons_of h
  obtain ⟨a1, r1, rfl, h1⟩ := cons_of h0
  obtain ⟨a2, r2, rfl, h2⟩ := cons_of h1
  obtain ⟨a3, r3, rfl, h3⟩ := cons_of h2
  obtain ⟨a4, r4, rfl, h4⟩ := cons_of h3
  obtain ⟨a5, r5, rfl, h5⟩ := cons_of h4
  obtain ⟨a6, r6, rfl, h6⟩ := cons_of h5
  obtain ⟨a7, r7, rfl, h7⟩ := cons_of h6
  obtain ⟨a8, r8, rfl, h8⟩ := cons_of h7
  have := List.eq_nil_of_length_eq_zero h8
  subst this
  exact ⟨a0, a1, a2, a3, a4, a5, a6, a7, a8, rfl⟩
theorem cellsStr : Tryz.prog.cellsOf 9 = 1 := by kernel_rfl
theorem cellsPol : Tryz.prog.cellsOf 33 = 9 := by kernel_rfl
section
variable {H : Type} {enc : TypeId × Value → H} {W : World}
theorem strs_cells {n : Nat} {c : Value} {x : DataW H × List MemPlace} (h : DataW.trod enc Tryz.prog W 0 (fun _ => true) true n 30 [c] = some x) : ∃ ss, StrArg W c ss := by
  rcases open_strings Tryz.underlying30 Tryz.underlying9 cellsStr h with ⟨hcs, _⟩ | ⟨x, len, cap, ss, hcs, _, hl, hm, hz, _, hcell, hsz⟩
  · simp at hcs
    subst hcs
    exact ⟨[], none, 0, rfl, fun _ => rfl, fun i s h => by simp at h⟩
  · simp at hcs
    subst hcs
    have hz : ss.length = cap := by simpa using hz
    refine ⟨ss.take len, some x, cap, ?_, fun h => (by cases h), ?_⟩
    · rw [List.length_take, Nat.min_eq_left (by omega)]
    · intro i s hi
      have hil : i < ss.length := by
        have := (List.getElem?_eq_some_iff.1 hi).1
        rw [List.length_take] at this
        omega
      have hilen : i < len := by
        have := (List.getElem?_eq_some_iff.1 hi).1
        rw [List.length_take] at this
        omega
      rw [List.getElem?_take, if_pos hilen] at hi
      have hc := hcell i hil
      have hg : ss.getD i ByteArray.empty = s := by rw [List.getD_eq_getElem?_getD, hi]; rfl
      rw [hg] at hc
      obtain ⟨b, off, spot⟩ := x
      have hspot : spot = none := by simpa [Addr.add] using World.cell?_spot (hcell 0 (by omega))
      subst hspot
      exact ⟨b, off, rfl, by rw [← add_plain]; exact hc⟩
set_option maxRecDepth 10000 in
theorem pol_cells {n : Nat} {cs : List Value} {x : DataW H × List MemPlace} (hg : Glob W) (h : DataW.trod enc Tryz.prog W 0 (fun _ => true) true n 33 cs = some x) :
    ∃ (p : Pol) (v1 v2 v3 v4 v5 : Value) (l1 l2 l3 l4 l5 : List ByteArray), cs = [.int .i64 p.ep, v1, v2, v3, v4, v5, .int .i64 p.dp, .int .i64 p.nd, .int .i64 p.bt] ∧ PolV W v1 v2 v3 v4 v5 p l1 l2 l3 l4 l5 := by
  obtain ⟨xs, m, _, rfl, hl, hlen, hf⟩ := DataW.trod_struct Tryz.underlying33 h
  rw [cellsPol] at hl
  obtain ⟨c0, c1, c2, c3, c4, c5, c6, c7, c8, rfl⟩ := list9 hl
  obtain ⟨y0, y1, y2, y3, y4, y5, y6, y7, y8, rfl⟩ := list9 (show xs.length = 9 from hlen)
  have h0 := hf 0 _ rfl
  have h1 := hf 1 _ rfl
  have h2 := hf 2 _ rfl
  have h3 := hf 3 _ rfl
  have h4 := hf 4 _ rfl
  have h5 := hf 5 _ rfl
  have h6 := hf 6 _ rfl
  have h7 := hf 7 _ rfl
  have h8 := hf 8 _ rfl
  simp only [List.getElem?_cons_zero, List.getElem?_cons_succ] at h0 h1 h2 h3 h4 h5 h6 h7 h8
  obtain ⟨k0, e0, rfl, -⟩ := DataW.trod_int Tryz.underlying3 h0
  obtain ⟨k6, e6, rfl, -⟩ := DataW.trod_int Tryz.underlying3 h6
  obtain ⟨k7, e7, rfl, -⟩ := DataW.trod_int Tryz.underlying3 h7
  obtain ⟨k8, e8, rfl, -⟩ := DataW.trod_int Tryz.underlying3 h8
  obtain ⟨l1, s1⟩ := strs_cells h1
  obtain ⟨l2, s2⟩ := strs_cells h2
  obtain ⟨l3, s3⟩ := strs_cells h3
  obtain ⟨l4, s4⟩ := strs_cells h4
  obtain ⟨l5, s5⟩ := strs_cells h5
  cases e0
  cases e6
  cases e7
  cases e8
  exact ⟨⟨k0, l1.map bl, l2.map bl, l3.map bl, l4.map bl, l5.map bl, k6, k7, k8⟩, c1, c2, c3, c4, c5, l1, l2, l3, l4, l5, rfl, s1, s2, s3, s4, s5, rfl, rfl, rfl, rfl, rfl, hg⟩
set_option maxRecDepth 10000 in
theorem open_pol {r : Reach} {b0 : Nat} {v : Value} {d : DataW H} {ps : List MemPlace} (hg : Glob W) (hval : Value.okWide Tryz.prog W r b0 33 v) (hd : DataW.Trod enc Tryz.prog W 0 (fun _ => true) true 33 v d ps) :
    ∃ (p : Pol) (v1 v2 v3 v4 v5 : Value) (l1 l2 l3 l4 l5 : List ByteArray), v = pval p v1 v2 v3 v4 v5 ∧ PolV W v1 v2 v3 v4 v5 p l1 l2 l3 l4 l5 := by
  simp only [Value.okWide, Tryz.underlying33] at hval
  obtain ⟨cs, rfl, -⟩ := hval
  obtain ⟨fuel, hf⟩ := hd
  obtain ⟨p, v1, v2, v3, v4, v5, l1, l2, l3, l4, l5, e, hp⟩ := pol_cells hg (show DataW.trod enc Tryz.prog W 0 (fun _ => true) true fuel 33 cs.toList = _ from hf)
  refine ⟨p, v1, v2, v3, v4, v5, l1, l2, l3, l4, l5, ?_, hp⟩
  obtain ⟨l⟩ := cs
  have e : l = _ := e
  subst e
  rfl
end
end Go.Proofs.YtmogplecohkjcaaGreatDoor
