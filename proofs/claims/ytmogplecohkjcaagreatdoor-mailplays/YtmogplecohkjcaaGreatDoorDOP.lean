/-
  Operations among the arguments, read.
-/
import Derived.Test.YtmogplecohkjcaaGreatDoorDBB
import Derived.Test.YtmogplecohkjcaaGreatDoorOMsg
namespace Go.Proofs.YtmogplecohkjcaaGreatDoor
open Go.ChangeShapes Go.WideShapes Go.ChangeAt Go.RowKit
open Utf1
open Pol8 hiding text right Right
open Msg15 Mail17

/-- A message whose lists may be of any length. -/
def Im.raw (w : World) (t : Im) : Prop := MA w t.m t.vi t.vp t.v1 t.v2 t.v3 t.v4 t.v5 t.ids t.ts t.l1 t.l2 t.l3 t.l4 t.l5
theorem Im.raw.below {w w' : World} {t : Im} (h : t.raw w) (hb : Below w.heap.size w w') : t.raw w' := ⟨h.hi.below hb, h.hp.below hb, h.hv.below hb, h.ei, h.ep⟩
theorem Im.raw.ok {w : World} {t : Im} (h : t.raw w) (h1 : light t.m.pol) (h2 : t.ids.length ≤ 100) (h3 : t.ts.length ≤ 100) : t.ok w := ⟨h.hi, h.hp, h.hv, h.ei, h.ep, light_fits h1, by omega, by omega⟩
/-- One operation. -/
structure MOp where
  d : Int
  n : Int
  t : Im
abbrev MOp.cells (o : MOp) : List Value := .int .i64 o.d :: .int .i64 o.n :: o.t.cells
/-- A slice holds operations. -/
def OpRow (w : World) (v : Value) (os : List MOp) : Prop := ∃ p cap, v = .slice p os.length cap ∧ ∀ i o, os[i]? = some o → (∃ b off, p = some ⟨b, off, none⟩ ∧ w.rangeAt b (off + i * 17) o.cells) ∧ o.t.raw w ∧ (-9223372036854775808 ≤ o.n ∧ o.n ≤ 9223372036854775807)
theorem OpRow.below {w w' : World} {v : Value} {os : List MOp} (h : OpRow w v os) (hb : Below w.heap.size w w') : OpRow w' v os := by
  obtain ⟨p, cap, rfl, hi⟩ := h
  refine ⟨p, cap, rfl, fun i t ht => ?_⟩
  obtain ⟨⟨b, off, e, hr⟩, hok, hn⟩ := hi i t ht
  exact ⟨⟨b, off, e, range_keep hr hb⟩, hok.below hb, hn⟩
theorem mcellsOp : Tryz.prog.cellsOf 37 = 17 := by kernel_rfl
theorem wf_in {n : Int} (h : (Lit.int .i64 n).wf = true) : -9223372036854775808 ≤ n ∧ n ≤ 9223372036854775807 := by
  have h2 : (decide ((-9223372036854775808 : Int) ≤ n) && decide (n ≤ 9223372036854775807)) = true := h
  simp only [Bool.and_eq_true, decide_eq_true_eq] at h2
  exact h2
section
variable {H : Type} {enc : TypeId × Value → H} {W : World}
set_option maxRecDepth 10000 in
theorem op_cells {n : Nat} {cs : List Value} {x : DataW H × List MemPlace} (hg : GlobM W) (h : DataW.trod enc Tryz.prog W 0 (fun _ => true) true n 37 cs = some x) :
    ∃ o : MOp, cs = o.cells ∧ o.t.raw W ∧ (-9223372036854775808 ≤ o.n ∧ o.n ≤ 9223372036854775807) := by
  obtain ⟨xs, m, _, rfl, hl, hlen, hf⟩ := DataW.trod_struct Tryz.underlying37 h
  rw [mcellsOp] at hl
  obtain ⟨c0, r0, rfl, g0⟩ := cons_of hl
  obtain ⟨c1, r1, rfl, g1⟩ := cons_of g0
  obtain ⟨c2, r2, rfl, g2⟩ := cons_of g1
  obtain ⟨c3, r3, rfl, g3⟩ := cons_of g2
  obtain ⟨c4, r4, rfl, g4⟩ := cons_of g3
  obtain ⟨c5, r5, rfl, g5⟩ := cons_of g4
  obtain ⟨c6, r6, rfl, g6⟩ := cons_of g5
  obtain ⟨c7, r7, rfl, g7⟩ := cons_of g6
  obtain ⟨d0, d1, d2, d3, d4, d5, d6, d7, d8, rfl⟩ := list9 g7
  obtain ⟨y0, z0, rfl, k0⟩ := cons_of (show xs.length = 2 + 1 from hlen)
  obtain ⟨y1, z1, rfl, k1⟩ := cons_of k0
  obtain ⟨y2, z2, rfl, k2⟩ := cons_of k1
  have := List.eq_nil_of_length_eq_zero k2
  subst this
  have f0 := hf 0 _ rfl
  have f1 := hf 1 _ rfl
  have f2 := hf 2 _ rfl
  simp only [List.getElem?_cons_zero, List.getElem?_cons_succ] at f0 f1 f2
  obtain ⟨k, e0, rfl, -⟩ := DataW.trod_int Tryz.underlying3 f0
  obtain ⟨f, e1, rfl, hw⟩ := DataW.trod_int Tryz.underlying3 f1
  obtain ⟨m, vi, vp, v1, v2, v3, v4, v5, ids, ts, l1, l2, l3, l4, l5, e2, hp⟩ := msg_cells hg.1 f2
  cases e0
  cases e1
  cases e2
  exact ⟨⟨k, f, ⟨m, _, _, _, _, _, _, _, ids, ts, l1, l2, l3, l4, l5⟩⟩, rfl, hp, wf_in hw⟩
theorem open_mops {a : Option Addr} {len cap : Nat} {d : DataW H} {p : List MemPlace} (hg : GlobM W) (h : DataW.Trod enc Tryz.prog W 0 (fun _ => true) true 22 (.slice a len cap) d p) : ∃ os, OpRow W (.slice a len cap) os := by
  obtain ⟨fuel, hf⟩ := h
  rcases DataW.trod_slice Tryz.underlying22 hf with ⟨hc, e⟩ | ⟨a', len', cap', elems, rest, n', _, hc, e, hb, hl, hm, hlen, hel, hsp, hns⟩
  · simp [Value.cells] at hc
    obtain ⟨rfl, rfl, rfl⟩ := hc
    exact ⟨[], none, 0, rfl, fun i t h => by simp at h⟩
  · simp [Value.cells] at hc
    obtain ⟨rfl, rfl, rfl⟩ := hc
    rw [mcellsOp] at hel
    have key : ∀ i, i < len → ∃ o : MOp, (∃ b off, some a' = some ⟨b, off, none⟩ ∧ W.rangeAt b (off + i * 17) o.cells) ∧ o.t.raw W ∧ (-9223372036854775808 ≤ o.n ∧ o.n ≤ 9223372036854775807) := by
      intro i hi
      have h1 := hel i hi
      have hil : i < elems.length := by omega
      rw [List.getElem?_eq_getElem hil, Option.bind_eq_some_iff] at h1
      obtain ⟨cs, hcs, ht⟩ := h1
      obtain ⟨o, rfl, hp⟩ := op_cells hg ht
      obtain ⟨_, _, hcell⟩ := World.cells?_some hcs
      have hsp1 : a'.spot = none := by
        have h0 := hel 0 (by omega)
        rw [List.getElem?_eq_getElem (by omega), Option.bind_eq_some_iff, Nat.zero_mul] at h0
        obtain ⟨cs0, hcs0, _⟩ := h0
        exact mspot_first hcs0 (by decide)
      refine ⟨o, ⟨a'.block, a'.off, ?_, fun j u hj => ?_⟩, hp⟩
      · obtain ⟨b, off, spot⟩ := a'
        simp only [] at hsp1
        rw [hsp1]
      · have hj9 : j < 17 := (List.getElem?_eq_some_iff.1 hj).1
        have := hcell j hj9
        rw [hj] at this
        exact mat_cell hsp1 this
    obtain ⟨l, hll, hlr⟩ := mlist_choice len key
    exact ⟨l, some a', cap, by rw [hll], fun i t ht => hlr i t ht⟩
end
end Go.Proofs.YtmogplecohkjcaaGreatDoor
