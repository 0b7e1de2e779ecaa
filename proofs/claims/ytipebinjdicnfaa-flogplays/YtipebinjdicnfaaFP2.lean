/-
  A slice of calls among the arguments, read.
-/
import Derived.Test.YtipebinjdicnfaaDP1
import Derived.Deep.MidRow
import Derived.SliceStrings
import Derived.OpenShut
import Derived.ShutString
import Derived.ProofKit
import Derived.ChangeOld
namespace Go.Proofs.Ytipebinjdicnfaa
open Go.ChangeShapes Go.WideShapes Go.ChangeAt Go.RowKit

/-- One call: what, a number, a text. -/
structure OpT where
  d : Int
  n : Int
  s : ByteArray
abbrev OpT.cells (t : OpT) : List Value := [.int .i64 t.d, .int .i64 t.n, .string t.s]
def OpT.ok (_w : World) (t : OpT) : Prop := (-9223372036854775808 ≤ t.n ∧ t.n ≤ 9223372036854775807) ∧ (-9223372036854775808 ≤ t.d ∧ t.d ≤ 9223372036854775807)
def OpRow (w : World) (v : Value) (ts : List OpT) : Prop := ∃ p cap, v = .slice p ts.length cap ∧ ts.length ≤ cap ∧ ∀ i t, ts[i]? = some t → (∃ b off, p = some ⟨b, off, none⟩ ∧ w.rangeAt b (off + i * 3) t.cells) ∧ t.ok w
theorem opRow_nil (w : World) : OpRow w (.slice none 0 0) [] := ⟨none, 0, rfl, Nat.le_refl _, fun i t h => by simp at h⟩
theorem add_plain (b o j : Nat) : (⟨b, o, none⟩ : Addr).add j = ⟨b, o + j, none⟩ := by unfold Addr.add; split <;> simp_all
theorem list_choice {α : Type} {R : Nat → α → Prop} : ∀ n : Nat, (∀ i, i < n → ∃ x, R i x) → ∃ l : List α, l.length = n ∧ ∀ i x, l[i]? = some x → R i x
  | 0, _ => ⟨[], rfl, fun i x h => by simp at h⟩
  | n + 1, h => by
    obtain ⟨l, hl, hr⟩ := list_choice n (fun i hi => h i (by omega))
    obtain ⟨x, hx⟩ := h n (by omega)
    refine ⟨l ++ [x], by simp [hl], ?_⟩
    intro i y hy
    by_cases hi : i < l.length
    · rw [List.getElem?_append_left hi] at hy
      exact hr i y hy
    · have hlen := (List.getElem?_eq_some_iff.1 hy).1
      rw [List.length_append, List.length_singleton] at hlen
      have e : i = l.length := by omega
      subst e
      rw [List.getElem?_append_right (Nat.le_refl _), Nat.sub_self] at hy
      have : x = y := by simpa using hy
      rw [hl, ← this]
      exact hx
theorem cons_of {α : Type} {l : List α} {n : Nat} (h : l.length = n + 1) : ∃ a r, l = a :: r ∧ r.length = n := by
  cases l with
  | nil => simp at h
  | cons a r => exact ⟨a, r, rfl, by simpa using h⟩
theorem list3 {α : Type} {l : List α} (h : l.length = 3) : ∃ a0 a1 a2, l = [a0, a1, a2] := by
  obtain ⟨a0, r0, rfl, h0⟩ := cons_of h
  obtain ⟨a1, r1, rfl, h1⟩ := cons_of h0
  obtain ⟨a2, r2, rfl, h2⟩ := cons_of h1
  have := List.eq_nil_of_length_eq_zero h2
  subst this
  exact ⟨a0, a1, a2, rfl⟩
theorem cellsOp : Try.prog.cellsOf 34 = 3 := by kernel_rfl
section
variable {H : Type} {enc : TypeId × Value → H} {W : World}
set_option maxRecDepth 10000 in
theorem op_cells {n : Nat} {cs : List Value} {x : DataW H × List MemPlace} (h : DataW.trod enc Try.prog W 0 (fun _ => true) true n 34 cs = some x) : ∃ t : OpT, cs = t.cells ∧ t.ok W := by
  obtain ⟨xs, m, _, rfl, hl, hlen, hf⟩ := DataW.trod_struct Try.underlying34 h
  rw [cellsOp] at hl
  obtain ⟨c0, c1, c2, rfl⟩ := list3 hl
  obtain ⟨y0, y1, y2, rfl⟩ := list3 (show xs.length = 3 from hlen)
  have h0 := hf 0 _ rfl
  have h1 := hf 1 _ rfl
  have h2 := hf 2 _ rfl
  simp only [List.getElem?_cons_zero, List.getElem?_cons_succ] at h0 h1 h2
  obtain ⟨k0, e0, rfl, w0⟩ := DataW.trod_int Try.underlying3 h0
  obtain ⟨k1, e1, rfl, w1⟩ := DataW.trod_int Try.underlying3 h1
  obtain ⟨k2, e2, rfl, w2⟩ := DataW.trod_string Try.underlying9 h2
  cases e0
  cases e1
  cases e2
  exact ⟨⟨k0, k1, k2⟩, rfl, Go.bounds_i64 w1, Go.bounds_i64 w0⟩
theorem spot_first {a : Addr} {b n : Nat} {cs : List Value} (h : W.cells? b (a.add 0) n = some cs) (hn : 0 < n) : a.spot = none := by
  obtain ⟨_, hl, hc⟩ := World.cells?_some h
  have h0 := hc 0 hn
  rw [List.getElem?_eq_getElem (by omega)] at h0
  simpa [Addr.add] using World.cell?_spot h0
theorem at_cell {a : Addr} {i k : Nat} {v : Value} (hs : a.spot = none) (h : W.cell? ((a.add i).add k) = some v) : W.cell? ⟨a.block, a.off + i + k, none⟩ = some v := by
  obtain ⟨b, off, spot⟩ := a
  simp only [] at hs
  subst hs
  rw [add_plain, add_plain] at h
  exact h
theorem open_ops {a : Option Addr} {len cap : Nat} {d : DataW H} {p : List MemPlace} (h : DataW.Trod enc Try.prog W 0 (fun _ => true) true 22 (.slice a len cap) d p) : ∃ ts, OpRow W (.slice a len cap) ts := by
  obtain ⟨fuel, hf⟩ := h
  rcases DataW.trod_slice Try.underlying22 hf with ⟨hc, e⟩ | ⟨a', len', cap', elems, rest, n', _, hc, e, hb, hl, hm, hlen, hel, hsp, hns⟩
  · simp [Value.cells] at hc
    obtain ⟨rfl, rfl, rfl⟩ := hc
    exact ⟨[], opRow_nil W⟩
  · simp [Value.cells] at hc
    obtain ⟨rfl, rfl, rfl⟩ := hc
    rw [cellsOp] at hel
    have key : ∀ i, i < len → ∃ t : OpT, (∃ b off, some a' = some ⟨b, off, none⟩ ∧ W.rangeAt b (off + i * 3) t.cells) ∧ t.ok W := by
      intro i hi
      have h1 := hel i hi
      have hil : i < elems.length := by omega
      rw [List.getElem?_eq_getElem hil, Option.bind_eq_some_iff] at h1
      obtain ⟨cs, hcs, ht⟩ := h1
      obtain ⟨t, rfl, hp⟩ := op_cells ht
      obtain ⟨_, _, hcell⟩ := World.cells?_some hcs
      have hsp1 : a'.spot = none := by
        have h0 := hel 0 (by omega)
        rw [List.getElem?_eq_getElem (by omega), Option.bind_eq_some_iff, Nat.zero_mul] at h0
        obtain ⟨cs0, hcs0, _⟩ := h0
        exact spot_first hcs0 (by decide)
      refine ⟨t, ⟨a'.block, a'.off, ?_, fun j u hj => ?_⟩, hp⟩
      · obtain ⟨b, off, spot⟩ := a'
        simp only [] at hsp1
        rw [hsp1]
      · have hj3 : j < 3 := (List.getElem?_eq_some_iff.1 hj).1
        have := hcell j hj3
        rw [hj] at this
        exact at_cell hsp1 this
    obtain ⟨l, hll, hlr⟩ := list_choice len key
    exact ⟨l, some a', cap, by rw [hll], by omega, fun i t ht => hlr i t ht⟩
end

theorem range_keep {w w' : World} {b o : Nat} {cs : List Value} (h : w.rangeAt b o cs) (hb : Below w.heap.size w w') : w'.rangeAt b o cs := fun j v hv => cell_keep (h j v hv) hb
/-- One of a row, in a later world. -/
theorem OpRow.at {w : World} {p : Option Addr} {n cap : Nat} {ts : List OpT} (h : OpRow w (.slice p n cap) ts) {i : Nat} (hi : i < n) : ∃ (t : OpT) (b off : Nat), p = some ⟨b, off, none⟩ ∧ t.ok w ∧ ∀ wx, Below w.heap.size w wx → wx.cell? ⟨b, off + i * 3, none⟩ = some (.int .i64 t.d) ∧ wx.cell? ⟨b, off + i * 3 + 1, none⟩ = some (.int .i64 t.n) ∧ wx.cell? ⟨b, off + i * 3 + 2, none⟩ = some (.string t.s) := by
  obtain ⟨p', cap', e, _, hr⟩ := h
  injection e with e1 e2 e3
  subst e1 e2 e3
  obtain ⟨⟨b, off, e4, hc⟩, hok⟩ := hr i _ (List.getElem?_eq_getElem hi)
  exact ⟨_, b, off, e4, hok, fun wx hb => ⟨range_keep hc hb 0 _ rfl, range_keep hc hb 1 _ rfl, range_keep hc hb 2 _ rfl⟩⟩
end Go.Proofs.Ytipebinjdicnfaa
