/-
  Rows of tokens that grow; Build of tokens without attributes.
-/
import Derived.Test.YtkdppcpkigpmdaaH1
namespace Go.Proofs.Ytkdppcpkigpmdaa
open Go.RowKit
open Utf1

theorem infoTok : (Try.prog.info? 36).map (fun i => (i.zero, i.size, i.bytes)) = some (some (.agg #[.int .i64 0, .string ⟨#[]⟩, .slice none 0 0, .bool false, .string ⟨#[]⟩]), 5, 72) := by kernel_rfl
theorem five_new (w : World) (A : Array Value) (ty : TypeId) : ∀ j u, A.toList[j]? = some u → (w.alloc (.cells A ty)).cell? ((⟨w.heap.size, 0, none⟩ : Addr).add j) = some u := by
  intro j u h
  have : (⟨w.heap.size, 0, none⟩ : Addr).add j = ⟨w.heap.size, j, none⟩ := by
    simp [Addr.add]
    exact Eq.symm
  rw [this, new_cell, ← Array.getElem?_toList]
  exact h
theorem tok_one (e : Te) : ∀ u ∈ tokCells1 e, u.oneCell' = true := by
  intro u hu
  simp only [tokCells1, List.mem_cons, List.not_mem_nil, or_false] at hu
  rcases hu with rfl | rfl | rfl | rfl | rfl <;> rfl

theorem tokrow_below {w w' : World} {v : Value} {l : List Te} (h : TokRow w v l) (hb : Below w.heap.size w w') : TokRow w' v l := by
  obtain ⟨p, c, rfl, hc⟩ := h
  refine ⟨p, c, rfl, ?_⟩
  intro i e hi
  obtain ⟨g, off, hp, x0, x1, x2, x3, x4⟩ := hc i e hi
  exact ⟨g, off, hp, cell_keep x0 hb, cell_keep x1 hb, cell_keep x2 hb, cell_keep x3 hb, cell_keep x4 hb⟩

/-- A Build of tokens without attributes, and what Size tells of what is built. -/
theorem build_plain (w : World) (v : Value) (l : List Te) (hl : TokRow w v l) (hlen : l.length ≤ 1000000000) (hsum : textSum l ≤ 100000000) (hnm : ∀ e ∈ l, e.1.name.length ≤ 281474976710656) (hat : ∀ e ∈ l, e.1.attrs = [] ∧ e.2.1 = (none, 0, 0)) :
    Calls Try.prog 11 #[v] w fun e w' => ∃ r, e = .returned (.tuple #[r, .int .i64 (if (buildB (l.map Prod.fst)).isSome then 0 else 5)]) ∧ (∃ fp, KAt w' w.heap.size r ((buildB (l.map Prod.fst)).getD []) fp) ∧ Below w.heap.size w w' := by
  refine (build_st w v l hl hlen hsum hnm ?_).mono ?_
  · intro e he
    obtain ⟨h1, h2⟩ := hat e he
    rw [h1, h2]
    exact clones_nil _ _
  · rintro e w' ⟨r, err, rfl, hE, hb⟩
    obtain ⟨fp, hk, rfl⟩ := hE.got
    exact ⟨r, rfl, ⟨fp, hk⟩, hb⟩

theorem runB_app : ∀ (a b : List Tk) (s : Bs), runB (a ++ b) s = (runB a s).bind (runB b)
  | [], b, s => rfl
  | k :: a, b, s => by
    show (if _ then runB (a ++ b) _ else none) = Option.bind (if _ then runB a _ else none) _
    by_cases h : (takeB k s).o ≤ 64 ∧ (takeB k s).n ≤ 2000
    · rw [if_pos h, if_pos h]
      exact runB_app a b _
    · rw [if_neg h, if_neg h]
      rfl
theorem textSum_app : ∀ (a b : List Te), textSum (a ++ b) = textSum a + textSum b
  | [], b => by simp [textSum]
  | e :: a, b => by
    rw [List.cons_append, textSum, textSum, textSum_app a b]
    omega
end Go.Proofs.Ytkdppcpkigpmdaa
