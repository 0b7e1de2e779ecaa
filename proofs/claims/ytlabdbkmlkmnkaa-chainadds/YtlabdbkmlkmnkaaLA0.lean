/-
  Rows of policies appended to a row of one's own.
-/
import Derived.Test.YtlabdbkmlkmnkaaLC3
namespace Go.Proofs.Ytlabdbkmlkmnkaa
open Go.RowKit
open Utf1 Pol8

theorem wp_append_pols {o : Oper} {a : Act} {K : Act → World → Prop} {Q : Exit → Act → World → Prop} (s x : Operand)
    (ho : o.op = .call { callee := .builtin .append, args := #[s, x], argTypes := #[22, 22] })
    (W : World) (B : Nat) (hB : B ≤ W.heap.size) (v vb : Value) (na nb : List It) (hs : a.eval s = v) (hx : a.eval x = vb) (hown : W.ownsRow B 30 9 v na.length (flat na))
    (hn : PolRow W vb nb) (hl : (na.length + nb.length) * 152 ≤ 140737488355328)
    (h : ∀ v' w', w'.ownsRow B 30 9 v' (na ++ nb).length (flat (na ++ nb)) → W.grownBy w' v.ownBlock → K (a.put o.dst v') w') : o.wp Try.prog a W K Q := by
  obtain ⟨i0, hi, hz0, hz1, hz2⟩ := info_parts infoPol
  have hn' := hn
  obtain ⟨p, cap, rfl, hc, h0, hr⟩ := hn
  cases p with
  | none =>
    have hnb : nb = [] := by
      cases nb with
      | nil => rfl
      | cons y t =>
        obtain ⟨⟨b, off, e, -⟩, -⟩ := hr 0 y rfl
        cases e
    have hcap := h0 rfl
    subst hnb
    subst hcap
    have hrun := run_append_owned_none (P := Try.prog) (w := W) B 22 o.type 30 i0 9 Try.underlying22 hi v na.length (flat na) hown
    unfold Oper.wp
    have hx' : a.eval x = .slice none 0 0 := hx
    simp [execOp, ho, resolve, invoke, builtin, hs, hx', hrun, Result.andThen]
    refine h v W ?_ ⟨rfl, rfl, rfl, Nat.le_refl _, fun _ _ _ => rfl⟩
    rw [List.append_nil]
    exact hown
  | some ad =>
    refine wp_append_own W s x 22 ho B 30 i0 _ 9 152 Try.underlying22 hi hz0 hz1 hz2 rfl (by decide) v na.length (flat na) hs hown ad nb.length cap (flat nb) hx (flat_len nb) (hn'.flat ad rfl) (flat_one_cell (w := W) (fun t ht => ?_)) (by unfold maxLen; omega) hl hB ?_
    · obtain ⟨j, hj⟩ := List.getElem?_of_mem ht
      exact (hr j t hj).2
    · intro v' w' g1 g2 _
      refine h v' w' ?_ g2
      rw [List.length_append, flat_app]
      exact g1
theorem one_polRow {W : World} {g : Nat} {x : It} (hg : W.heap[g]? = some (.cells #[.int .i64 x.p.ep, x.v1, x.v2, x.v3, x.v4, x.v5, .int .i64 x.p.dp, .int .i64 x.p.nd, .int .i64 x.p.bt] 30 (0, 0))) (hx : x.ok W) : PolRow W (.slice (some ⟨g, 0, none⟩) 1 1) [x] := by
  refine ⟨some ⟨g, 0, none⟩, 1, rfl, Nat.le_refl _, (fun e => by cases e), fun i t ht => ?_⟩
  have hi : i = 0 := by
    have := (List.getElem?_eq_some_iff.1 ht).1
    simp at this
    exact this
  subst hi
  have e : x = t := by simpa using ht
  subst e
  refine ⟨⟨g, 0, rfl, fun j u hj => ?_⟩, hx⟩
  rw [Nat.zero_mul, Nat.zero_add]
  exact tag_cell hg j u (by rw [List.getElem?_toArray]; exact hj)
theorem BoxP.grown {w W W' : World} {A : Array Value} (h : BoxP w A W) {row : Option Nat} (hg : W.grownBy W' row) (hr : ∀ k, row = some k → w.heap.size + 1 ≤ k) : BoxP w A W' :=
  ⟨(hg.block _ h.lt (fun e => by have := hr _ e.symm; omega)).trans h.1, h.2.grown hg (by have := h.lt; omega) (fun k hk => by have := hr k hk; omega)⟩
theorem own_row_block {w : World} {B : Nat} {e : TypeId} {z n : Nat} {v : Value} {xs : List Value} (h : w.ownsRow B e z v n xs) : ∀ k, v.ownBlock = some k → B ≤ k := fun k hk => (h.lt k hk).1
end Go.Proofs.Ytlabdbkmlkmnkaa
