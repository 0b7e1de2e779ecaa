/-
  Rows of tokens; awake.
-/
import Derived.Test.YtkdppcpkigpmdaaG29
namespace Go.Proofs.Ytkdppcpkigpmdaa
open Go.RowKit
open Utf1

/-- A token's cells. -/
def tokCells1 (e : Te) : List Value := [.int .i64 e.1.kind, .string ⟨e.1.name.toArray⟩, .slice e.2.1.1 e.2.1.2.1 e.2.1.2.2, .bool e.2.2, .string ⟨e.1.text.toArray⟩]
def tokCells : List Te → List Value
  | [] => []
  | e :: r => tokCells1 e ++ tokCells r
theorem tokCells_len : ∀ l, (tokCells l).length = l.length * 5
  | [] => rfl
  | p :: r => by
    simp only [tokCells, List.length_append, tokCells_len r, tokCells1, List.length_cons, List.length_nil]
    omega
theorem tokCells_app : ∀ a b, tokCells (a ++ b) = tokCells a ++ tokCells b
  | [], _ => rfl
  | p :: r, b => by simp only [tokCells, List.cons_append, tokCells_app r b, List.append_assoc]
theorem tokCells_at : ∀ (l : List Te) (i : Nat) (e : Te), l[i]? = some e → ∀ j, j < 5 → (tokCells l)[i * 5 + j]? = (tokCells1 e)[j]?
  | [], i, p, h, _, _ => by simp at h
  | q :: r, 0, p, h, j, hj => by
    have : q = p := by simpa using h
    subst this
    show (tokCells1 q ++ tokCells r)[0 * 5 + j]? = _
    rw [show 0 * 5 + j = j by omega, List.getElem?_append_left (by simp [tokCells1]; omega)]
  | q :: r, i + 1, p, h, j, hj => by
    have h' : r[i]? = some p := by simpa using h
    show (tokCells1 q ++ tokCells r)[(i + 1) * 5 + j]? = _
    rw [List.getElem?_append_right (by simp [tokCells1]; omega), show (i + 1) * 5 + j - (tokCells1 q).length = i * 5 + j by simp [tokCells1]; omega]
    exact tokCells_at r i p h' j hj
theorem tok_own {w : World} {base : Nat} {v : Value} {l : List Te} (h : w.ownsRow base 36 5 v l.length (tokCells l)) : TokRow w v l := by
  obtain ⟨p, c, rfl⟩ := own_len h
  refine ⟨p, c, rfl, ?_⟩
  intro i e hi
  have hil : i < l.length := (List.getElem?_eq_some_iff.1 hi).1
  obtain ⟨g, cap, e2, hcell⟩ := own_at h (by omega)
  cases e2
  have hat := fun j hj => (hcell (i * 5 + j) (by omega)).trans (tokCells_at l i e hi j hj)
  refine ⟨g, 0, rfl, ?_⟩
  rw [Nat.zero_add]
  exact ⟨hat 0 (by decide), hat 1 (by decide), hat 2 (by decide), hat 3 (by decide), hat 4 (by decide)⟩
theorem tok_lit (w : World) (l : List Te) (A : Array Value) (ty : TypeId) (hA : A = (tokCells l).toArray) : TokRow (w.alloc (.cells A ty)) (.slice (some ⟨w.heap.size, 0, none⟩) l.length l.length) l := by
  refine ⟨_, _, rfl, ?_⟩
  intro i e hi
  have hat : ∀ j, j < 5 → (w.alloc (.cells A ty)).cell? ⟨w.heap.size, i * 5 + j, none⟩ = (tokCells1 e)[j]? := by
    intro j hj
    rw [new_cell, hA, List.getElem?_toArray]
    exact tokCells_at l i e hi j hj
  refine ⟨w.heap.size, 0, rfl, ?_⟩
  rw [Nat.zero_add]
  exact ⟨hat 0 (by decide), hat 1 (by decide), hat 2 (by decide), hat 3 (by decide), hat 4 (by decide)⟩

def awT : List Te := [(⟨2, [112], [], []⟩, (none, 0, 0), false), (⟨1, [], [], [97]⟩, (none, 0, 0), false), (⟨2, [100, 105, 118], [], []⟩, (none, 0, 0), false), (⟨1, [], [], [98]⟩, (none, 0, 0), false)]
def awN : List Nd := [.mk [112] [] [] [.mk [] [] [97] []], .mk [100, 105, 118] [] [] [.mk [] [] [98] []]]
theorem aw_build : buildB (awT.map Prod.fst) = some awN := by kernel_rfl

set_option maxRecDepth 100000 in
set_option maxHeartbeats 8000000 in
theorem awake_st (w : World) : Calls Try.prog 8 #[] w fun e w' => e = .returned (.bool true) ∧ Below w.heap.size w w' := by
  have hB : ∀ ty, Calls Try.prog 11 #[.slice (some ⟨w.heap.size, 0, none⟩) 4 4] (w.alloc (.cells (tokCells awT).toArray ty)) fun e w' => ∃ p c g kp kc fp, e = .returned (.tuple #[.slice p 2 c, .int .i64 0]) ∧ p = some ⟨g, 0, none⟩ ∧ w'.cell? ⟨g, 3, none⟩ = some (.slice kp 1 kc) ∧ w'.cell? ⟨g, 4, none⟩ = some (.string ⟨#[100, 105, 118]⟩) ∧ KAt w' (w.heap.size + 1) (.slice p 2 c) awN fp ∧ Below w.heap.size w w' := by
    intro ty
    have hsz : (w.alloc (.cells (tokCells awT).toArray ty)).heap.size = w.heap.size + 1 := by simp
    refine (build_st _ _ awT (tok_lit w awT _ ty rfl) (by decide) (by decide) ?_ ?_).mono ?_
    · intro e he
      simp only [awT, List.mem_cons, List.not_mem_nil, or_false] at he
      rcases he with rfl | rfl | rfl | rfl <;> decide
    · intro e he
      simp only [awT, List.mem_cons, List.not_mem_nil, or_false] at he
      rcases he with rfl | rfl | rfl | rfl <;> exact clones_nil _ _
    · rintro e w' ⟨r, err, rfl, hE, hb⟩
      obtain ⟨rfl, fp, hk⟩ := hE.2 _ aw_build
      rw [hsz] at hk hb
      obtain ⟨p, c, rfl, hnode⟩ := kat_node hk
      obtain ⟨g, ap, am, ac, kp, km, kc, f, rfl, x0, x1, x2, x3, hkk, -⟩ := hnode 0 _ rfl
      obtain ⟨g', ap', am', ac', kp', km', kc', f', hp, y0, -⟩ := hnode 1 _ rfl
      cases hp
      obtain ⟨p2, c2, e2, -⟩ := kat_node hkk
      cases e2
      refine ⟨_, _, g, kp, kc, fp, rfl, rfl, x3, y0, hk, ?_⟩
      exact ((Below.refl w.heap.size w).alloc (Nat.le_refl _) _).trans (hb.mono (Nat.le_succ _))
  have HB := hide hB
  clear hB
  go_enter Try.func8, Try.ntmps8
  go_wp2_with fail
  refine (HB.out _).mono ?_
  rintro e w2 ⟨p, c, g, kp, kc, fp, rfl, rfl, x3, y0, hk, hb⟩
  have HT : Hid (Calls Try.prog 20 #[.slice (some ⟨g, 0, none⟩) 2 c] w2 fun e w' => e = .returned (.string ⟨#[97, 98]⟩) ∧ Below w2.heap.size w2 w') := hide (text_st w2 _ _ awN fp hk (by decide) (by decide))
  have HB2 := hide hb
  clear hk hb HB
  go_wp2_with fail
  refine HT.out.mono ?_
  rintro e w3 ⟨rfl, hb3⟩
  have HB3 := hide (HB2.out.trans (hb3.mono HB2.out.size))
  clear hb3 HT HB2
  go_wp2_with fail
  go_ret
  exact ⟨rfl, HB3.out⟩
end Go.Proofs.Ytkdppcpkigpmdaa
