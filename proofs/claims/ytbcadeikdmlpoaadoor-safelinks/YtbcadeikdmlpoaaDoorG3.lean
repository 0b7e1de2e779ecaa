/-
  Trees in memory: nodes' rows, each with the blocks that it holds.
-/
import Derived.Test.YtbcadeikdmlpoaaDoorG2
namespace Utf1

/-- A node. -/
inductive Nd where
  | mk (name : List UInt8) (attrs : List (List UInt8 × List UInt8)) (text : List UInt8) (kids : List Nd)
def Nd.name : Nd → List UInt8
  | .mk n _ _ _ => n
def Nd.attrs : Nd → List (List UInt8 × List UInt8)
  | .mk _ a _ _ => a
def Nd.text : Nd → List UInt8
  | .mk _ _ t _ => t
def Nd.kids : Nd → List Nd
  | .mk _ _ _ k => k
end Utf1
namespace Go.Proofs.YtbcadeikdmlpoaaDoor.Dm
open Go.RowKit
open Utf1

/-- Attributes as cells. -/
def attrCells : List (List UInt8 × List UInt8) → List Value
  | [] => []
  | p :: r => .string ⟨p.1.toArray⟩ :: .string ⟨p.2.toArray⟩ :: attrCells r
theorem attrCells_len : ∀ l, (attrCells l).length = l.length * 2
  | [] => rfl
  | p :: r => by
    simp only [attrCells, List.length_cons, attrCells_len r]
    omega
theorem attrCells_app : ∀ a b, attrCells (a ++ b) = attrCells a ++ attrCells b
  | [], _ => rfl
  | p :: r, b => by simp only [attrCells, List.cons_append, attrCells_app r b]

/-- A node's cells, its slices being given. -/
def ndCells1 (n : Nd) (av kv : Value) : List Value := [.string ⟨n.name.toArray⟩, av, .string ⟨n.text.toArray⟩, kv]
def ndCells : List (Nd × Value × Value) → List Value
  | [] => []
  | p :: r => ndCells1 p.1 p.2.1 p.2.2 ++ ndCells r
theorem ndCells_len : ∀ l, (ndCells l).length = l.length * 4
  | [] => rfl
  | p :: r => by
    simp only [ndCells, List.length_append, ndCells_len r, ndCells1, List.length_cons, List.length_nil]
    omega
theorem ndCells_app : ∀ a b, ndCells (a ++ b) = ndCells a ++ ndCells b
  | [], _ => rfl
  | p :: r, b => by simp only [ndCells, List.cons_append, ndCells_app r b, List.append_assoc]
theorem ndCells_at : ∀ (l : List (Nd × Value × Value)) (i : Nat) (p : Nd × Value × Value), l[i]? = some p → ∀ j, j < 4 → (ndCells l)[i * 4 + j]? = (ndCells1 p.1 p.2.1 p.2.2)[j]?
  | [], i, p, h, _, _ => by simp at h
  | q :: r, 0, p, h, j, hj => by
    have : q = p := by simpa using h
    subst this
    show (ndCells1 q.1 q.2.1 q.2.2 ++ ndCells r)[0 * 4 + j]? = _
    rw [show 0 * 4 + j = j by omega, List.getElem?_append_left (by simp [ndCells1]; omega)]
  | q :: r, i + 1, p, h, j, hj => by
    have h' : r[i]? = some p := by simpa using h
    show (ndCells1 q.1 q.2.1 q.2.2 ++ ndCells r)[(i + 1) * 4 + j]? = _
    rw [List.getElem?_append_right (by simp [ndCells1]; omega), show (i + 1) * 4 + j - (ndCells1 q.1 q.2.1 q.2.2).length = i * 4 + j by simp [ndCells1]; omega]
    exact ndCells_at r i p h' j hj

/-- The blocks of a slice. -/
def blk (v : Value) : List Nat := v.ownBlock.toList

mutual
/-- A slice holds nodes; the blocks of all rows of nodes, its own and those within, are listed. -/
inductive KAt (w : World) (base : Nat) : Value → List Nd → List Nat → Prop
  | mk (v : Value) (l : List (Nd × Value × Value)) (fp : List Nat) (row : w.ownsRow base 36 4 v l.length (ndCells l)) (all : KAll w base l fp) : KAt w base v (l.map Prod.fst) (blk v ++ fp)
/-- Each node's slices hold its attributes and what stands within it. -/
inductive KAll (w : World) (base : Nat) : List (Nd × Value × Value) → List Nat → Prop
  | nil : KAll w base [] []
  | cons (n : Nd) (av kv : Value) (l : List (Nd × Value × Value)) (fp fps : List Nat) (ha : w.ownsRow base 26 2 av n.attrs.length (attrCells n.attrs)) (hk : KAt w base kv n.kids fp) (hl : KAll w base l fps) : KAll w base ((n, av, kv) :: l) (fp ++ fps)
end

/-- All blocks stay but those of a list, none of which holds attributes. -/
structure Stays (w w' : World) (S : List Nat) : Prop where
  size : w.heap.size ≤ w'.heap.size
  block : ∀ k, k < w.heap.size → k ∉ S → w'.heap[k]? = w.heap[k]?
  attr : ∀ k ∈ S, ∀ cs fz, w.heap[k]? ≠ some (.cells cs 26 fz)

theorem own_stays {w w' : World} {base : Nat} {e : TypeId} {size : Nat} {v : Value} {n : Nat} {xs : List Value} {S : List Nat} (h : w.ownsRow base e size v n xs) (hS : ∀ k, k < w.heap.size → k ∉ S → w'.heap[k]? = w.heap[k]?) (hv : ∀ k, v.ownBlock = some k → k ∉ S) : w'.ownsRow base e size v n xs := by
  obtain ⟨h1, h2 | ⟨g, cap, cur, h3, h4, h5, h6⟩⟩ := h
  · exact ⟨h1, .inl h2⟩
  · subst h3
    have hl : g < w.heap.size := (Array.getElem?_eq_some_iff.1 h5).1
    exact ⟨h1, .inr ⟨g, cap, cur, rfl, h4, (hS g hl (hv g rfl)).trans h5, h6⟩⟩
theorem attr_stays {w w' : World} {base : Nat} {v : Value} {n : Nat} {xs : List Value} {S : List Nat} (h : w.ownsRow base 26 2 v n xs) (hS : Stays w w' S) : w'.ownsRow base 26 2 v n xs := by
  refine own_stays h hS.block ?_
  intro k hk hkS
  obtain ⟨_, ⟨rfl, _⟩ | ⟨g, cap, cur, rfl, _, hg, _⟩⟩ := h
  · cases hk
  · cases hk
    exact hS.attr _ hkS _ _ hg

mutual
theorem KAt.stays {w w' : World} {base : Nat} {S : List Nat} {v : Value} {ns : List Nd} {fp : List Nat} (h : KAt w base v ns fp) (hS : Stays w w' S) (hd : ∀ k ∈ fp, k ∉ S) : KAt w' base v ns fp :=
  match h with
  | .mk v l fp row all => .mk v l fp (own_stays row hS.block fun k hk => hd k (List.mem_append_left _ (by unfold blk; rw [hk]; simp))) (all.stays hS fun k hk => hd k (List.mem_append_right _ hk))
theorem KAll.stays {w w' : World} {base : Nat} {S : List Nat} {l : List (Nd × Value × Value)} {fp : List Nat} (h : KAll w base l fp) (hS : Stays w w' S) (hd : ∀ k ∈ fp, k ∉ S) : KAll w' base l fp :=
  match h with
  | .nil => .nil
  | .cons n av kv l fp fps ha hk hl => .cons n av kv l fp fps (attr_stays ha hS) (hk.stays hS fun k hk' => hd k (List.mem_append_left _ hk')) (hl.stays hS fun k hk' => hd k (List.mem_append_right _ hk'))
end

theorem KAll.app {w : World} {base : Nat} : ∀ {l : List (Nd × Value × Value)} {l' : List (Nd × Value × Value)} {fp fp' : List Nat}, KAll w base l fp → KAll w base l' fp' → KAll w base (l ++ l') (fp ++ fp')
  | _, _, _, _, .nil, h' => h'
  | _, _, _, _, .cons n av kv l fp fps ha hk hl, h' => by
    rw [List.append_assoc]
    exact .cons n av kv _ fp _ ha hk (hl.app h')
/-- The blocks lie between the base and the heap's end. -/
theorem own_lt {w : World} {base : Nat} {e : TypeId} {size : Nat} {v : Value} {n : Nat} {xs : List Value} (h : w.ownsRow base e size v n xs) : ∀ k ∈ blk v, base ≤ k ∧ k < w.heap.size := by
  intro k hk
  unfold blk at hk
  obtain ⟨_, ⟨rfl, _⟩ | ⟨g, cap, cur, rfl, hb, hg, _⟩⟩ := h
  · simp [Value.ownBlock] at hk
  · have : k = g := by simpa [Value.ownBlock] using hk
    subst this
    exact ⟨hb, (Array.getElem?_eq_some_iff.1 hg).1⟩
mutual
theorem KAt.lt {w : World} {base : Nat} {v : Value} {ns : List Nd} {fp : List Nat} (h : KAt w base v ns fp) : ∀ k ∈ fp, base ≤ k ∧ k < w.heap.size :=
  match h with
  | .mk v l fp row all => fun k hk => (List.mem_append.1 hk).elim (own_lt row k) (all.lt k)
theorem KAll.lt {w : World} {base : Nat} {l : List (Nd × Value × Value)} {fp : List Nat} (h : KAll w base l fp) : ∀ k ∈ fp, base ≤ k ∧ k < w.heap.size :=
  match h with
  | .nil => fun k hk => by cases hk
  | .cons n av kv l fp fps ha hk hl => fun k hk' => (List.mem_append.1 hk').elim (hk.lt k) (hl.lt k)
end
theorem below_stays {w w' : World} (hb : Below w.heap.size w w') : Stays w w' [] := ⟨hb.size, fun k hk _ => hb.block k hk, fun k hk => by cases hk⟩
theorem KAt.under {w w' : World} {base : Nat} {v : Value} {ns : List Nd} {fp : List Nat} (h : KAt w base v ns fp) (hb : Below w.heap.size w w') : KAt w' base v ns fp := h.stays (below_stays hb) (fun _ _ h => by cases h)
theorem KAll.under {w w' : World} {base : Nat} {l : List (Nd × Value × Value)} {fp : List Nat} (h : KAll w base l fp) (hb : Below w.heap.size w w') : KAll w' base l fp := h.stays (below_stays hb) (fun _ _ h => by cases h)
theorem KAt.empty (w : World) (base : Nat) : KAt w base (.slice Option.none 0 0) [] [] := KAt.mk (.slice Option.none 0 0) [] [] (World.ownsRow_nil _ _ _ _) .nil
end Go.Proofs.YtbcadeikdmlpoaaDoor.Dm
