/-
  Lists of tokens in memory.
-/
import Derived.Test.YtholfdfjapgfbaaDoorB4
import Derived.Test.YtholfdfjapgfbaaDoorU3
namespace Go.Proofs.YtholfdfjapgfbaaDoor
open Go.RowKit
open Utf1

/-- A token's cells, its attributes' slice being given. -/
def tokCells (t : Tk) (av : Value) : List Value := [.int .i64 (t.kind : Int), .string ⟨t.name.toArray⟩, av, .bool t.closed, .string ⟨t.text.toArray⟩]
def toksCells : List (Tk × Value) → List Value
  | [] => []
  | p :: r => tokCells p.1 p.2 ++ toksCells r
theorem toksCells_len : ∀ l, (toksCells l).length = l.length * 5
  | [] => rfl
  | p :: r => by
    simp only [toksCells, List.length_append, toksCells_len r, tokCells, List.length_cons, List.length_nil]
    omega
theorem toksCells_app : ∀ a b, toksCells (a ++ b) = toksCells a ++ toksCells b
  | [], _ => rfl
  | p :: r, b => by
    simp only [toksCells, List.cons_append, toksCells_app r b, List.append_assoc]

/-- A slice holds tokens; each one's attributes lie in a row of their own kind. -/
def ToksAt (w : World) (base : Nat) (v : Value) (l : List (Tk × Value)) : Prop :=
  w.ownsRow base 31 5 v l.length (toksCells l) ∧ ∀ p ∈ l, w.ownsRow base 33 2 p.2 p.1.attrs.length (attrCells p.1.attrs)

theorem own_below {w w1 : World} {base : Nat} {e : TypeId} {size : Nat} {v : Value} {n : Nat} {xs : List Value} (h : w.ownsRow base e size v n xs) (hb : Below w.heap.size w w1) : w1.ownsRow base e size v n xs := by
  refine h.kept (below_grown hb) ?_
  cases hv : v.ownBlock with
  | none => exact .inl rfl
  | some g => exact .inr (by simp)
theorem own_base {w : World} {base base' : Nat} {e : TypeId} {size : Nat} {v : Value} {n : Nat} {xs : List Value} (h : w.ownsRow base e size v n xs) (hb : base' ≤ base) : w.ownsRow base' e size v n xs := by
  obtain ⟨h1, h2 | ⟨g, cap, cur, h3, h4, h5⟩⟩ := h
  · exact ⟨h1, .inl h2⟩
  · exact ⟨h1, .inr ⟨g, cap, cur, h3, by omega, h5⟩⟩
theorem ToksAt.below {w w1 : World} {base : Nat} {v : Value} {l : List (Tk × Value)} (h : ToksAt w base v l) (hb : Below w.heap.size w w1) : ToksAt w1 base v l :=
  ⟨own_below h.1 hb, fun p hp => own_below (h.2 p hp) hb⟩
theorem ToksAt.nil (w : World) (base : Nat) : ToksAt w base (.slice none 0 0) [] := ⟨World.ownsRow_nil _ _ _ _, fun p hp => by cases hp⟩

theorem own_two {w : World} {base base' : Nat} {e e' : TypeId} {size size' : Nat} {v v' : Value} {n n' : Nat} {xs xs' : List Value} (h : w.ownsRow base e size v n xs) (h' : w.ownsRow base' e' size' v' n' xs') (hne : e ≠ e') : v.ownBlock = none ∨ v.ownBlock ≠ v'.ownBlock := by
  obtain ⟨_, ⟨rfl, _⟩ | ⟨g', cap, cur, rfl, _, hg, _⟩⟩ := h'
  · cases hv : v.ownBlock with
    | none => exact .inl rfl
    | some g => exact .inr (by simp [Value.ownBlock])
  · exact .inr (own_apart h hg hne)

/-- One token more. -/
theorem ToksAt.more {w w1 : World} {base : Nat} {v v' av : Value} {l : List (Tk × Value)} {t : Tk} {o : Obj} (h : ToksAt w base v l) (ht : w.ownsRow base 33 2 av t.attrs.length (attrCells t.attrs))
    (hown : w1.ownsRow base 31 5 v' (l.length + 1) (toksCells l ++ tokCells t av)) (hgr : (w.alloc o).grownBy w1 v.ownBlock) : ToksAt w1 base v' (l ++ [(t, av)]) := by
  have hk : ∀ (t' : Tk) (a : Value), w.ownsRow base 33 2 a t'.attrs.length (attrCells t'.attrs) → w1.ownsRow base 33 2 a t'.attrs.length (attrCells t'.attrs) := fun t' a h' =>
    (h'.alloc o).kept hgr (own_two (h'.alloc o) (h.1.alloc o) (by decide))
  refine ⟨?_, ?_⟩
  · rw [toksCells_app, List.length_append]
    have e : toksCells [(t, av)] = tokCells t av := by simp [toksCells]
    rw [e]
    exact hown
  · intro p hp
    rcases List.mem_append.1 hp with hp | hp
    · exact hk _ _ (h.2 p hp)
    · have : p = (t, av) := by simpa using hp
      subst this
      exact hk _ _ ht

theorem infoTok : (Tryd.prog.info? 31).map (fun i => (i.zero, i.size, i.bytes)) = some (some (.agg #[.int .i64 0, .string ⟨#[]⟩, .slice none 0 0, .bool false, .string ⟨#[]⟩]), 5, 72) := by kernel_rfl

theorem five_new (w : World) (a b c d e : Value) (t : TypeId) : ∀ (j : Nat) (u : Value), [a, b, c, d, e][j]? = some u → (w.alloc (.cells #[a, b, c, d, e] t)).cell? ((⟨w.heap.size, 0, none⟩ : Addr).add j) = some u := by
  intro j u hj
  match j, hj with
  | 0, hj => simp at hj; subst hj; simp [Addr.add]
  | 1, hj => simp at hj; subst hj; simp [Addr.add]
  | 2, hj => simp at hj; subst hj; simp [Addr.add]
  | 3, hj => simp at hj; subst hj; simp [Addr.add]
  | 4, hj => simp at hj; subst hj; simp [Addr.add]
  | _ + 5, hj => simp at hj
theorem five_one (k : Int) (a : ByteArray) (p : Option Addr) (m c : Nat) (b : Bool) (d : ByteArray) : ∀ u ∈ [Value.int .i64 k, .string a, .slice p m c, .bool b, .string d], u.oneCell' = true := by
  intro u hu
  simp at hu
  rcases hu with rfl | rfl | rfl | rfl | rfl <;> rfl

theorem toksCells_at : ∀ (l : List (Tk × Value)) (i : Nat) (p : Tk × Value), l[i]? = some p → ∀ j, j < 5 → (toksCells l)[i * 5 + j]? = (tokCells p.1 p.2)[j]?
  | [], i, p, h, _, _ => by simp at h
  | q :: r, 0, p, h, j, hj => by
    have : q = p := by simpa using h
    subst this
    show (tokCells q.1 q.2 ++ toksCells r)[0 * 5 + j]? = _
    rw [show 0 * 5 + j = j by omega, List.getElem?_append_left (by simp [tokCells]; omega)]
  | q :: r, i + 1, p, h, j, hj => by
    have h' : r[i]? = some p := by simpa using h
    show (tokCells q.1 q.2 ++ toksCells r)[(i + 1) * 5 + j]? = _
    rw [List.getElem?_append_right (by simp [tokCells]; omega), show (i + 1) * 5 + j - (tokCells q.1 q.2).length = i * 5 + j by simp [tokCells]; omega]
    exact toksCells_at r i p h' j hj
theorem tok_at {w : World} {base g n cap : Nat} {l : List (Tk × Value)} (h : ToksAt w base (.slice (some ⟨g, 0, none⟩) n cap) l) (i : Nat) (p : Tk × Value) (hp : l[i]? = some p) (j : Nat) (hj : j < 5) : w.cell? ⟨g, i * 5 + j, none⟩ = (tokCells p.1 p.2)[j]? := by
  have hi : i < l.length := (List.getElem?_eq_some_iff.1 hp).1
  have hn : n = l.length := by
    obtain ⟨_, ⟨e, _⟩ | ⟨g', cap', cur, e, _⟩⟩ := h.1
    · cases e
    · cases e
      rfl
  subst hn
  rw [h.1.cellAt (i * 5 + j) (by omega), toksCells_at l i p hp j hj]
theorem toks_slice {w : World} {base : Nat} {v : Value} {l : List (Tk × Value)} (h : ToksAt w base v l) (hl : l ≠ []) : ∃ g cap, v = .slice (some ⟨g, 0, none⟩) l.length cap ∧ base ≤ g := by
  obtain ⟨_, ⟨_, e⟩ | ⟨g', cap', cur, e, hb, _⟩⟩ := h.1
  · exact absurd (List.length_eq_zero_iff.1 e) hl
  · exact ⟨g', cap', e, hb⟩
end Go.Proofs.YtholfdfjapgfbaaDoor
