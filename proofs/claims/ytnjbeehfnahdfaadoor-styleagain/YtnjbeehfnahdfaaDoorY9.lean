/-
  The document's own Filter: what stays, gathered.
-/
import Derived.Test.YtnjbeehfnahdfaaDoorY8
namespace Go.Proofs.YtnjbeehfnahdfaaDoor
open Go.RowKit
open Utf1 Sty

theorem bel2' {w w1 w2 : World} (h1 : Below w.heap.size w w1) (h2 : Below w1.heap.size w1 w2) : Below w.heap.size w w2 := h1.trans (h2.mono h1.size)
theorem grown_of {w w' : World} (hb : Below w.heap.size w w') : w.grownBy w' none := ⟨hb.os, hb.tape, hb.output, hb.size, fun k hk _ => hb.block k hk⟩
def nmB (st : List NV) : List ByteArray := st.map fun x => ⟨x.1.toArray⟩
def vlB (st : List NV) : List ByteArray := st.map fun x => ⟨x.2.toArray⟩
theorem nmB_len (st : List NV) : (nmB st).length = st.length := List.length_map ..
theorem vlB_len (st : List NV) : (vlB st).length = st.length := List.length_map ..
/-- Names and values that were met, in two rows. -/
structure Two (B : Nat) (vn vv : Value) (st : List NV) (w : World) : Prop where
  rn : w.ownsRow B 9 1 vn st.length (strV (nmB st))
  rv : w.ownsRow B 9 1 vv st.length (strV (vlB st))
  ne : vn.ownBlock = none ∨ vn.ownBlock ≠ vv.ownBlock
theorem own_block {w : World} {B : Nat} {e : TypeId} {z n : Nat} {v : Value} {xs : List Value} (h : w.ownsRow B e z v n xs) {k : Nat} (hk : v.ownBlock = some k) : B ≤ k ∧ k < w.heap.size := by
  rcases h.2 with ⟨rfl, _⟩ | ⟨g, cap, cur, rfl, hg, hh, _⟩
  · simp [Value.ownBlock] at hk
  · simp only [Value.ownBlock, Option.some.injEq] at hk
    subst hk
    exact ⟨hg, (Array.getElem?_eq_some_iff.1 hh).1⟩
theorem Two.keep {B : Nat} {vn vv : Value} {st : List NV} {w w' : World} (h : Two B vn vv st w) (hb : Below w.heap.size w w') : Two B vn vv st w' :=
  ⟨h.rn.kept (row := none) (grown_of hb) (Classical.em _), h.rv.kept (row := none) (grown_of hb) (Classical.em _), h.ne⟩
theorem two_push1 {B : Nat} {vn vn' vv : Value} {st : List NV} {w w2 : World} {tmp : Obj} (h : Two B vn vv st w) (hB : B ≤ w.heap.size) (hg : (w.alloc tmp).grownBy w2 vn.ownBlock) (hloc : vn'.ownBlock = vn.ownBlock ∨ vn'.ownBlock = some (w.heap.size + 1)) :
    w2.ownsRow B 9 1 vv st.length (strV (vlB st)) ∧ (vn'.ownBlock = none ∨ vn'.ownBlock ≠ vv.ownBlock) ∧ Below B w w2 := by
  refine ⟨(h.rv.alloc tmp).kept hg ?_, ?_, ?_⟩
  · rcases h.ne with e | e
    · rw [e]; exact Classical.em _
    · exact .inr fun e' => e e'.symm
  · rcases hloc with e | e
    · rw [e]; exact h.ne
    · right
      rw [e]
      intro e'
      have := (own_block h.rv e'.symm).2
      omega
  · exact ((Below.refl B w).alloc hB tmp).grown hg (by simp; omega) (fun k hk => (own_block h.rn hk).1)
theorem two_push2 {B : Nat} {vn' vv vv' : Value} {st : List NV} {w2 w4 : World} {tmp : Obj} (x : NV) (hn : w2.ownsRow B 9 1 vn' (st.length + 1) (strV (nmB st) ++ [.string ⟨x.1.toArray⟩])) (hv : w2.ownsRow B 9 1 vv st.length (strV (vlB st))) (hne : vn'.ownBlock = none ∨ vn'.ownBlock ≠ vv.ownBlock) (hB : B ≤ w2.heap.size)
    (hown : w4.ownsRow B 9 1 vv' (st.length + 1) (strV (vlB st) ++ [.string ⟨x.2.toArray⟩])) (hg : (w2.alloc tmp).grownBy w4 vv.ownBlock) (hloc : vv'.ownBlock = vv.ownBlock ∨ vv'.ownBlock = some (w2.heap.size + 1)) :
    Two B vn' vv' (st ++ [x]) w4 ∧ Below B w2 w4 := by
  refine ⟨⟨?_, ?_, ?_⟩, ?_⟩
  · have := (hn.alloc tmp).kept hg hne
    unfold nmB at this ⊢
    rw [List.map_append, strV_app, List.length_append]
    exact this
  · unfold vlB at hown ⊢
    rw [List.map_append, strV_app, List.length_append]
    exact hown
  · rcases hloc with e | e
    · rw [e]; exact hne
    · rcases hne with h0 | _
      · exact .inl h0
      · right
        rw [e]
        intro e'
        have := (own_block hn e').2
        omega
  · exact ((Below.refl B w2).alloc hB tmp).grown hg (by simp; omega) (fun k hk => (own_block hv hk).1)

theorem empty_bl (a : ByteArray) : a.toList.isEmpty = decide (bl a = []) := by
  rw [ByteArray.toList_eq]
  by_cases h : bl a = []
  · rw [decide_eq_true h, show a.data.toList = [] from h]
    rfl
  · rw [decide_eq_false h]
    cases hh : a.data.toList with
    | nil => exact absurd hh h
    | cons x t => rfl
def stK (props : List L) (ps : List L) (i : Nat) : List NV := ((ps.take i).filterMap pp).filter (keep props)
theorem stK_all (props : List L) (s : L) : stK props (segs s) (segs s).length = stay props s := by
  unfold stK stay prts
  rw [List.take_length]
theorem stK_step (props : List L) (ps : List L) (i : Nat) (p : L) (h : ps[i]? = some p) : stK props ps (i + 1) = stK props ps i ++ (pp p).toList.filter (keep props) := by
  unfold stK
  rw [List.take_add_one, h, List.filterMap_append, List.filter_append]
  cases hp : pp p with
  | none => simp [hp]
  | some x => simp [hp]
theorem stK_len (props : List L) (ps : List L) (i : Nat) : (stK props ps i).length ≤ i := by
  unfold stK
  refine Nat.le_trans (List.length_filter_le _ _) (Nat.le_trans (List.length_filterMap_le _ _) ?_)
  rw [List.length_take]
  omega
theorem seg_len (s p : L) (h : p ∈ segs s) : p.length ≤ s.length := by
  have h1 := segs_len s
  have h2 : p.length + 1 ≤ ((segs s).map fun p => p.length + 1).sum := by
    clear h1
    generalize segs s = l at h
    induction l with
    | nil => cases h
    | cons x r ih =>
      rcases List.mem_cons.1 h with h | h
      · subst h; simp
      · have := ih h; simp; omega
  omega
theorem segs_count (s : L) : (segs s).length ≤ s.length + 1 := by
  have h1 := segs_len s
  have h2 : ∀ l : List L, l.length ≤ (l.map fun p => p.length + 1).sum := by
    intro l
    induction l with
    | nil => simp
    | cons x r ih => simp; omega
  have := h2 (segs s)
  omega
theorem mem_step {ss : List ByteArray} {k : Nat} {y X : ByteArray} (h : ss[k]? = some y) : (bl X ∈ (ss.take (k + 1)).map bl) ↔ (bl X ∈ (ss.take k).map bl ∨ bl y = bl X) := by
  rw [List.take_add_one, h, List.map_append, List.mem_append]
  constructor
  · rintro (h | h)
    · exact .inl h
    · right
      have h : bl X ∈ [bl y] := h
      exact (List.mem_singleton.1 h).symm
  · rintro (h | h)
    · exact .inl h
    · right
      show bl X ∈ [bl y]
      rw [h]
      exact List.mem_singleton.2 rfl
end Go.Proofs.YtnjbeehfnahdfaaDoor
