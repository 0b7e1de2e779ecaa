/-
  The law ChainSteps.
-/
import Derived.Test.YtlabdbkmlkmnkaaLC2
import Derived.Laws.AppendOwnNone
namespace Go.Proofs.Ytlabdbkmlkmnkaa
open Go.RowKit
open Utf1 Pol8

/-- Strings that came in, appended to a row of strings. -/
theorem wpList_append_strs {ops : Array Oper} {rest : List Oper} {o : Oper} {a : Act} {Q : Exit → Act → World → Prop} (hgd : o.guard = none) (s x : Operand)
    (ho : o.op = .call { callee := .builtin .append, args := #[s, x], argTypes := #[28, 28] })
    (w0 w : World) (v vb : Value) (na nb : List ByteArray) (hs : a.eval s = v) (hx : a.eval x = vb) (hb : Below w0.heap.size w0 w) (hown : w.ownsRow w0.heap.size 9 1 v na.length (strV na))
    (hn : StrArg w vb nb) (hl : na.length + nb.length ≤ 100000)
    (h : ∀ v' w', w'.ownsRow w0.heap.size 9 1 v' (na ++ nb).length (strV (na ++ nb)) → Below w0.heap.size w0 w' → wpList Try.prog ops Q rest (a.put o.dst v') w') : wpList Try.prog ops Q (o :: rest) a w := by
  obtain ⟨i0, hi, hz0, hz1, hz2⟩ := info_parts infoStr
  obtain ⟨p, cap, rfl, h0, hc⟩ := hn
  cases p with
  | none =>
    have hnb : nb = [] := by
      cases nb with
      | nil => rfl
      | cons y t =>
        obtain ⟨b, off, e, _⟩ := hc 0 y rfl
        cases e
    have hcap := h0 rfl
    subst hnb
    subst hcap
    refine wpList_append_own_none hgd s x 28 ho w0.heap.size 9 i0 1 Try.underlying28 hi v na.length (strV na) hs hown hx (h v w ?_ hb)
    rw [List.append_nil]
    exact hown
  | some ad =>
    refine wpList_append_own w hgd s x 28 ho w0.heap.size 9 i0 _ 1 16 Try.underlying28 hi hz0 hz1 hz2 rfl (by decide) v na.length (strV na) hs hown ad nb.length cap (strV nb) hx (by rw [strV_len]; omega) ?_ ?_ (by unfold maxLen; omega) (by omega) hb.size ?_
    · intro j u hj
      unfold strV at hj
      rw [List.getElem?_map] at hj
      cases hjn : nb[j]? with
      | none => rw [hjn] at hj; cases hj
      | some y =>
        rw [hjn] at hj
        cases hj
        obtain ⟨b, off, e, hcell⟩ := hc j y hjn
        cases e
        rw [add_plain]
        exact hcell
    · intro u hu
      obtain ⟨y, _, rfl⟩ := List.mem_map.1 hu
      rfl
    · intro v' w' g1 g2 _
      refine h v' w' ?_ (hb.grown g2 hb.size (fun j hj => (own_block hown hj).1))
      rw [List.length_append]
      rw [show strV (na ++ nb) = strV na ++ strV nb from List.map_append]
      exact g1
theorem strArg_set {wx : World} {v : Value} {ss : List ByteArray} (h : StrArg wx v ss) {g k : Nat} {A : Array Value} {t : TypeId} (hg : wx.heap[g]? = some (.cells A t (0, 0))) (hA : ∀ (j : Nat) (y : ByteArray), A[j]? ≠ some (.string y)) (u : Value) : StrArg (wx.setCell ⟨g, k, none⟩ u) v ss := by
  obtain ⟨p, cap, rfl, h0, hc⟩ := h
  refine ⟨p, cap, rfl, h0, fun i s hi => ?_⟩
  obtain ⟨b, off, hp, hcell⟩ := hc i s hi
  refine ⟨b, off, hp, ?_⟩
  have hne : b ≠ g := fun e => by
    subst e
    unfold World.cell? at hcell
    rw [hg] at hcell
    exact hA _ _ hcell
  unfold World.cell? at hcell ⊢
  rw [Below.heap_setCell _ _ _ _ (by show b ≠ g; exact hne)]
  exact hcell
theorem OwnP.setCell {wx : World} {B : Nat} {v : Value} {ts : List It} (h : OwnP wx B v ts) {g k : Nat} (hgB : g < B) {A : Array Value} {t : TypeId} (hg : wx.heap[g]? = some (.cells A t (0, 0))) (hA : ∀ (j : Nat) (y : ByteArray), A[j]? ≠ some (.string y)) (u : Value) : OwnP (wx.setCell ⟨g, k, none⟩ u) B v ts :=
  ⟨ownsRow_setCell_below h.o (show (⟨g, k, none⟩ : Addr).block < B from hgB) u, fun t ht => ⟨strArg_set (h.k t ht).s1 hg hA u, strArg_set (h.k t ht).s2 hg hA u, strArg_set (h.k t ht).s3 hg hA u, strArg_set (h.k t ht).s4 hg hA u, strArg_set (h.k t ht).s5 hg hA u, (h.k t ht).e1, (h.k t ht).e2, (h.k t ht).e3, (h.k t ht).e4, (h.k t ht).e5, trivial⟩⟩
theorem noStr (e d n b : Int) (p1 p2 p3 p4 p5 : Option Addr) (n1 n2 n3 n4 n5 c1 c2 c3 c4 c5 : Nat) : ∀ (j : Nat) (y : ByteArray), (#[.int .i64 e, .slice p1 n1 c1, .slice p2 n2 c2, .slice p3 n3 c3, .slice p4 n4 c4, .slice p5 n5 c5, .int .i64 d, .int .i64 n, .int .i64 b] : Array Value)[j]? ≠ some (.string y) := by
  intro j y h
  have hm := Array.mem_of_getElem? h
  simp at hm
theorem BoxP.put {w wx : World} {A : Array Value} (h : BoxP w A wx) (i : Nat) (v : Value) : BoxP w (A.setIfInBounds i v) (wx.setCell ⟨w.heap.size, i, none⟩ v) :=
  ⟨heap_setCell_same wx _ i _ _ v h.1, h.2.setCell (Nat.le_refl _) _⟩
theorem BoxP.lt {w wx : World} {A : Array Value} (h : BoxP w A wx) : w.heap.size < wx.heap.size := (Array.getElem?_eq_some_iff.1 h.1).1
def zz : L := [122, 122, 122, 122, 122, 122, 122, 122, 122, 122, 122, 122, 122, 122, 122, 122, 122, 122, 122, 122, 122, 122, 122, 122, 122, 122, 122, 122, 122, 122, 122, 122]
abbrev zzB : ByteArray := ⟨#[122, 122, 122, 122, 122, 122, 122, 122, 122, 122, 122, 122, 122, 122, 122, 122, 122, 122, 122, 122, 122, 122, 122, 122, 122, 122, 122, 122, 122, 122, 122, 122]⟩
theorem fits_ep {p : Pol} (h : fits p) (e : Int) : fits { p with ep := e } := h
theorem fits_more {p : Pol} (h : light p) (e : Int) : fits { p with ep := e, sc := p.sc ++ [zz] } := by
  have hf := light_fits h
  intro l hl
  simp only [List.mem_cons, List.not_mem_nil, or_false] at hl
  rcases hl with rfl | rfl | rfl | rfl | rfl
  · exact hf _ (by simp)
  · exact hf _ (by simp)
  · have h1 := h.1 p.sc (by simp [Pol.lists])
    have h2 := hf p.sc (by simp)
    refine ⟨?_, fun x hx => ?_⟩
    · rw [List.length_append]
      show p.sc.length + 1 ≤ _
      omega
    · rcases List.mem_append.1 hx with hx | hx
      · exact h2.2 x hx
      · rw [List.mem_singleton.1 hx]
        decide
  · exact hf _ (by simp)
  · exact hf _ (by simp)
end Go.Proofs.Ytlabdbkmlkmnkaa
