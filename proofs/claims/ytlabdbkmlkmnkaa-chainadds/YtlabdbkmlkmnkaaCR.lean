/-
  Rows of policies: what lies in a slice of policies, and what is asked of it.
-/
import Derived.Test.YtlabdbkmlkmnkaaCM
import Derived.Test.YtlabdbkmlkmnkaaPD
import Derived.Test.YtlabdbkmlkmnkaaQ10
import Derived.Deep.MidRow
import Derived.Deep.RegionHeld3
namespace Go.Proofs.Ytlabdbkmlkmnkaa
open Go.RowKit
open Utf1 Pol8

/-- A policy, its slices and their texts. -/
structure It where
  p : Pol
  v1 : Value
  v2 : Value
  v3 : Value
  v4 : Value
  v5 : Value
  l1 : List ByteArray
  l2 : List ByteArray
  l3 : List ByteArray
  l4 : List ByteArray
  l5 : List ByteArray
def It.ok (w : World) (t : It) : Prop := PolV w t.v1 t.v2 t.v3 t.v4 t.v5 t.p t.l1 t.l2 t.l3 t.l4 t.l5
abbrev It.cells (t : It) : List Value := [.int .i64 t.p.ep, t.v1, t.v2, t.v3, t.v4, t.v5, .int .i64 t.p.dp, .int .i64 t.p.nd, .int .i64 t.p.bt]
abbrev It.val (t : It) : Value := pval t.p t.v1 t.v2 t.v3 t.v4 t.v5
theorem It.ok.below {w w' : World} {t : It} (h : t.ok w) (hb : Below w.heap.size w w') : t.ok w' := PolV.below h hb
theorem range_keep {w w' : World} {b o : Nat} {cs : List Value} (h : w.rangeAt b o cs) (hb : Below w.heap.size w w') : w'.rangeAt b o cs := fun j v hv => cell_keep (h j v hv) hb
/-- A slice holds policies. -/
def PolRow (w : World) (v : Value) (ts : List It) : Prop := ∃ p cap, v = .slice p ts.length cap ∧ ts.length ≤ cap ∧ (p = none → cap = 0) ∧ ∀ i t, ts[i]? = some t → (∃ b off, p = some ⟨b, off, none⟩ ∧ w.rangeAt b (off + i * 9) t.cells) ∧ t.ok w
theorem PolRow.below {w w' : World} {v : Value} {ts : List It} (h : PolRow w v ts) (hb : Below w.heap.size w w') : PolRow w' v ts := by
  obtain ⟨p, cap, rfl, hc, h0, hi⟩ := h
  refine ⟨p, cap, rfl, hc, h0, fun i t ht => ?_⟩
  obtain ⟨⟨b, off, e, hr⟩, hok⟩ := hi i t ht
  exact ⟨⟨b, off, e, range_keep hr hb⟩, hok.below hb⟩
theorem polRow_nil (w : World) : PolRow w (.slice none 0 0) [] := ⟨none, 0, rfl, Nat.le_refl _, fun _ => rfl, fun i t h => by simp at h⟩
/-- One of a row. -/
theorem PolRow.at {w : World} {v : Value} {ts : List It} (h : PolRow w v ts) {i : Nat} {t : It} (hi : ts[i]? = some t) : ∃ b off cap, v = .slice (some ⟨b, off, none⟩) ts.length cap ∧ ts.length ≤ cap ∧ (∀ (j : Nat) (u : It), ts[j]? = some u → w.rangeAt b (off + j * 9) u.cells) ∧ ∀ (j : Nat) (u : It), ts[j]? = some u → u.ok w := by
  obtain ⟨p, cap, rfl, hc, h0, hr⟩ := h
  obtain ⟨⟨b, off, rfl, -⟩, -⟩ := hr i t hi
  refine ⟨b, off, cap, rfl, hc, fun j u hj => ?_, fun j u hj => (hr j u hj).2⟩
  obtain ⟨⟨b', off', e, h1⟩, -⟩ := hr j u hj
  injection e with e
  injection e with e1 e2
  subst e1 e2
  exact h1
/-- A beginning of a row. -/
theorem PolRow.take {w : World} {p : Option Addr} {n cap : Nat} {ts : List It} (h : PolRow w (.slice p n cap) ts) {k : Nat} (hk : k ≤ ts.length) : PolRow w (.slice p k cap) (ts.take k) := by
  obtain ⟨p', cap', e, hc, h0, hr⟩ := h
  injection e with e1 e2 e3
  subst e1 e2 e3
  refine ⟨p, cap, by rw [List.length_take, Nat.min_eq_left hk], by rw [List.length_take]; omega, h0, fun i t ht => ?_⟩
  rw [List.getElem?_take] at ht
  split at ht
  · exact hr i t ht
  · cases ht
def flat (ts : List It) : List Value := ts.flatMap It.cells
theorem flat_nil : flat [] = [] := rfl
theorem flat_cons (t : It) (ts : List It) : flat (t :: ts) = t.cells ++ flat ts := rfl
theorem flat_app (a b : List It) : flat (a ++ b) = flat a ++ flat b := List.flatMap_append ..
theorem flat_one (t : It) : flat [t] = t.cells := by simp [flat]
theorem flat_len : ∀ ts : List It, (flat ts).length = ts.length * 9
  | [] => rfl
  | t :: ts => by
    rw [flat_cons, List.length_append, flat_len ts, List.length_cons]
    show 9 + ts.length * 9 = (ts.length + 1) * 9
    omega
theorem flat_at : ∀ (ts : List It) (i k : Nat) (t : It) (u : Value), ts[i]? = some t → t.cells[k]? = some u → (flat ts)[i * 9 + k]? = some u
  | [], i, k, t, u, h, _ => by simp at h
  | x :: ts, 0, k, t, u, h, hk => by
    have e : x = t := by simpa using h
    subst e
    have hl : k < x.cells.length := (List.getElem?_eq_some_iff.1 hk).1
    rw [flat_cons, Nat.zero_mul, Nat.zero_add, List.getElem?_append_left hl]
    exact hk
  | x :: ts, i + 1, k, t, u, h, hk => by
    have h' : ts[i]? = some t := by simpa using h
    rw [flat_cons, List.getElem?_append_right (by show 9 ≤ (i + 1) * 9 + k; omega)]
    have e : (i + 1) * 9 + k - x.cells.length = i * 9 + k := by show (i + 1) * 9 + k - 9 = _; omega
    rw [e]
    exact flat_at ts i k t u h' hk
theorem flat_one_cell {ts : List It} {w : World} (h : ∀ t ∈ ts, t.ok w) : ∀ u ∈ flat ts, u.oneCell' = true := by
  intro u hu
  obtain ⟨t, ht, hm⟩ := List.mem_flatMap.1 hu
  have hk := h t ht
  obtain ⟨p1, q1, e1, -, -⟩ := hk.s1
  obtain ⟨p2, q2, e2, -, -⟩ := hk.s2
  obtain ⟨p3, q3, e3, -, -⟩ := hk.s3
  obtain ⟨p4, q4, e4, -, -⟩ := hk.s4
  obtain ⟨p5, q5, e5, -, -⟩ := hk.s5
  simp only [List.mem_cons, List.not_mem_nil, or_false] at hm
  rcases hm with rfl | rfl | rfl | rfl | rfl | rfl | rfl | rfl | rfl
  · rfl
  · rw [e1]; rfl
  · rw [e2]; rfl
  · rw [e3]; rfl
  · rw [e4]; rfl
  · rw [e5]; rfl
  · rfl
  · rfl
  · rfl
/-- A row of one's own, of policies. -/
structure OwnP (w : World) (B : Nat) (v : Value) (ts : List It) : Prop where
  o : w.ownsRow B 30 9 v ts.length (flat ts)
  k : ∀ t ∈ ts, t.ok w
theorem own_range {w : World} {B g n cap : Nat} {ts : List It} (h : w.ownsRow B 30 9 (.slice (some ⟨g, 0, none⟩) n cap) n (flat ts)) {i : Nat} {t : It} (ht : ts[i]? = some t) : w.rangeAt g (0 + i * 9) t.cells := fun j u hj => by
  have h1 := h.cells rfl (i * 9 + j) u (flat_at ts i j t u ht hj)
  rw [add_plain] at h1
  rw [Nat.add_assoc]
  exact h1
theorem OwnP.row {w : World} {B : Nat} {v : Value} {ts : List It} (h : OwnP w B v ts) : PolRow w v ts := by
  have ho := h.o
  rcases h.o.2 with ⟨rfl, hz⟩ | ⟨g, cap, cur, rfl, hB, hcur, hnc, hm, hsz, htk⟩
  · have : ts = [] := List.eq_nil_of_length_eq_zero hz
    subst this
    exact polRow_nil w
  · exact ⟨some ⟨g, 0, none⟩, cap, rfl, hnc, (fun e => by cases e), fun i t ht => ⟨⟨g, 0, rfl, own_range ho ht⟩, h.k t (List.mem_of_getElem? ht)⟩⟩
theorem OwnP.below {w w' : World} {B : Nat} {v : Value} {ts : List It} (h : OwnP w B v ts) (hb : Below w.heap.size w w') : OwnP w' B v ts :=
  ⟨h.o.kept (row := none) (below_grown hb) (Classical.em _), fun t ht => (h.k t ht).below hb⟩
theorem infoPol : (Try.prog.info? 30).map (fun i => (i.zero, i.size, i.bytes)) = some (some (.agg #[.int .i64 0, .slice none 0 0, .slice none 0 0, .slice none 0 0, .slice none 0 0, .slice none 0 0, .int .i64 0, .int .i64 0, .int .i64 0]), 9, 152) := by kernel_rfl
theorem wpAnyH_at {P : Program} {ops : Array Oper} {Q : Exit → Act → World → Prop} {md : Region.Mode} {S : World → Prop} {i : Nat} {oi : Oper} {v : Value} {fuel : Nat} {listed : Array Bool} {a a1 : Act} {w : World} (hi : ops[i]? = some oi)
    (hs : Region.noSelect ops = true) (hf : Region.free md ops listed i = true) (hr : (Region.ready md ops listed).contains i = true)
    (hQ : ∀ c a w, Q (.panic c) (a.put oi.dst v) w → Q (.panic c) a w) (hy : YieldsIf P ops S oi v a) (hS : S w) (ha : a.put oi.dst v = a1)
    (h : wpAnyH P md ops Q S fuel (listed.setIfInBounds i true) a1 w) : wpAnyH P md ops Q S (fuel + 1) listed a w := by
  subst ha
  exact wpAnyH_take hi hs hf hr hQ hy hS h
end Go.Proofs.Ytlabdbkmlkmnkaa
