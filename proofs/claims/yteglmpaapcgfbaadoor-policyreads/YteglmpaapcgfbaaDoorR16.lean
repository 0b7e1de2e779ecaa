/-
  Rows that grow within a struct: what the document's own Read holds.
-/
import Derived.Test.YteglmpaapcgfbaaDoorR15
import Derived.Test.YteglmpaapcgfbaaDoorQ8
import Derived.Test.YteglmpaapcgfbaaDoorPL4
import Derived.ArgAppend
import Derived.Deep.RegionLawGrows
namespace Go.Proofs.YteglmpaapcgfbaaDoor
open Go.RowKit
open Utf1 Pol8

/-- append of one string to a row of one's own: the same block, or a new one. -/
theorem run_mine (w : World) (B : Nat) (t ty e : TypeId) (i : TypeInfo) (z : Value) (bytes : Nat) (ht : Tryd.prog.underlying t = some (.slice e)) (hi : Tryd.prog.info? e = some i) (hz : i.zero = some z)
    (hsize : i.size = 1) (hby : i.bytes = bytes) (hzs : z.cells.size = 1) (p : Option Addr) (n c : Nat) (xs : List Value) (hown : w.ownsRow B e 1 (.slice p n c) n xs)
    (ad : Addr) (c2 : Nat) (u : Value) (hu : w.cell? ad = some u) (h1 : u.oneCell' = true) (h63 : n + 1 ≤ maxLen) (hbytes : (n + 1) * bytes ≤ 140737488355328) (hbase : B ≤ w.heap.size) :
    ∃ p' c' w', (Builtin.append_ #[t, t] ty #[.slice p n c, .slice (some ad) 1 c2]).run Tryd.prog w = .ok (.slice p' (n + 1) c') w' ∧ w'.ownsRow B e 1 (.slice p' (n + 1) c') (n + 1) (xs ++ [u]) ∧ w.grownBy w' (Value.ownBlock (.slice p n c)) ∧
      (Value.ownBlock (.slice p' (n + 1) c') = Value.ownBlock (.slice p n c) ∨ ∀ k, Value.ownBlock (.slice p' (n + 1) c') = some k → w.heap.size ≤ k) := by
  have hnews : ∀ j x, [u][j]? = some x → w.cell? (ad.add j) = some x := by
    intro j x hj
    cases j with
    | zero =>
      have e : u = x := Option.some.inj hj
      rw [← e]
      cases ad; simpa [Addr.add] using hu
    | succ j => simp at hj
  have h1' : ∀ x ∈ [u], x.oneCell' = true := by simpa using h1
  obtain ⟨v', w', hrun, r1, r2, -⟩ := run_append_own (P := Tryd.prog) w B t ty e i z 1 bytes ht hi hz hsize hby hzs (by decide) (.slice p n c) n xs hown ad 1 c2 [u] rfl hnews h1' h63 hbytes hbase
  obtain ⟨p', c', rfl, -⟩ := own_shape r1
  refine ⟨p', c', w', hrun, r1, r2, ?_⟩
  rcases hown.2 with ⟨e0, hn0⟩ | ⟨g, cap, cur, e0, hg, hcur, hnc, hm, hsz, htk⟩
  · injection e0 with a1 a2 a3
    subst a1 a2 a3
    obtain ⟨v'', w'', hrun2, s1, -, -⟩ := run_append_own (P := Tryd.prog) w w.heap.size t ty e i z 1 bytes ht hi hz hsize hby hzs (by decide) (.slice none 0 0) 0 [] (World.ownsRow_nil _ _ _ _) ad 1 c2 [u] rfl hnews h1' h63 hbytes (Nat.le_refl _)
    rw [hrun] at hrun2
    injection hrun2 with b1 b2
    subst b1 b2
    exact .inr (fun k hk => (s1.lt k hk).1)
  · injection e0 with a1 a2 a3
    subst a1 a3
    by_cases hroom : n + 1 ≤ c
    · have hrun2 := run_append_room_cells (P := Tryd.prog) w t ty e i ht hi g 0 n c ad 1 c2 [u] (by rw [hsize]; rfl) hnews h1' hroom (fun j hj => by
        unfold World.cell?
        rw [hcur]
        have : j = 0 := by simpa using hj
        subst this
        rw [hsize]
        simp [hsz]
        omega) (fun j hj => by
        exact Go.Joins.unfrozen_of_block hcur _)
      rw [hrun] at hrun2
      injection hrun2 with b1 b2
      injection b1 with b1 b3 b4
      subst b1
      exact .inl rfl
    · obtain ⟨v'', w'', hrun2, s1, -⟩ := run_append_arg_grows (P := Tryd.prog) w t ty e i z 1 bytes ht hi hz hsize hby hzs (by decide) ⟨g, 0, none⟩ n c xs hown.1 (hown.cells rfl) ad 1 c2 [u] rfl hnews (by omega) h63 hbytes
      rw [hrun] at hrun2
      injection hrun2 with b1 b2
      subst b1 b2
      exact .inr (fun k hk => (s1.lt k hk).1)
theorem step_mine {ops : Array Oper} {o : Oper} {a : Act} {w : World} {K : Act → World → Prop} {Q : Exit → Act → World → Prop} {E : Prop}
    (hg : o.guard = none) (s x : Operand) (t : TypeId) (hop : o.op = Op.call { callee := Callee.builtin Builtin.append, args := #[s, x], argTypes := #[t, t] })
    (B : Nat) (e : TypeId) (i : TypeInfo) (z : Value) (bytes : Nat) (ht : Tryd.prog.underlying t = some (.slice e)) (hi : Tryd.prog.info? e = some i) (hz : i.zero = some z)
    (hsize : i.size = 1) (hby : i.bytes = bytes) (hzs : z.cells.size = 1) (p : Option Addr) (n c : Nat) (xs : List Value) (hs : a.eval s = .slice p n c) (hown : w.ownsRow B e 1 (.slice p n c) n xs)
    (ad : Addr) (c2 : Nat) (u : Value) (hx : a.eval x = .slice (some ad) 1 c2) (hu : w.cell? ad = some u) (h1 : u.oneCell' = true) (h63 : n + 1 ≤ maxLen) (hbytes : (n + 1) * bytes ≤ 140737488355328) (hbase : B ≤ w.heap.size)
    (hK : ∀ p' c' w', w'.ownsRow B e 1 (.slice p' (n + 1) c') (n + 1) (xs ++ [u]) → w.grownBy w' (Value.ownBlock (.slice p n c)) → (Value.ownBlock (.slice p' (n + 1) c') = Value.ownBlock (.slice p n c) ∨ ∀ k, Value.ownBlock (.slice p' (n + 1) c') = some k → w.heap.size ≤ k) → K (a.put o.dst (.slice p' (n + 1) c')) w') :
    if Region.wanted o (yielded ops a.tmps) = true then Oper.wp Tryd.prog o a w K Q else E := by
  have hw : Region.wanted o (yielded ops a.tmps) = true := by simp [Region.wanted, hg]
  rw [if_pos hw]
  obtain ⟨p', c', w', hrun, r1, r2, r3⟩ := run_mine w B t o.type e i z bytes ht hi hz hsize hby hzs p n c xs hown ad c2 u hu h1 h63 hbytes hbase
  unfold Oper.wp
  simp [execOp, hop, resolve, invoke, builtin, hs, hx, hrun, Result.andThen]
  exact hK p' c' w' r1 r2 r3
/-- Rows of one's own, each in a block of its own. -/
def Rws (B : Nat) (wx : World) (vs : List Value) (ls : List (List ByteArray)) : Prop :=
  (∀ (k : Nat) (v : Value) (l : List ByteArray), vs[k]? = some v → ls[k]? = some l → wx.ownsRow B 9 1 v l.length (strV l)) ∧ ∀ (j k : Nat) (v u : Value) (b : Nat), vs[j]? = some v → vs[k]? = some u → v.ownBlock = some b → u.ownBlock = some b → j = k
theorem Rws.kept {B : Nat} {wx wy : World} {vs : List Value} {ls : List (List ByteArray)} (h : Rws B wx vs ls) (hg : wx.grownBy wy none) : Rws B wy vs ls :=
  ⟨fun k v l hv hl => (h.1 k v l hv hl).kept hg (by cases v.ownBlock with | none => exact .inl rfl | some b => exact .inr (by intro e; cases e)), h.2⟩
theorem Rws.setCell {B : Nat} {wx : World} {vs : List Value} {ls : List (List ByteArray)} (h : Rws B wx vs ls) {a : Addr} (ha : a.block < B) (u : Value) : Rws B (wx.setCell a u) vs ls :=
  ⟨fun k v l hv hl => ownsRow_setCell_below (h.1 k v l hv hl) ha u, h.2⟩
theorem Rws.push {B : Nat} {wx wy : World} {vs : List Value} {ls : List (List ByteArray)} (h : Rws B wx vs ls) (k : Nat) {v v' : Value} {l' : List ByteArray} (hv : vs[k]? = some v) (hown : wy.ownsRow B 9 1 v' l'.length (strV l')) (hg : wx.grownBy wy v.ownBlock)
    (hlt : ∀ (j : Nat) (u : Value) (b : Nat), vs[j]? = some u → u.ownBlock = some b → b < wx.heap.size) (hb : v'.ownBlock = v.ownBlock ∨ ∀ b, v'.ownBlock = some b → wx.heap.size ≤ b) : Rws B wy (vs.set k v') (ls.set k l') := by
  constructor
  · intro j u l hu hl
    by_cases hj : j = k
    · subst hj
      have hk := (List.getElem?_eq_some_iff.1 hv).1
      rw [List.getElem?_set_self hk] at hu
      injection hu with hu
      rw [List.getElem?_set] at hl
      simp only [if_true] at hl
      split at hl
      · injection hl with hl
        subst hu hl
        exact hown
      · cases hl
    · rw [List.getElem?_set_ne (fun e => hj e.symm)] at hu hl
      refine (h.1 j u l hu hl).kept hg ?_
      cases hub : u.ownBlock with
      | none => exact .inl rfl
      | some b => exact .inr (fun e => hj (h.2 j k u v b hu hv hub e.symm))
  · intro i j u x b hu hx hub hxb
    by_cases hi : i = k
    · by_cases hj : j = k
      · rw [hi, hj]
      · exfalso
        subst hi
        rw [List.getElem?_set_self (List.getElem?_eq_some_iff.1 hv).1] at hu
        injection hu with hu
        subst hu
        rw [List.getElem?_set_ne (fun e => hj e.symm)] at hx
        rcases hb with e | e
        · rw [e] at hub
          exact hj (h.2 j i x v b hx hv hxb hub)
        · have h1 := e b hub
          have h2 := hlt j x b hx hxb
          omega
    · rw [List.getElem?_set_ne (fun e => hi e.symm)] at hu
      by_cases hj : j = k
      · exfalso
        subst hj
        rw [List.getElem?_set_self (List.getElem?_eq_some_iff.1 hv).1] at hx
        injection hx with hx
        subst hx
        rcases hb with e | e
        · rw [e] at hxb
          exact hi (h.2 i j u v b hu hv hub hxb)
        · have h1 := e b hxb
          have h2 := hlt i u b hu hub
          omega
      · rw [List.getElem?_set_ne (fun e => hj e.symm)] at hx
        exact h.2 i j u x b hu hx hub hxb
/-- The answer's variable, the policy under way with its rows; what lay below is as it was. -/
def RR (w w2 : World) (vs : List Value) (ls : List (List ByteArray)) (A : Array Value) (wx : World) : Prop :=
  wx.heap[w.heap.size]? = some (.cells zeroP 24 (0, 0)) ∧ wx.heap[w.heap.size + 1]? = some (.cells A 24 (0, 0)) ∧ Rws w2.heap.size wx vs ls ∧ Below w.heap.size w wx ∧ w2.heap.size ≤ wx.heap.size ∧ ∀ k, k < w2.heap.size → k ≠ w.heap.size + 1 → wx.heap[k]? = w2.heap[k]?
theorem RR.keep {w w2 wx wy : World} {vs : List Value} {ls : List (List ByteArray)} {A : Array Value} (h : RR w w2 vs ls A wx) (hb : Below wx.heap.size wx wy) : RR w w2 vs ls A wy :=
  ⟨(hb.block _ (Array.getElem?_eq_some_iff.1 h.1).1).trans h.1, (hb.block _ (Array.getElem?_eq_some_iff.1 h.2.1).1).trans h.2.1, h.2.2.1.kept (below_grown hb), h.2.2.2.1.trans (hb.mono h.2.2.2.1.size), by have := hb.size; have := h.2.2.2.2.1; omega, fun k hk hn => (hb.block k (by have := h.2.2.2.2.1; omega)).trans (h.2.2.2.2.2 k hk hn)⟩
theorem RR.put {w w2 wx : World} {vs : List Value} {ls : List (List ByteArray)} {A : Array Value} (h : RR w w2 vs ls A wx) (h2 : w.heap.size + 2 ≤ w2.heap.size) (i : Nat) (v : Value) : RR w w2 vs ls (A.setIfInBounds i v) (wx.setCell ⟨w.heap.size + 1, i, none⟩ v) :=
  ⟨(Below.heap_setCell _ _ _ _ (by show w.heap.size ≠ w.heap.size + 1; omega)).trans h.1, heap_setCell_same wx _ i _ _ v h.2.1, h.2.2.1.setCell (by show w.heap.size + 1 < w2.heap.size; omega) v, h.2.2.2.1.setCell (by show w.heap.size ≤ w.heap.size + 1; omega) _, by have := h.2.2.2.2.1; simpa using this, fun k hk hn => (Below.heap_setCell _ _ _ _ (by show k ≠ w.heap.size + 1; omega)).trans (h.2.2.2.2.2 k hk hn)⟩
theorem RR.push {w w2 wx wy : World} {vs : List Value} {ls : List (List ByteArray)} {A : Array Value} (h : RR w w2 vs ls A wx) (h2 : w.heap.size + 2 ≤ w2.heap.size) (hll : ls.length = vs.length) (k : Nat) {v v' : Value} {l' : List ByteArray} (hv : vs[k]? = some v) (hown : wy.ownsRow w2.heap.size 9 1 v' l'.length (strV l')) (hg : wx.grownBy wy v.ownBlock)
    (hb : v'.ownBlock = v.ownBlock ∨ ∀ b, v'.ownBlock = some b → wx.heap.size ≤ b) : RR w w2 (vs.set k v') (ls.set k l') A wy := by
  have hlt : ∀ (j : Nat) (u : Value) (b : Nat), vs[j]? = some u → u.ownBlock = some b → w2.heap.size ≤ b ∧ b < wx.heap.size := fun j u b hu hub => by
    have hj := (List.getElem?_eq_some_iff.1 hu).1
    exact (h.2.2.1.1 j u _ hu (List.getElem?_eq_getElem (by rw [hll]; exact hj))).lt b hub
  have hst : ∀ k, k < w2.heap.size → wy.heap[k]? = wx.heap[k]? := fun j hj => hg.block j (by have := h.2.2.2.2.1; omega) (fun e => by
    have := (hlt k v j hv e.symm).1
    omega)
  refine ⟨(hst _ (by omega)).trans h.1, (hst _ (by omega)).trans h.2.1, h.2.2.1.push k hv hown hg (fun j u b hu hub => (hlt j u b hu hub).2) hb, h.2.2.2.1.grown hg h.2.2.2.1.size (fun b hb => ?_), by have := hg.size; have := h.2.2.2.2.1; omega, fun j hj hn => (hst j hj).trans (h.2.2.2.2.2 j hj hn)⟩
  have := (hlt k v b hv hb).1
  omega
end Go.Proofs.YteglmpaapcgfbaaDoor
