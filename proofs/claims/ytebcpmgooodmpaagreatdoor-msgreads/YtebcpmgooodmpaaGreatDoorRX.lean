/-
  What is asked of the document's own Read of a policy.
-/
import Derived.Test.YtebcpmgooodmpaaGreatDoorPD
import Derived.Test.YtebcpmgooodmpaaGreatDoorQ13
import Derived.Test.YtebcpmgooodmpaaGreatDoorQZ
import Derived.Test.YtebcpmgooodmpaaGreatDoorR15
import Derived.ArgAppend
import Derived.Deep.RegionLawGrows
namespace Go.Proofs.YtebcpmgooodmpaaGreatDoor
open Go.RowKit
open Utf1 Pol8

/-- What the document's own Read gives. -/
def RReadC : Prop := ∀ (s : ByteArray) (w : World), s.size ≤ 9000 → Glob w →
  Calls Tryz.prog 39 #[.string s] w fun e w' => (∃ v1 v2 v3 v4 v5 l1 l2 l3 l4 l5, e = .returned (.tuple #[pval ((readP (bl s)).getD Pol.zero) v1 v2 v3 v4 v5, .int .i64 (if (readP (bl s)).isSome = true then 0 else 2)]) ∧ PolV w' v1 v2 v3 v4 v5 ((readP (bl s)).getD Pol.zero) l1 l2 l3 l4 l5) ∧ Below w.heap.size w w'
/-- What is read, by its shape. -/
theorem read_shape {F : Nat} {s : ByteArray} {w : World} (h : Calls Tryz.prog F #[.string s] w fun e w' => (∃ v1 v2 v3 v4 v5 l1 l2 l3 l4 l5, e = .returned (.tuple #[pval ((readP (bl s)).getD Pol.zero) v1 v2 v3 v4 v5, .int .i64 (if (readP (bl s)).isSome = true then 0 else 2)]) ∧ PolV w' v1 v2 v3 v4 v5 ((readP (bl s)).getD Pol.zero) l1 l2 l3 l4 l5) ∧ Below w.heap.size w w') (Q : Pol) (hQ : Q = (readP (bl s)).getD Pol.zero) (E : Int) (hE : E = if (readP (bl s)).isSome = true then 0 else 2) :
    Calls Tryz.prog F #[.string s] w fun e w' => (∃ (p1 : Option Addr) (n1 c1 : Nat) (p2 : Option Addr) (n2 c2 : Nat) (p3 : Option Addr) (n3 c3 : Nat) (p4 : Option Addr) (n4 c4 : Nat) (p5 : Option Addr) (n5 c5 : Nat) (m1 m2 m3 m4 m5 : List ByteArray), e = .returned (.tuple #[.agg #[.int .i64 Q.ep, .slice p1 n1 c1, .slice p2 n2 c2, .slice p3 n3 c3, .slice p4 n4 c4, .slice p5 n5 c5, .int .i64 Q.dp, .int .i64 Q.nd, .int .i64 Q.bt], .int .i64 E]) ∧ PolV w' (.slice p1 n1 c1) (.slice p2 n2 c2) (.slice p3 n3 c3) (.slice p4 n4 c4) (.slice p5 n5 c5) Q m1 m2 m3 m4 m5) ∧ Below w.heap.size w w' := by
  subst hQ hE
  refine h.mono ?_
  rintro e w' ⟨⟨v1, v2, v3, v4, v5, m1, m2, m3, m4, m5, rfl, hu⟩, hb⟩
  refine ⟨?_, hb⟩
  obtain ⟨p1, c1, rfl, -, -⟩ := id hu.s1
  obtain ⟨p2, c2, rfl, -, -⟩ := id hu.s2
  obtain ⟨p3, c3, rfl, -, -⟩ := id hu.s3
  obtain ⟨p4, c4, rfl, -, -⟩ := id hu.s4
  obtain ⟨p5, c5, rfl, -, -⟩ := id hu.s5
  exact ⟨p1, m1.length, c1, p2, m2.length, c2, p3, m3.length, c3, p4, m4.length, c4, p5, m5.length, c5, m1, m2, m3, m4, m5, rfl, hu⟩

end Go.Proofs.YtebcpmgooodmpaaGreatDoor

namespace Go.Proofs.YtebcpmgooodmpaaGreatDoor
open Go.RowKit
open Utf1 Pol8

/-- append of one string to a row of one's own: the same block, or a new one. -/
theorem run_mine (w : World) (B : Nat) (t ty e : TypeId) (i : TypeInfo) (z : Value) (bytes : Nat) (ht : Tryz.prog.underlying t = some (.slice e)) (hi : Tryz.prog.info? e = some i) (hz : i.zero = some z)
    (hsize : i.size = 1) (hby : i.bytes = bytes) (hzs : z.cells.size = 1) (p : Option Addr) (n c : Nat) (xs : List Value) (hown : w.ownsRow B e 1 (.slice p n c) n xs)
    (ad : Addr) (c2 : Nat) (u : Value) (hu : w.cell? ad = some u) (h1 : u.oneCell' = true) (h63 : n + 1 ≤ maxLen) (hbytes : (n + 1) * bytes ≤ 140737488355328) (hbase : B ≤ w.heap.size) :
    ∃ p' c' w', (Builtin.append_ #[t, t] ty #[.slice p n c, .slice (some ad) 1 c2]).run Tryz.prog w = .ok (.slice p' (n + 1) c') w' ∧ w'.ownsRow B e 1 (.slice p' (n + 1) c') (n + 1) (xs ++ [u]) ∧ w.grownBy w' (Value.ownBlock (.slice p n c)) ∧
      (Value.ownBlock (.slice p' (n + 1) c') = Value.ownBlock (.slice p n c) ∨ ∀ k, Value.ownBlock (.slice p' (n + 1) c') = some k → w.heap.size ≤ k) := by
  have hnews : ∀ j x, [u][j]? = some x → w.cell? (ad.add j) = some x := by
    intro j x hj
    cases j with
    | zero =>
      have e : u = x := Option.some.inj hj
      rw [← e]
      cases ad; simpa [Addr.add] using hu
    | succ j => simp at hj
  have h1' : ∀ x ∈ [u], x.oneCell' = true := by simpa using h1
  obtain ⟨v', w', hrun, r1, r2, -⟩ := run_append_own (P := Tryz.prog) w B t ty e i z 1 bytes ht hi hz hsize hby hzs (by decide) (.slice p n c) n xs hown ad 1 c2 [u] rfl hnews h1' h63 hbytes hbase
  obtain ⟨p', c', rfl, -⟩ := own_shape r1
  refine ⟨p', c', w', hrun, r1, r2, ?_⟩
  rcases hown.2 with ⟨e0, hn0⟩ | ⟨g, cap, cur, e0, hg, hcur, hnc, hm, hsz, htk⟩
  · injection e0 with a1 a2 a3
    subst a1 a2 a3
    obtain ⟨v'', w'', hrun2, s1, -, -⟩ := run_append_own (P := Tryz.prog) w w.heap.size t ty e i z 1 bytes ht hi hz hsize hby hzs (by decide) (.slice none 0 0) 0 [] (World.ownsRow_nil _ _ _ _) ad 1 c2 [u] rfl hnews h1' h63 hbytes (Nat.le_refl _)
    rw [hrun] at hrun2
    injection hrun2 with b1 b2
    subst b1 b2
    exact .inr (fun k hk => (s1.lt k hk).1)
  · injection e0 with a1 a2 a3
    subst a1 a3
    by_cases hroom : n + 1 ≤ c
    · have hrun2 := run_append_room_cells (P := Tryz.prog) w t ty e i ht hi g 0 n c ad 1 c2 [u] (by rw [hsize]; rfl) hnews h1' hroom (fun j hj => by
        unfold World.cell?
        rw [hcur]
        have : j = 0 := by simpa using hj
        subst this
        rw [hsize]
        simp [hsz]
        omega) (fun j hj => by
        exact Go.Joins.unfrozen_of_block hcur _)
      rw [hrun] at hrun2
      injection hrun2 with b1 b2
      injection b1 with b1 b3 b4
      subst b1
      exact .inl rfl
    · obtain ⟨v'', w'', hrun2, s1, -⟩ := run_append_arg_grows (P := Tryz.prog) w t ty e i z 1 bytes ht hi hz hsize hby hzs (by decide) ⟨g, 0, none⟩ n c xs hown.1 (hown.cells rfl) ad 1 c2 [u] rfl hnews (by omega) h63 hbytes
      rw [hrun] at hrun2
      injection hrun2 with b1 b2
      subst b1 b2
      exact .inr (fun k hk => (s1.lt k hk).1)
theorem step_mine {ops : Array Oper} {o : Oper} {a : Act} {w : World} {K : Act → World → Prop} {Q : Exit → Act → World → Prop} {E : Prop}
    (hg : o.guard = none) (s x : Operand) (t : TypeId) (hop : o.op = Op.call { callee := Callee.builtin Builtin.append, args := #[s, x], argTypes := #[t, t] })
    (B : Nat) (e : TypeId) (i : TypeInfo) (z : Value) (bytes : Nat) (ht : Tryz.prog.underlying t = some (.slice e)) (hi : Tryz.prog.info? e = some i) (hz : i.zero = some z)
    (hsize : i.size = 1) (hby : i.bytes = bytes) (hzs : z.cells.size = 1) (p : Option Addr) (n c : Nat) (xs : List Value) (hs : a.eval s = .slice p n c) (hown : w.ownsRow B e 1 (.slice p n c) n xs)
    (ad : Addr) (c2 : Nat) (u : Value) (hx : a.eval x = .slice (some ad) 1 c2) (hu : w.cell? ad = some u) (h1 : u.oneCell' = true) (h63 : n + 1 ≤ maxLen) (hbytes : (n + 1) * bytes ≤ 140737488355328) (hbase : B ≤ w.heap.size)
    (hK : ∀ p' c' w', w'.ownsRow B e 1 (.slice p' (n + 1) c') (n + 1) (xs ++ [u]) → w.grownBy w' (Value.ownBlock (.slice p n c)) → (Value.ownBlock (.slice p' (n + 1) c') = Value.ownBlock (.slice p n c) ∨ ∀ k, Value.ownBlock (.slice p' (n + 1) c') = some k → w.heap.size ≤ k) → K (a.put o.dst (.slice p' (n + 1) c')) w') :
    if Region.wanted o (yielded ops a.tmps) = true then Oper.wp Tryz.prog o a w K Q else E := by
  have hw : Region.wanted o (yielded ops a.tmps) = true := by simp [Region.wanted, hg]
  rw [if_pos hw]
  obtain ⟨p', c', w', hrun, r1, r2, r3⟩ := run_mine w B t o.type e i z bytes ht hi hz hsize hby hzs p n c xs hown ad c2 u hu h1 h63 hbytes hbase
  unfold Oper.wp
  simp [execOp, hop, resolve, invoke, builtin, hs, hx, hrun, Result.andThen]
  exact hK p' c' w' r1 r2 r3
/-- Rows of one's own, each in a block of its own. -/
def Rws (B : Nat) (wx : World) (vs : List Value) (ls : List (List ByteArray)) : Prop :=
  (∀ (k : Nat) (v : Value) (l : List ByteArray), vs[k]? = some v → ls[k]? = some l → wx.ownsRow B 9 1 v l.length (strV l)) ∧ ∀ (j k : Nat) (v u : Value) (b : Nat), vs[j]? = some v → vs[k]? = some u → v.ownBlock = some b → u.ownBlock = some b → j = k
theorem Rws.kept {B : Nat} {wx wy : World} {vs : List Value} {ls : List (List ByteArray)} (h : Rws B wx vs ls) (hg : wx.grownBy wy none) : Rws B wy vs ls :=
  ⟨fun k v l hv hl => (h.1 k v l hv hl).kept hg (by cases v.ownBlock with | none => exact .inl rfl | some b => exact .inr (by intro e; cases e)), h.2⟩
theorem Rws.setCell {B : Nat} {wx : World} {vs : List Value} {ls : List (List ByteArray)} (h : Rws B wx vs ls) {a : Addr} (ha : a.block < B) (u : Value) : Rws B (wx.setCell a u) vs ls :=
  ⟨fun k v l hv hl => ownsRow_setCell_below (h.1 k v l hv hl) ha u, h.2⟩
theorem Rws.push {B : Nat} {wx wy : World} {vs : List Value} {ls : List (List ByteArray)} (h : Rws B wx vs ls) (k : Nat) {v v' : Value} {l' : List ByteArray} (hv : vs[k]? = some v) (hown : wy.ownsRow B 9 1 v' l'.length (strV l')) (hg : wx.grownBy wy v.ownBlock)
    (hlt : ∀ (j : Nat) (u : Value) (b : Nat), vs[j]? = some u → u.ownBlock = some b → b < wx.heap.size) (hb : v'.ownBlock = v.ownBlock ∨ ∀ b, v'.ownBlock = some b → wx.heap.size ≤ b) : Rws B wy (vs.set k v') (ls.set k l') := by
  constructor
  · intro j u l hu hl
    by_cases hj : j = k
    · subst hj
      have hk := (List.getElem?_eq_some_iff.1 hv).1
      rw [List.getElem?_set_self hk] at hu
      injection hu with hu
      rw [List.getElem?_set] at hl
      simp only [if_true] at hl
      split at hl
      · injection hl with hl
        subst hu hl
        exact hown
      · cases hl
    · rw [List.getElem?_set_ne (fun e => hj e.symm)] at hu hl
      refine (h.1 j u l hu hl).kept hg ?_
      cases hub : u.ownBlock with
      | none => exact .inl rfl
      | some b => exact .inr (fun e => hj (h.2 j k u v b hu hv hub e.symm))
  · intro i j u x b hu hx hub hxb
    by_cases hi : i = k
    · by_cases hj : j = k
      · rw [hi, hj]
      · exfalso
        subst hi
        rw [List.getElem?_set_self (List.getElem?_eq_some_iff.1 hv).1] at hu
        injection hu with hu
        subst hu
        rw [List.getElem?_set_ne (fun e => hj e.symm)] at hx
        rcases hb with e | e
        · rw [e] at hub
          exact hj (h.2 j i x v b hx hv hxb hub)
        · have h1 := e b hub
          have h2 := hlt j x b hx hxb
          omega
    · rw [List.getElem?_set_ne (fun e => hi e.symm)] at hu
      by_cases hj : j = k
      · exfalso
        subst hj
        rw [List.getElem?_set_self (List.getElem?_eq_some_iff.1 hv).1] at hx
        injection hx with hx
        subst hx
        rcases hb with e | e
        · rw [e] at hxb
          exact hi (h.2 i j u v b hu hv hub hxb)
        · have h1 := e b hxb
          have h2 := hlt i u b hu hub
          omega
      · rw [List.getElem?_set_ne (fun e => hj e.symm)] at hx
        exact h.2 i j u x b hu hx hub hxb
/-- The answer's variable, the policy under way with its rows; what lay below is as it was. -/
def RR (w w2 : World) (vs : List Value) (ls : List (List ByteArray)) (A : Array Value) (wx : World) : Prop :=
  wx.heap[w.heap.size]? = some (.cells zeroP 25 (0, 0)) ∧ wx.heap[w.heap.size + 1]? = some (.cells A 25 (0, 0)) ∧ Rws w2.heap.size wx vs ls ∧ Below w.heap.size w wx ∧ w2.heap.size ≤ wx.heap.size ∧ ∀ k, k < w2.heap.size → k ≠ w.heap.size + 1 → wx.heap[k]? = w2.heap[k]?
theorem RR.keep {w w2 wx wy : World} {vs : List Value} {ls : List (List ByteArray)} {A : Array Value} (h : RR w w2 vs ls A wx) (hb : Below wx.heap.size wx wy) : RR w w2 vs ls A wy :=
  ⟨(hb.block _ (Array.getElem?_eq_some_iff.1 h.1).1).trans h.1, (hb.block _ (Array.getElem?_eq_some_iff.1 h.2.1).1).trans h.2.1, h.2.2.1.kept (below_grown hb), h.2.2.2.1.trans (hb.mono h.2.2.2.1.size), by have := hb.size; have := h.2.2.2.2.1; omega, fun k hk hn => (hb.block k (by have := h.2.2.2.2.1; omega)).trans (h.2.2.2.2.2 k hk hn)⟩
theorem RR.put {w w2 wx : World} {vs : List Value} {ls : List (List ByteArray)} {A : Array Value} (h : RR w w2 vs ls A wx) (h2 : w.heap.size + 2 ≤ w2.heap.size) (i : Nat) (v : Value) : RR w w2 vs ls (A.setIfInBounds i v) (wx.setCell ⟨w.heap.size + 1, i, none⟩ v) :=
  ⟨(Below.heap_setCell _ _ _ _ (by show w.heap.size ≠ w.heap.size + 1; omega)).trans h.1, heap_setCell_same wx _ i _ _ v h.2.1, h.2.2.1.setCell (by show w.heap.size + 1 < w2.heap.size; omega) v, h.2.2.2.1.setCell (by show w.heap.size ≤ w.heap.size + 1; omega) _, by have := h.2.2.2.2.1; simpa using this, fun k hk hn => (Below.heap_setCell _ _ _ _ (by show k ≠ w.heap.size + 1; omega)).trans (h.2.2.2.2.2 k hk hn)⟩
theorem RR.push {w w2 wx wy : World} {vs : List Value} {ls : List (List ByteArray)} {A : Array Value} (h : RR w w2 vs ls A wx) (h2 : w.heap.size + 2 ≤ w2.heap.size) (hll : ls.length = vs.length) (k : Nat) {v v' : Value} {l' : List ByteArray} (hv : vs[k]? = some v) (hown : wy.ownsRow w2.heap.size 9 1 v' l'.length (strV l')) (hg : wx.grownBy wy v.ownBlock)
    (hb : v'.ownBlock = v.ownBlock ∨ ∀ b, v'.ownBlock = some b → wx.heap.size ≤ b) : RR w w2 (vs.set k v') (ls.set k l') A wy := by
  have hlt : ∀ (j : Nat) (u : Value) (b : Nat), vs[j]? = some u → u.ownBlock = some b → w2.heap.size ≤ b ∧ b < wx.heap.size := fun j u b hu hub => by
    have hj := (List.getElem?_eq_some_iff.1 hu).1
    exact (h.2.2.1.1 j u _ hu (List.getElem?_eq_getElem (by rw [hll]; exact hj))).lt b hub
  have hst : ∀ k, k < w2.heap.size → wy.heap[k]? = wx.heap[k]? := fun j hj => hg.block j (by have := h.2.2.2.2.1; omega) (fun e => by
    have := (hlt k v j hv e.symm).1
    omega)
  refine ⟨(hst _ (by omega)).trans h.1, (hst _ (by omega)).trans h.2.1, h.2.2.1.push k hv hown hg (fun j u b hu hub => (hlt j u b hu hub).2) hb, h.2.2.2.1.grown hg h.2.2.2.1.size (fun b hb => ?_), by have := hg.size; have := h.2.2.2.2.1; omega, fun j hj hn => (hst j hj).trans (h.2.2.2.2.2 j hj hn)⟩
  have := (hlt k v b hv hb).1
  omega
end Go.Proofs.YtebcpmgooodmpaaGreatDoor

namespace Go.Proofs.YtebcpmgooodmpaaGreatDoor
open Go.RowKit
open Utf1 Pol8

theorem strs_off {wx : World} {v : Value} {ss : List ByteArray} (h : StrArg wx v ss) (hne : ss ≠ []) {g : Nat} {A : Array Value} {t : TypeId} (hg : wx.heap[g]? = some (.cells A t (0, 0))) (hA : ∀ (j : Nat) (y : ByteArray), A[j]? ≠ some (.string y)) :
    ∃ b off cap, v = .slice (some ⟨b, off, none⟩) ss.length cap ∧ b ≠ g ∧ b < wx.heap.size ∧ ∀ i y, ss[i]? = some y → wx.cell? ⟨b, off + i, none⟩ = some (.string y) := by
  obtain ⟨p, cap, rfl, h0, hc⟩ := h
  cases ss with
  | nil => exact absurd rfl hne
  | cons x r =>
    obtain ⟨b, off, rfl, h1⟩ := hc 0 x rfl
    refine ⟨b, off, cap, rfl, ?_, ?_, ?_⟩
    · intro e
      subst e
      unfold World.cell? at h1
      rw [hg] at h1
      exact hA _ _ h1
    · unfold World.cell? at h1
      by_cases hb : b < wx.heap.size
      · exact hb
      · rw [Array.getElem?_eq_none (by show wx.heap.size ≤ b; omega)] at h1
        cases h1
    · intro i y hi
      obtain ⟨b', off', e, h2⟩ := hc i y hi
      injection e with e
      injection e with e1 e2
      subst e1 e2
      exact h2
theorem noStr (e d n b : Int) (p1 p2 p3 p4 p5 : Option Addr) (n1 n2 n3 n4 n5 c1 c2 c3 c4 c5 : Nat) : ∀ (j : Nat) (y : ByteArray), (#[.int .i64 e, .slice p1 n1 c1, .slice p2 n2 c2, .slice p3 n3 c3, .slice p4 n4 c4, .slice p5 n5 c5, .int .i64 d, .int .i64 n, .int .i64 b] : Array Value)[j]? ≠ some (.string y) := by
  intro j y h
  have hm := Array.mem_of_getElem? h
  simp at hm
/-- What is held at the head of each round. -/
def RI (w w2 : World) (ss : L) (i : Nat) (p1 p2 p3 p4 p5 : Option Addr) (c1 c2 c3 c4 c5 : Nat) (l1 l2 l3 l4 l5 : List ByteArray) (Q : Pol) (wx : World) : Prop :=
  RR w w2 [.slice p1 (List.length l1) c1, .slice p2 (List.length l2) c2, .slice p3 (List.length l3) c3, .slice p4 (List.length l4) c4, .slice p5 (List.length l5) c5] [l1, l2, l3, l4, l5] #[.int .i64 Q.ep, .slice p1 (List.length l1) c1, .slice p2 (List.length l2) c2, .slice p3 (List.length l3) c3, .slice p4 (List.length l4) c4, .slice p5 (List.length l5) c5, .int .i64 Q.dp, .int .i64 Q.nd, .int .i64 Q.bt] wx ∧ l1.map bl = Q.el ∧ l2.map bl = Q.at_ ∧ l3.map bl = Q.sc ∧ l4.map bl = Q.cl ∧ l5.map bl = Q.pr ∧ Q = ((segs 10 ss).take i).foldl putL Pol.zero
theorem list4 {α : Type} {l : List α} (h : l.length = 4) : ∃ a b c d, l = [a, b, c, d] := by
  rcases l with _ | ⟨a, _ | ⟨b, _ | ⟨c, _ | ⟨d, _ | ⟨e, r⟩⟩⟩⟩⟩ <;> simp at h
  exact ⟨a, b, c, d, rfl⟩
theorem list2 {α : Type} {l : List α} (h : l.length = 2) : ∃ a b, l = [a, b] := by
  rcases l with _ | ⟨a, _ | ⟨b, _ | ⟨c, r⟩⟩⟩ <;> simp at h
  exact ⟨a, b, rfl⟩
theorem put_none (p : Pol) (w : List L) (h4 : w.length ≠ 4) (h2 : w.length ≠ 2) : put p w = p := by
  rcases w with _ | ⟨a, _ | ⟨b, _ | ⟨c, _ | ⟨d, _ | ⟨e, r⟩⟩⟩⟩⟩ <;> first | rfl | exact absurd rfl h4 | exact absurd rfl h2
set_option maxRecDepth 100000 in
set_option maxHeartbeats 32000000 in
theorem rread_any : RReadC := by
  intro s w hs hg
  obtain ⟨E0, hE0⟩ : ∃ E0 : Int, E0 = if (readP (bl s)).isSome = true then 0 else 2 := ⟨_, rfl⟩
  obtain ⟨P0, hP0⟩ : ∃ P0, P0 = (readP (bl s)).getD Pol.zero := ⟨_, rfl⟩
  rw [← hE0, ← hP0]
  have HE0 := hide hE0
  have HP0 := hide hP0
  clear hE0 hP0
  have HG := hide hg
  clear hg
  obtain ⟨i0, hi, hz0, hz1, hz2⟩ := info_parts infoStr
  obtain ⟨w1, hw1⟩ : ∃ w1, w1 = (w.alloc (.cells #[.int .i64 0, .slice none 0 0, .slice none 0 0, .slice none 0 0, .slice none 0 0, .slice none 0 0, .int .i64 0, .int .i64 0, .int .i64 0] 25)).alloc (.cells #[.int .i64 0, .slice none 0 0, .slice none 0 0, .slice none 0 0, .slice none 0 0, .slice none 0 0, .int .i64 0, .int .i64 0, .int .i64 0] 25) := ⟨_, rfl⟩
  have H1 : Hid (BoxQ w #[.int .i64 0, .slice none 0 0, .slice none 0 0, .slice none 0 0, .slice none 0 0, .slice none 0 0, .int .i64 0, .int .i64 0, .int .i64 0] #[.int .i64 0, .slice none 0 0, .slice none 0 0, .slice none 0 0, .slice none 0 0, .slice none 0 0, .int .i64 0, .int .i64 0, .int .i64 0] w1) := hide (by rw [hw1]; exact BoxQ.new _ _ _)
  have hsz1 : w1.heap.size = w.heap.size + 1 + 1 := by rw [hw1]; simp
  have C1 := hide (rcut_any 10 s (by omega) w1)
  rw [show (((10 : UInt8).toNat : Nat) : Int) = 10 from rfl] at C1
  go_enter Tryz.func39, Tryz.ntmps39
  go_upto_region 2 with fail
  rw [← hw1]
  clear hw1
  go_wp2_with fail
  refine C1.out.mono ?_
  rintro e w2 ⟨v, ls, rfl, hsa, hls, hb2⟩
  have H2 := hide (H1.out.keep hb2)
  have hsz2 : w.heap.size + 2 ≤ w2.heap.size := by have := hb2.size; omega
  have hne : ls ≠ [] := fun e => by rw [e] at hls; exact segs_ne _ _ hls.symm
  obtain ⟨b, off, cap, rfl, hbg, hbs, hcs⟩ := strs_off hsa hne H2.out.2.1 (noStr 0 0 0 0 none none none none none 0 0 0 0 0 0 0 0 0 0)
  have HLN := hide (And.intro hbg (And.intro hbs hcs))
  have HLS := hide hls
  have hln : ls.length ≤ 9001 := by
    have h := segs_count 10 (bl s)
    rw [← hls, List.length_map, bl_len] at h
    omega
  clear hsa hls hb2 hne hbg hbs hcs C1 H1 hsz1
  have HSZ2 := hide hsz2
  have HHS := hide hs
  clear hsz2 hs
  go_wp2_with fail
  go_loopg [6] ls.length (fun g v6 wr => ∃ (i : Nat) (p1 p2 p3 p4 p5 : Option Addr) (c1 c2 c3 c4 c5 : Nat) (l1 l2 l3 l4 l5 : List ByteArray) (Q : Pol), i + g = ls.length ∧ v6 = .int .i64 (i : Int) ∧ Hid (RI w w2 (bl s) i p1 p2 p3 p4 p5 c1 c2 c3 c4 c5 l1 l2 l3 l4 l5 Q wr))
  case atStart => exact ⟨0, none, none, none, none, none, 0, 0, 0, 0, 0, [], [], [], [], [], Pol.zero, by omega, rfl, hide ⟨⟨H2.out.1, H2.out.2.1, ⟨fun k v l hv hl => (by
      match k with
      | 0 | 1 | 2 | 3 | 4 => (injection hv with hv; injection hl with hl; subst hv hl; exact World.ownsRow_nil _ _ _ _)
      | k + 5 => cases hv), fun j k v u b hv _ hb _ => (by
      exfalso
      match j with
      | 0 | 1 | 2 | 3 | 4 => (injection hv with hv; subst hv; cases hb)
      | j + 5 => cases hv)⟩, H2.out.2.2, Nat.le_refl _, fun _ _ _ => rfl⟩, rfl, rfl, rfl, rfl, rfl, rfl⟩⟩
  case round =>
    obtain ⟨i, p1, p2, p3, p4, p5, c1, c2, c3, c4, c5, l1, l2, l3, l4, l5, Q, hig, rfl, HR⟩ := hrel
    have hle : i ≤ ls.length := by omega
    by_cases hlt : i < ls.length
    · obtain ⟨y, hy⟩ : ∃ y, ls[i]? = some y := ⟨_, List.getElem?_eq_getElem hlt⟩
      have hyz : y.size ≤ 100000 := by
        have hm : bl y ∈ segs 10 (bl s) := by rw [← HLS.out]; exact List.mem_map_of_mem (List.mem_of_getElem? hy)
        have h := seg_len 10 (bl s) (bl y) hm
        rw [bl_len, bl_len] at h
        have := HHS.out
        omega
      have yc : wr.cell? ⟨b, off + i, none⟩ = some (.string y) := (World.cell?_of_block (HR.out.1.2.2.2.2.2 b HLN.out.2.1 HLN.out.1)).trans (HLN.out.2.2 i y hy)
      have HN0 : Hid (((segs 10 (bl s)).take (i + 1)).foldl putL Pol.zero = put Q (segs 32 (bl y))) := hide (by
        have e : (segs 10 (bl s))[i]? = some (bl y) := by rw [← HLS.out, List.getElem?_map, hy]; rfl
        rw [List.take_add_one, e, List.foldl_append, ← HR.out.2.2.2.2.2.2]
        rfl)
      have C2 := hide (rcut_any 32 y hyz wr)
      rw [show (((32 : UInt8).toNat : Nat) : Int) = 32 from rfl] at C2
      clear hy
      have HYZ := hide hyz
      clear hyz
      have HUP : Hid (l1.length ≤ i ∧ l2.length ≤ i ∧ l3.length ≤ i ∧ l4.length ≤ i ∧ l5.length ≤ i) := hide (by
        have h := (upTo_iff _ _ _).1 (upTo_parse (bl s) i)
        rw [← HR.out.2.2.2.2.2.2, ← HR.out.2.1, ← HR.out.2.2.1, ← HR.out.2.2.2.1, ← HR.out.2.2.2.2.1, ← HR.out.2.2.2.2.2.1] at h
        simp only [List.length_map] at h
        exact ⟨h.1.1, h.2.1.1, h.2.2.1.1, h.2.2.2.1.1, h.2.2.2.2.1⟩)
      go_wp2_with fail
      refine C2.out.mono ?_
      rintro e w3 ⟨vw, ws, rfl, hwa, hws, hb3⟩
      have H3 := hide (HR.out.1.keep hb3)
      have HE := hide (And.intro HR.out.2.1 (And.intro HR.out.2.2.1 (And.intro HR.out.2.2.2.1 (And.intro HR.out.2.2.2.2.1 HR.out.2.2.2.2.2.1))))
      have hwne : ws ≠ [] := fun e => by rw [e] at hws; exact segs_ne _ _ hws.symm
      obtain ⟨bw, ow, cw, rfl, hbwg, hbws, hwc⟩ := strs_off hwa hwne H3.out.2.1 (noStr _ _ _ _ _ _ _ _ _ _ _ _ _ _ _ _ _ _ _)
      have HW := hide (And.intro hbwg (And.intro hbws hwc))
      have HN1 := hide HN0.out
      rw [← hws] at HN1
      have HWZ : Hid (∀ x ∈ ws, x.size ≤ 100000) := hide (fun x hx => by
        have h := seg_len 32 (bl y) (bl x) (by rw [← hws]; exact List.mem_map_of_mem hx)
        rw [bl_len, bl_len] at h
        have := HYZ.out
        omega)
      clear C2 HN0 hwa hws hwne hbwg hbws hwc HR yc hb3
      by_cases h4 : ws.length = 4
      · obtain ⟨a, x1, x2, x3, rfl⟩ := list4 h4
        have z0 : w3.cell? ⟨bw, ow, none⟩ = some (.string a) := HW.out.2.2 0 a rfl
        have z1 : w3.cell? ⟨bw, ow + 1, none⟩ = some (.string x1) := HW.out.2.2 1 x1 rfl
        clear h4
        by_cases hc : bl a = kCaps
        · have q : (a.toList == [99, 97, 112, 115]) = true := (eq_lit a [99, 97, 112, 115]).trans (by rw [hc]; rfl)
          have HN : Hid (({ Q with dp := num (bl x1), nd := num (bl x2), bt := num (bl x3) } : Pol) = ((segs 10 (bl s)).take (i + 1)).foldl putL Pol.zero) := hide (by
            rw [HN1.out]
            show _ = if bl a = kCaps then _ else _
            rw [if_pos hc])
          clear hc HN1
          have D1 := hide (rnumber_any x1 (HWZ.out x1 (by simp)) w3)
          go_wp2_with fail
          refine D1.out.mono ?_
          rintro e w3' ⟨rfl, rfl⟩
          clear D1
          have cw4 := tag_cell H3.out.2.1 6 _ rfl
          have uw4 := Go.Joins.unfrozen_of_block H3.out.2.1 6
          obtain ⟨w4, hw4⟩ : ∃ w4, w4 = w3'.setCell ⟨w.heap.size + 1, 6, none⟩ (.int .i64 (num (bl x1) : Int)) := ⟨_, rfl⟩
          have H4 : Hid (RR w w2 [.slice p1 (List.length l1) c1, .slice p2 (List.length l2) c2, .slice p3 (List.length l3) c3, .slice p4 (List.length l4) c4, .slice p5 (List.length l5) c5] [l1, l2, l3, l4, l5] #[.int .i64 Q.ep, .slice p1 (List.length l1) c1, .slice p2 (List.length l2) c2, .slice p3 (List.length l3) c3, .slice p4 (List.length l4) c4, .slice p5 (List.length l5) c5, .int .i64 (num (bl x1) : Int), .int .i64 Q.nd, .int .i64 Q.bt] w4) := hide (by rw [hw4]; exact H3.out.put HSZ2.out 6 (.int .i64 (num (bl x1) : Int)))
          have z2 : w4.cell? ⟨bw, ow + 2, none⟩ = some (.string x2) := (World.cell?_of_block (by rw [hw4]; exact Below.heap_setCell _ _ _ _ HW.out.1)).trans (HW.out.2.2 2 x2 rfl)
          have z3 : w4.cell? ⟨bw, ow + 3, none⟩ = some (.string x3) := (World.cell?_of_block (by rw [hw4]; exact Below.heap_setCell _ _ _ _ HW.out.1)).trans (HW.out.2.2 3 x3 rfl)
          go_upto_region 9 with fail
          rw [← hw4]
          clear hw4 cw4 uw4 z0 z1
          have D2 := hide (rnumber_any x2 (HWZ.out x2 (by simp)) w4)
          go_wp2_with fail
          refine D2.out.mono ?_
          rintro e w3b ⟨rfl, rfl⟩
          clear D2
          have cw5 := tag_cell H4.out.2.1 7 _ rfl
          have uw5 := Go.Joins.unfrozen_of_block H4.out.2.1 7
          obtain ⟨w5, hw5⟩ : ∃ w5, w5 = w3b.setCell ⟨w.heap.size + 1, 7, none⟩ (.int .i64 (num (bl x2) : Int)) := ⟨_, rfl⟩
          have H5 : Hid (RR w w2 [.slice p1 (List.length l1) c1, .slice p2 (List.length l2) c2, .slice p3 (List.length l3) c3, .slice p4 (List.length l4) c4, .slice p5 (List.length l5) c5] [l1, l2, l3, l4, l5] #[.int .i64 Q.ep, .slice p1 (List.length l1) c1, .slice p2 (List.length l2) c2, .slice p3 (List.length l3) c3, .slice p4 (List.length l4) c4, .slice p5 (List.length l5) c5, .int .i64 (num (bl x1) : Int), .int .i64 (num (bl x2) : Int), .int .i64 Q.bt] w5) := hide (by rw [hw5]; exact H4.out.put HSZ2.out 7 (.int .i64 (num (bl x2) : Int)))
          have z4 : w5.cell? ⟨bw, ow + 3, none⟩ = some (.string x3) := (World.cell?_of_block (by rw [hw5]; exact Below.heap_setCell _ _ _ _ HW.out.1)).trans z3
          go_upto_region 10 with fail
          rw [← hw5]
          clear hw5 cw5 uw5 z2 z3
          have D3 := hide (rnumber_any x3 (HWZ.out x3 (by simp)) w5)
          go_wp2_with fail
          refine D3.out.mono ?_
          rintro e w3c ⟨rfl, rfl⟩
          clear D3
          have cw6 := tag_cell H5.out.2.1 8 _ rfl
          have uw6 := Go.Joins.unfrozen_of_block H5.out.2.1 8
          obtain ⟨w6, hw6⟩ : ∃ w6, w6 = w3c.setCell ⟨w.heap.size + 1, 8, none⟩ (.int .i64 (num (bl x3) : Int)) := ⟨_, rfl⟩
          have H6 : Hid (RR w w2 [.slice p1 (List.length l1) c1, .slice p2 (List.length l2) c2, .slice p3 (List.length l3) c3, .slice p4 (List.length l4) c4, .slice p5 (List.length l5) c5] [l1, l2, l3, l4, l5] #[.int .i64 Q.ep, .slice p1 (List.length l1) c1, .slice p2 (List.length l2) c2, .slice p3 (List.length l3) c3, .slice p4 (List.length l4) c4, .slice p5 (List.length l5) c5, .int .i64 (num (bl x1) : Int), .int .i64 (num (bl x2) : Int), .int .i64 (num (bl x3) : Int)] w6) := hide (by rw [hw6]; exact H5.out.put HSZ2.out 8 (.int .i64 (num (bl x3) : Int)))
          go_upto_region 11 with fail
          rw [← hw6]
          clear hw6 cw6 uw6 z4
          go_wp2_with fail
          go_roundg (gk - 1)
          case measure => omega
          case rel => exact ⟨i + 1, p1, p2, p3, p4, p5, c1, c2, c3, c4, c5, l1, l2, l3, l4, l5, { Q with dp := num (bl x1), nd := num (bl x2), bt := num (bl x3) }, by omega, by first | rfl | simp, hide ⟨H6.out, HE.out.1, HE.out.2.1, HE.out.2.2.1, HE.out.2.2.2.1, HE.out.2.2.2.2, HN.out⟩⟩
        · have q : (a.toList == [99, 97, 112, 115]) = false := (eq_lit a [99, 97, 112, 115]).trans (by exact decide_eq_false hc)
          have HN : Hid (Q = ((segs 10 (bl s)).take (i + 1)).foldl putL Pol.zero) := hide (by
            rw [HN1.out]
            show _ = if bl a = kCaps then _ else _
            rw [if_neg hc])
          clear hc HN1
          go_wp2_with fail
          go_roundg (gk - 1)
          case measure => omega
          case rel => exact ⟨i + 1, p1, p2, p3, p4, p5, c1, c2, c3, c4, c5, l1, l2, l3, l4, l5, Q, by omega, by first | rfl | simp, hide ⟨H3.out, HE.out.1, HE.out.2.1, HE.out.2.2.1, HE.out.2.2.2.1, HE.out.2.2.2.2, HN.out⟩⟩

      · by_cases h2 : ws.length = 2
        · obtain ⟨a, x, rfl⟩ := list2 h2
          have z0 : w3.cell? ⟨bw, ow, none⟩ = some (.string a) := HW.out.2.2 0 a rfl
          have z1 : w3.cell? ⟨bw, ow + 1, none⟩ = some (.string x) := HW.out.2.2 1 x rfl
          clear h4 h2
          by_cases hk : bl a = kEpoch
          · have q0 : (a.toList == [101, 112, 111, 99, 104]) = true := (eq_lit a [101, 112, 111, 99, 104]).trans (by rw [hk]; rfl)
            have HN : Hid (({ Q with ep := num (bl x) } : Pol) = ((segs 10 (bl s)).take (i + 1)).foldl putL Pol.zero) := hide (by
              rw [HN1.out]
              show _ = put Q [bl a, bl x]
              rw [hk]
              rfl)
            clear hk HN1
            have D1 := hide (rnumber_any x (HWZ.out x (by simp)) w3)
            go_wp2_with fail
            refine D1.out.mono ?_
            rintro e w3b ⟨rfl, rfl⟩
            clear D1
            have cw4 := tag_cell H3.out.2.1 0 _ rfl
            have uw4 := Go.Joins.unfrozen_of_block H3.out.2.1 0
            obtain ⟨w4, hw4⟩ : ∃ w4, w4 = w3b.setCell ⟨w.heap.size + 1, 0, none⟩ (.int .i64 (num (bl x) : Int)) := ⟨_, rfl⟩
            have H4 : Hid (RR w w2 [.slice p1 (List.length l1) c1, .slice p2 (List.length l2) c2, .slice p3 (List.length l3) c3, .slice p4 (List.length l4) c4, .slice p5 (List.length l5) c5] [l1, l2, l3, l4, l5] #[.int .i64 (num (bl x) : Int), .slice p1 (List.length l1) c1, .slice p2 (List.length l2) c2, .slice p3 (List.length l3) c3, .slice p4 (List.length l4) c4, .slice p5 (List.length l5) c5, .int .i64 Q.dp, .int .i64 Q.nd, .int .i64 Q.bt] w4) := hide (by rw [hw4]; exact H3.out.put HSZ2.out 0 (.int .i64 (num (bl x) : Int)))
            go_upto_region 5 with fail
            rw [← hw4]
            clear hw4 cw4 uw4 z0 z1
            go_wp2_with fail
            go_roundg (gk - 1)
            case measure => omega
            case rel => exact ⟨i + 1, p1, p2, p3, p4, p5, c1, c2, c3, c4, c5, l1, l2, l3, l4, l5, { Q with ep := num (bl x) }, by omega, by first | rfl | simp, hide ⟨H4.out, HE.out.1, HE.out.2.1, HE.out.2.2.1, HE.out.2.2.2.1, HE.out.2.2.2.2, HN.out⟩⟩
          · have hk0 := hk
            clear hk
            by_cases hk : bl a = kElem
            · have q0 : (a.toList == [101, 112, 111, 99, 104]) = false := (eq_lit a [101, 112, 111, 99, 104]).trans (by rw [hk]; rfl)
              have q1 : (a.toList == [101, 108, 101, 109]) = true := (eq_lit a [101, 108, 101, 109]).trans (by rw [hk]; rfl)
              have HN : Hid (({ Q with el := Q.el ++ [bl x] } : Pol) = ((segs 10 (bl s)).take (i + 1)).foldl putL Pol.zero) := hide (by
                rw [HN1.out]
                show _ = put Q [bl a, bl x]
                rw [hk]
                rfl)
              clear hk HN1
              have HOW : Hid (((w3.alloc (.cells #[.string x] 9)).drew).ownsRow w2.heap.size 9 1 (.slice p1 (List.length l1) c1) (List.length l1) (strV l1)) := hide ((H3.out.2.2.1.1 0 _ _ rfl rfl).alloc _).drew
              have HCE : Hid (((w3.alloc (.cells #[.string x] 9)).drew).cell? ⟨w3.heap.size, 0, none⟩ = some (.string x)) := hide (show (w3.alloc (.cells #[.string x] 9)).cell? ⟨w3.heap.size, 0, none⟩ = some (.string x) from by simp)
              have H3D : Hid (RR w w2 [.slice p1 (List.length l1) c1, .slice p2 (List.length l2) c2, .slice p3 (List.length l3) c3, .slice p4 (List.length l4) c4, .slice p5 (List.length l5) c5] [l1, l2, l3, l4, l5] #[.int .i64 Q.ep, .slice p1 (List.length l1) c1, .slice p2 (List.length l2) c2, .slice p3 (List.length l3) c3, .slice p4 (List.length l4) c4, .slice p5 (List.length l5) c5, .int .i64 Q.dp, .int .i64 Q.nd, .int .i64 Q.bt] ((w3.alloc (.cells #[.string x] 9)).drew)) := hide (H3.out.keep (bel_alloc (Below.refl _ _) _).drew)
              have hlk : List.length l1 ≤ 9001 := by have := HUP.out; omega
              have cA := tag_cell H3.out.2.1 1 _ rfl
              have cB : (w3.alloc (.cells #[.string x] 9)).cell? ⟨w.heap.size + 1, 1, none⟩ = some (.slice p1 (List.length l1) c1) := tag_cell H3D.out.2.1 1 _ rfl
              go_wp2_with fail
              go_region_law (refine step_mine rfl (.tmp 63) (.tmp 67) 22 rfl w2.heap.size 9 i0 _ 16 Tryz.underlying22 hi hz0 hz1 hz2 rfl p1 (List.length l1) c1 (strV l1) rfl HOW.out ⟨w3.heap.size, 0, none⟩ 1 (.string x) rfl HCE.out (by simp [Value.oneCell']) (by unfold maxLen; omega) (by omega) H3D.out.2.2.2.2.1 ?_; intro p9 c9 w9 k1 k2 k3; have HX : Hid (RR w w2 [.slice p9 (List.length l1 + 1) c9, .slice p2 (List.length l2) c2, .slice p3 (List.length l3) c3, .slice p4 (List.length l4) c4, .slice p5 (List.length l5) c5] [l1 ++ [x], l2, l3, l4, l5] #[.int .i64 Q.ep, .slice p1 (List.length l1) c1, .slice p2 (List.length l2) c2, .slice p3 (List.length l3) c3, .slice p4 (List.length l4) c4, .slice p5 (List.length l5) c5, .int .i64 Q.dp, .int .i64 Q.nd, .int .i64 Q.bt] w9) := hide (H3D.out.push HSZ2.out rfl 0 rfl (l' := l1 ++ [x]) (by rw [strV_app, List.length_append]; exact k1) k2 k3); have f1 := tag_cell HX.out.2.1 1 _ rfl; have f2 := Go.Joins.unfrozen_of_block HX.out.2.1 1; clear k1 k2 k3)
              all_goals
                obtain ⟨w5, hw5⟩ : ∃ w5, w5 = w9.setCell ⟨w.heap.size + 1, 1, none⟩ (.slice p9 (List.length l1 + 1) c9) := ⟨_, rfl⟩
                have H6 : Hid (RR w w2 [.slice p9 (List.length (l1 ++ [x])) c9, .slice p2 (List.length l2) c2, .slice p3 (List.length l3) c3, .slice p4 (List.length l4) c4, .slice p5 (List.length l5) c5] [l1 ++ [x], l2, l3, l4, l5] #[.int .i64 Q.ep, .slice p9 (List.length (l1 ++ [x])) c9, .slice p2 (List.length l2) c2, .slice p3 (List.length l3) c3, .slice p4 (List.length l4) c4, .slice p5 (List.length l5) c5, .int .i64 Q.dp, .int .i64 Q.nd, .int .i64 Q.bt] w5) := hide (by
                  have e : List.length l1 + 1 = List.length (l1 ++ [x]) := by simp
                  rw [hw5, ← e]
                  exact HX.out.put HSZ2.out 1 _)
                rw [← hw5]
                clear hw5 f1 f2 HX cA cB HOW HCE H3D
                go_wp2_with fail
                go_roundg (gk - 1)
                case measure => omega
                case rel => exact ⟨i + 1, p9, p2, p3, p4, p5, c9, c2, c3, c4, c5, l1 ++ [x], l2, l3, l4, l5, { Q with el := Q.el ++ [bl x] }, by omega, by first | rfl | simp, hide ⟨H6.out, (by rw [List.map_append, HE.out.1]; rfl), HE.out.2.1, HE.out.2.2.1, HE.out.2.2.2.1, HE.out.2.2.2.2, HN.out⟩⟩
            · have hk1 := hk
              clear hk
              by_cases hk : bl a = kAttr
              · have q0 : (a.toList == [101, 112, 111, 99, 104]) = false := (eq_lit a [101, 112, 111, 99, 104]).trans (by rw [hk]; rfl)
                have q1 : (a.toList == [101, 108, 101, 109]) = false := (eq_lit a [101, 108, 101, 109]).trans (by rw [hk]; rfl)
                have q2 : (a.toList == [97, 116, 116, 114]) = true := (eq_lit a [97, 116, 116, 114]).trans (by rw [hk]; rfl)
                have HN : Hid (({ Q with at_ := Q.at_ ++ [bl x] } : Pol) = ((segs 10 (bl s)).take (i + 1)).foldl putL Pol.zero) := hide (by
                  rw [HN1.out]
                  show _ = put Q [bl a, bl x]
                  rw [hk]
                  rfl)
                clear hk HN1
                have HOW : Hid (((w3.alloc (.cells #[.string x] 9)).drew).ownsRow w2.heap.size 9 1 (.slice p2 (List.length l2) c2) (List.length l2) (strV l2)) := hide ((H3.out.2.2.1.1 1 _ _ rfl rfl).alloc _).drew
                have HCE : Hid (((w3.alloc (.cells #[.string x] 9)).drew).cell? ⟨w3.heap.size, 0, none⟩ = some (.string x)) := hide (show (w3.alloc (.cells #[.string x] 9)).cell? ⟨w3.heap.size, 0, none⟩ = some (.string x) from by simp)
                have H3D : Hid (RR w w2 [.slice p1 (List.length l1) c1, .slice p2 (List.length l2) c2, .slice p3 (List.length l3) c3, .slice p4 (List.length l4) c4, .slice p5 (List.length l5) c5] [l1, l2, l3, l4, l5] #[.int .i64 Q.ep, .slice p1 (List.length l1) c1, .slice p2 (List.length l2) c2, .slice p3 (List.length l3) c3, .slice p4 (List.length l4) c4, .slice p5 (List.length l5) c5, .int .i64 Q.dp, .int .i64 Q.nd, .int .i64 Q.bt] ((w3.alloc (.cells #[.string x] 9)).drew)) := hide (H3.out.keep (bel_alloc (Below.refl _ _) _).drew)
                have hlk : List.length l2 ≤ 9001 := by have := HUP.out; omega
                have cA := tag_cell H3.out.2.1 2 _ rfl
                have cB : (w3.alloc (.cells #[.string x] 9)).cell? ⟨w.heap.size + 1, 2, none⟩ = some (.slice p2 (List.length l2) c2) := tag_cell H3D.out.2.1 2 _ rfl
                go_wp2_with fail
                go_region_law (refine step_mine rfl (.tmp 73) (.tmp 77) 22 rfl w2.heap.size 9 i0 _ 16 Tryz.underlying22 hi hz0 hz1 hz2 rfl p2 (List.length l2) c2 (strV l2) rfl HOW.out ⟨w3.heap.size, 0, none⟩ 1 (.string x) rfl HCE.out (by simp [Value.oneCell']) (by unfold maxLen; omega) (by omega) H3D.out.2.2.2.2.1 ?_; intro p9 c9 w9 k1 k2 k3; have HX : Hid (RR w w2 [.slice p1 (List.length l1) c1, .slice p9 (List.length l2 + 1) c9, .slice p3 (List.length l3) c3, .slice p4 (List.length l4) c4, .slice p5 (List.length l5) c5] [l1, l2 ++ [x], l3, l4, l5] #[.int .i64 Q.ep, .slice p1 (List.length l1) c1, .slice p2 (List.length l2) c2, .slice p3 (List.length l3) c3, .slice p4 (List.length l4) c4, .slice p5 (List.length l5) c5, .int .i64 Q.dp, .int .i64 Q.nd, .int .i64 Q.bt] w9) := hide (H3D.out.push HSZ2.out rfl 1 rfl (l' := l2 ++ [x]) (by rw [strV_app, List.length_append]; exact k1) k2 k3); have f1 := tag_cell HX.out.2.1 2 _ rfl; have f2 := Go.Joins.unfrozen_of_block HX.out.2.1 2; clear k1 k2 k3)
                all_goals
                  obtain ⟨w5, hw5⟩ : ∃ w5, w5 = w9.setCell ⟨w.heap.size + 1, 2, none⟩ (.slice p9 (List.length l2 + 1) c9) := ⟨_, rfl⟩
                  have H6 : Hid (RR w w2 [.slice p1 (List.length l1) c1, .slice p9 (List.length (l2 ++ [x])) c9, .slice p3 (List.length l3) c3, .slice p4 (List.length l4) c4, .slice p5 (List.length l5) c5] [l1, l2 ++ [x], l3, l4, l5] #[.int .i64 Q.ep, .slice p1 (List.length l1) c1, .slice p9 (List.length (l2 ++ [x])) c9, .slice p3 (List.length l3) c3, .slice p4 (List.length l4) c4, .slice p5 (List.length l5) c5, .int .i64 Q.dp, .int .i64 Q.nd, .int .i64 Q.bt] w5) := hide (by
                    have e : List.length l2 + 1 = List.length (l2 ++ [x]) := by simp
                    rw [hw5, ← e]
                    exact HX.out.put HSZ2.out 2 _)
                  rw [← hw5]
                  clear hw5 f1 f2 HX cA cB HOW HCE H3D
                  go_wp2_with fail
                  go_roundg (gk - 1)
                  case measure => omega
                  case rel => exact ⟨i + 1, p1, p9, p3, p4, p5, c1, c9, c3, c4, c5, l1, l2 ++ [x], l3, l4, l5, { Q with at_ := Q.at_ ++ [bl x] }, by omega, by first | rfl | simp, hide ⟨H6.out, HE.out.1, (by rw [List.map_append, HE.out.2.1]; rfl), HE.out.2.2.1, HE.out.2.2.2.1, HE.out.2.2.2.2, HN.out⟩⟩
              · have hk2 := hk
                clear hk
                by_cases hk : bl a = kScheme
                · have q0 : (a.toList == [101, 112, 111, 99, 104]) = false := (eq_lit a [101, 112, 111, 99, 104]).trans (by rw [hk]; rfl)
                  have q1 : (a.toList == [101, 108, 101, 109]) = false := (eq_lit a [101, 108, 101, 109]).trans (by rw [hk]; rfl)
                  have q2 : (a.toList == [97, 116, 116, 114]) = false := (eq_lit a [97, 116, 116, 114]).trans (by rw [hk]; rfl)
                  have q3 : (a.toList == [115, 99, 104, 101, 109, 101]) = true := (eq_lit a [115, 99, 104, 101, 109, 101]).trans (by rw [hk]; rfl)
                  have HN : Hid (({ Q with sc := Q.sc ++ [bl x] } : Pol) = ((segs 10 (bl s)).take (i + 1)).foldl putL Pol.zero) := hide (by
                    rw [HN1.out]
                    show _ = put Q [bl a, bl x]
                    rw [hk]
                    rfl)
                  clear hk HN1
                  have HOW : Hid (((w3.alloc (.cells #[.string x] 9)).drew).ownsRow w2.heap.size 9 1 (.slice p3 (List.length l3) c3) (List.length l3) (strV l3)) := hide ((H3.out.2.2.1.1 2 _ _ rfl rfl).alloc _).drew
                  have HCE : Hid (((w3.alloc (.cells #[.string x] 9)).drew).cell? ⟨w3.heap.size, 0, none⟩ = some (.string x)) := hide (show (w3.alloc (.cells #[.string x] 9)).cell? ⟨w3.heap.size, 0, none⟩ = some (.string x) from by simp)
                  have H3D : Hid (RR w w2 [.slice p1 (List.length l1) c1, .slice p2 (List.length l2) c2, .slice p3 (List.length l3) c3, .slice p4 (List.length l4) c4, .slice p5 (List.length l5) c5] [l1, l2, l3, l4, l5] #[.int .i64 Q.ep, .slice p1 (List.length l1) c1, .slice p2 (List.length l2) c2, .slice p3 (List.length l3) c3, .slice p4 (List.length l4) c4, .slice p5 (List.length l5) c5, .int .i64 Q.dp, .int .i64 Q.nd, .int .i64 Q.bt] ((w3.alloc (.cells #[.string x] 9)).drew)) := hide (H3.out.keep (bel_alloc (Below.refl _ _) _).drew)
                  have hlk : List.length l3 ≤ 9001 := by have := HUP.out; omega
                  have cA := tag_cell H3.out.2.1 3 _ rfl
                  have cB : (w3.alloc (.cells #[.string x] 9)).cell? ⟨w.heap.size + 1, 3, none⟩ = some (.slice p3 (List.length l3) c3) := tag_cell H3D.out.2.1 3 _ rfl
                  go_wp2_with fail
                  go_region_law (refine step_mine rfl (.tmp 83) (.tmp 87) 22 rfl w2.heap.size 9 i0 _ 16 Tryz.underlying22 hi hz0 hz1 hz2 rfl p3 (List.length l3) c3 (strV l3) rfl HOW.out ⟨w3.heap.size, 0, none⟩ 1 (.string x) rfl HCE.out (by simp [Value.oneCell']) (by unfold maxLen; omega) (by omega) H3D.out.2.2.2.2.1 ?_; intro p9 c9 w9 k1 k2 k3; have HX : Hid (RR w w2 [.slice p1 (List.length l1) c1, .slice p2 (List.length l2) c2, .slice p9 (List.length l3 + 1) c9, .slice p4 (List.length l4) c4, .slice p5 (List.length l5) c5] [l1, l2, l3 ++ [x], l4, l5] #[.int .i64 Q.ep, .slice p1 (List.length l1) c1, .slice p2 (List.length l2) c2, .slice p3 (List.length l3) c3, .slice p4 (List.length l4) c4, .slice p5 (List.length l5) c5, .int .i64 Q.dp, .int .i64 Q.nd, .int .i64 Q.bt] w9) := hide (H3D.out.push HSZ2.out rfl 2 rfl (l' := l3 ++ [x]) (by rw [strV_app, List.length_append]; exact k1) k2 k3); have f1 := tag_cell HX.out.2.1 3 _ rfl; have f2 := Go.Joins.unfrozen_of_block HX.out.2.1 3; clear k1 k2 k3)
                  all_goals
                    obtain ⟨w5, hw5⟩ : ∃ w5, w5 = w9.setCell ⟨w.heap.size + 1, 3, none⟩ (.slice p9 (List.length l3 + 1) c9) := ⟨_, rfl⟩
                    have H6 : Hid (RR w w2 [.slice p1 (List.length l1) c1, .slice p2 (List.length l2) c2, .slice p9 (List.length (l3 ++ [x])) c9, .slice p4 (List.length l4) c4, .slice p5 (List.length l5) c5] [l1, l2, l3 ++ [x], l4, l5] #[.int .i64 Q.ep, .slice p1 (List.length l1) c1, .slice p2 (List.length l2) c2, .slice p9 (List.length (l3 ++ [x])) c9, .slice p4 (List.length l4) c4, .slice p5 (List.length l5) c5, .int .i64 Q.dp, .int .i64 Q.nd, .int .i64 Q.bt] w5) := hide (by
                      have e : List.length l3 + 1 = List.length (l3 ++ [x]) := by simp
                      rw [hw5, ← e]
                      exact HX.out.put HSZ2.out 3 _)
                    rw [← hw5]
                    clear hw5 f1 f2 HX cA cB HOW HCE H3D
                    go_wp2_with fail
                    go_roundg (gk - 1)
                    case measure => omega
                    case rel => exact ⟨i + 1, p1, p2, p9, p4, p5, c1, c2, c9, c4, c5, l1, l2, l3 ++ [x], l4, l5, { Q with sc := Q.sc ++ [bl x] }, by omega, by first | rfl | simp, hide ⟨H6.out, HE.out.1, HE.out.2.1, (by rw [List.map_append, HE.out.2.2.1]; rfl), HE.out.2.2.2.1, HE.out.2.2.2.2, HN.out⟩⟩
                · have hk3 := hk
                  clear hk
                  by_cases hk : bl a = kClass
                  · have q0 : (a.toList == [101, 112, 111, 99, 104]) = false := (eq_lit a [101, 112, 111, 99, 104]).trans (by rw [hk]; rfl)
                    have q1 : (a.toList == [101, 108, 101, 109]) = false := (eq_lit a [101, 108, 101, 109]).trans (by rw [hk]; rfl)
                    have q2 : (a.toList == [97, 116, 116, 114]) = false := (eq_lit a [97, 116, 116, 114]).trans (by rw [hk]; rfl)
                    have q3 : (a.toList == [115, 99, 104, 101, 109, 101]) = false := (eq_lit a [115, 99, 104, 101, 109, 101]).trans (by rw [hk]; rfl)
                    have q4 : (a.toList == [99, 108, 97, 115, 115]) = true := (eq_lit a [99, 108, 97, 115, 115]).trans (by rw [hk]; rfl)
                    have HN : Hid (({ Q with cl := Q.cl ++ [bl x] } : Pol) = ((segs 10 (bl s)).take (i + 1)).foldl putL Pol.zero) := hide (by
                      rw [HN1.out]
                      show _ = put Q [bl a, bl x]
                      rw [hk]
                      rfl)
                    clear hk HN1
                    have HOW : Hid (((w3.alloc (.cells #[.string x] 9)).drew).ownsRow w2.heap.size 9 1 (.slice p4 (List.length l4) c4) (List.length l4) (strV l4)) := hide ((H3.out.2.2.1.1 3 _ _ rfl rfl).alloc _).drew
                    have HCE : Hid (((w3.alloc (.cells #[.string x] 9)).drew).cell? ⟨w3.heap.size, 0, none⟩ = some (.string x)) := hide (show (w3.alloc (.cells #[.string x] 9)).cell? ⟨w3.heap.size, 0, none⟩ = some (.string x) from by simp)
                    have H3D : Hid (RR w w2 [.slice p1 (List.length l1) c1, .slice p2 (List.length l2) c2, .slice p3 (List.length l3) c3, .slice p4 (List.length l4) c4, .slice p5 (List.length l5) c5] [l1, l2, l3, l4, l5] #[.int .i64 Q.ep, .slice p1 (List.length l1) c1, .slice p2 (List.length l2) c2, .slice p3 (List.length l3) c3, .slice p4 (List.length l4) c4, .slice p5 (List.length l5) c5, .int .i64 Q.dp, .int .i64 Q.nd, .int .i64 Q.bt] ((w3.alloc (.cells #[.string x] 9)).drew)) := hide (H3.out.keep (bel_alloc (Below.refl _ _) _).drew)
                    have hlk : List.length l4 ≤ 9001 := by have := HUP.out; omega
                    have cA := tag_cell H3.out.2.1 4 _ rfl
                    have cB : (w3.alloc (.cells #[.string x] 9)).cell? ⟨w.heap.size + 1, 4, none⟩ = some (.slice p4 (List.length l4) c4) := tag_cell H3D.out.2.1 4 _ rfl
                    go_wp2_with fail
                    go_region_law (refine step_mine rfl (.tmp 93) (.tmp 97) 22 rfl w2.heap.size 9 i0 _ 16 Tryz.underlying22 hi hz0 hz1 hz2 rfl p4 (List.length l4) c4 (strV l4) rfl HOW.out ⟨w3.heap.size, 0, none⟩ 1 (.string x) rfl HCE.out (by simp [Value.oneCell']) (by unfold maxLen; omega) (by omega) H3D.out.2.2.2.2.1 ?_; intro p9 c9 w9 k1 k2 k3; have HX : Hid (RR w w2 [.slice p1 (List.length l1) c1, .slice p2 (List.length l2) c2, .slice p3 (List.length l3) c3, .slice p9 (List.length l4 + 1) c9, .slice p5 (List.length l5) c5] [l1, l2, l3, l4 ++ [x], l5] #[.int .i64 Q.ep, .slice p1 (List.length l1) c1, .slice p2 (List.length l2) c2, .slice p3 (List.length l3) c3, .slice p4 (List.length l4) c4, .slice p5 (List.length l5) c5, .int .i64 Q.dp, .int .i64 Q.nd, .int .i64 Q.bt] w9) := hide (H3D.out.push HSZ2.out rfl 3 rfl (l' := l4 ++ [x]) (by rw [strV_app, List.length_append]; exact k1) k2 k3); have f1 := tag_cell HX.out.2.1 4 _ rfl; have f2 := Go.Joins.unfrozen_of_block HX.out.2.1 4; clear k1 k2 k3)
                    all_goals
                      obtain ⟨w5, hw5⟩ : ∃ w5, w5 = w9.setCell ⟨w.heap.size + 1, 4, none⟩ (.slice p9 (List.length l4 + 1) c9) := ⟨_, rfl⟩
                      have H6 : Hid (RR w w2 [.slice p1 (List.length l1) c1, .slice p2 (List.length l2) c2, .slice p3 (List.length l3) c3, .slice p9 (List.length (l4 ++ [x])) c9, .slice p5 (List.length l5) c5] [l1, l2, l3, l4 ++ [x], l5] #[.int .i64 Q.ep, .slice p1 (List.length l1) c1, .slice p2 (List.length l2) c2, .slice p3 (List.length l3) c3, .slice p9 (List.length (l4 ++ [x])) c9, .slice p5 (List.length l5) c5, .int .i64 Q.dp, .int .i64 Q.nd, .int .i64 Q.bt] w5) := hide (by
                        have e : List.length l4 + 1 = List.length (l4 ++ [x]) := by simp
                        rw [hw5, ← e]
                        exact HX.out.put HSZ2.out 4 _)
                      rw [← hw5]
                      clear hw5 f1 f2 HX cA cB HOW HCE H3D
                      go_wp2_with fail
                      go_roundg (gk - 1)
                      case measure => omega
                      case rel => exact ⟨i + 1, p1, p2, p3, p9, p5, c1, c2, c3, c9, c5, l1, l2, l3, l4 ++ [x], l5, { Q with cl := Q.cl ++ [bl x] }, by omega, by first | rfl | simp, hide ⟨H6.out, HE.out.1, HE.out.2.1, HE.out.2.2.1, (by rw [List.map_append, HE.out.2.2.2.1]; rfl), HE.out.2.2.2.2, HN.out⟩⟩
                  · have hk4 := hk
                    clear hk
                    by_cases hk : bl a = kProp
                    · have q0 : (a.toList == [101, 112, 111, 99, 104]) = false := (eq_lit a [101, 112, 111, 99, 104]).trans (by rw [hk]; rfl)
                      have q1 : (a.toList == [101, 108, 101, 109]) = false := (eq_lit a [101, 108, 101, 109]).trans (by rw [hk]; rfl)
                      have q2 : (a.toList == [97, 116, 116, 114]) = false := (eq_lit a [97, 116, 116, 114]).trans (by rw [hk]; rfl)
                      have q3 : (a.toList == [115, 99, 104, 101, 109, 101]) = false := (eq_lit a [115, 99, 104, 101, 109, 101]).trans (by rw [hk]; rfl)
                      have q4 : (a.toList == [99, 108, 97, 115, 115]) = false := (eq_lit a [99, 108, 97, 115, 115]).trans (by rw [hk]; rfl)
                      have q5 : (a.toList == [112, 114, 111, 112]) = true := (eq_lit a [112, 114, 111, 112]).trans (by rw [hk]; rfl)
                      have HN : Hid (({ Q with pr := Q.pr ++ [bl x] } : Pol) = ((segs 10 (bl s)).take (i + 1)).foldl putL Pol.zero) := hide (by
                        rw [HN1.out]
                        show _ = put Q [bl a, bl x]
                        rw [hk]
                        rfl)
                      clear hk HN1
                      have HOW : Hid (((w3.alloc (.cells #[.string x] 9)).drew).ownsRow w2.heap.size 9 1 (.slice p5 (List.length l5) c5) (List.length l5) (strV l5)) := hide ((H3.out.2.2.1.1 4 _ _ rfl rfl).alloc _).drew
                      have HCE : Hid (((w3.alloc (.cells #[.string x] 9)).drew).cell? ⟨w3.heap.size, 0, none⟩ = some (.string x)) := hide (show (w3.alloc (.cells #[.string x] 9)).cell? ⟨w3.heap.size, 0, none⟩ = some (.string x) from by simp)
                      have H3D : Hid (RR w w2 [.slice p1 (List.length l1) c1, .slice p2 (List.length l2) c2, .slice p3 (List.length l3) c3, .slice p4 (List.length l4) c4, .slice p5 (List.length l5) c5] [l1, l2, l3, l4, l5] #[.int .i64 Q.ep, .slice p1 (List.length l1) c1, .slice p2 (List.length l2) c2, .slice p3 (List.length l3) c3, .slice p4 (List.length l4) c4, .slice p5 (List.length l5) c5, .int .i64 Q.dp, .int .i64 Q.nd, .int .i64 Q.bt] ((w3.alloc (.cells #[.string x] 9)).drew)) := hide (H3.out.keep (bel_alloc (Below.refl _ _) _).drew)
                      have hlk : List.length l5 ≤ 9001 := by have := HUP.out; omega
                      have cA := tag_cell H3.out.2.1 5 _ rfl
                      have cB : (w3.alloc (.cells #[.string x] 9)).cell? ⟨w.heap.size + 1, 5, none⟩ = some (.slice p5 (List.length l5) c5) := tag_cell H3D.out.2.1 5 _ rfl
                      go_wp2_with fail
                      go_region_law (refine step_mine rfl (.tmp 103) (.tmp 107) 22 rfl w2.heap.size 9 i0 _ 16 Tryz.underlying22 hi hz0 hz1 hz2 rfl p5 (List.length l5) c5 (strV l5) rfl HOW.out ⟨w3.heap.size, 0, none⟩ 1 (.string x) rfl HCE.out (by simp [Value.oneCell']) (by unfold maxLen; omega) (by omega) H3D.out.2.2.2.2.1 ?_; intro p9 c9 w9 k1 k2 k3; have HX : Hid (RR w w2 [.slice p1 (List.length l1) c1, .slice p2 (List.length l2) c2, .slice p3 (List.length l3) c3, .slice p4 (List.length l4) c4, .slice p9 (List.length l5 + 1) c9] [l1, l2, l3, l4, l5 ++ [x]] #[.int .i64 Q.ep, .slice p1 (List.length l1) c1, .slice p2 (List.length l2) c2, .slice p3 (List.length l3) c3, .slice p4 (List.length l4) c4, .slice p5 (List.length l5) c5, .int .i64 Q.dp, .int .i64 Q.nd, .int .i64 Q.bt] w9) := hide (H3D.out.push HSZ2.out rfl 4 rfl (l' := l5 ++ [x]) (by rw [strV_app, List.length_append]; exact k1) k2 k3); have f1 := tag_cell HX.out.2.1 5 _ rfl; have f2 := Go.Joins.unfrozen_of_block HX.out.2.1 5; clear k1 k2 k3)
                      all_goals
                        obtain ⟨w5, hw5⟩ : ∃ w5, w5 = w9.setCell ⟨w.heap.size + 1, 5, none⟩ (.slice p9 (List.length l5 + 1) c9) := ⟨_, rfl⟩
                        have H6 : Hid (RR w w2 [.slice p1 (List.length l1) c1, .slice p2 (List.length l2) c2, .slice p3 (List.length l3) c3, .slice p4 (List.length l4) c4, .slice p9 (List.length (l5 ++ [x])) c9] [l1, l2, l3, l4, l5 ++ [x]] #[.int .i64 Q.ep, .slice p1 (List.length l1) c1, .slice p2 (List.length l2) c2, .slice p3 (List.length l3) c3, .slice p4 (List.length l4) c4, .slice p9 (List.length (l5 ++ [x])) c9, .int .i64 Q.dp, .int .i64 Q.nd, .int .i64 Q.bt] w5) := hide (by
                          have e : List.length l5 + 1 = List.length (l5 ++ [x]) := by simp
                          rw [hw5, ← e]
                          exact HX.out.put HSZ2.out 5 _)
                        rw [← hw5]
                        clear hw5 f1 f2 HX cA cB HOW HCE H3D
                        go_wp2_with fail
                        go_roundg (gk - 1)
                        case measure => omega
                        case rel => exact ⟨i + 1, p1, p2, p3, p4, p9, c1, c2, c3, c4, c9, l1, l2, l3, l4, l5 ++ [x], { Q with pr := Q.pr ++ [bl x] }, by omega, by first | rfl | simp, hide ⟨H6.out, HE.out.1, HE.out.2.1, HE.out.2.2.1, HE.out.2.2.2.1, (by rw [List.map_append, HE.out.2.2.2.2]; rfl), HN.out⟩⟩
                    · have hk5 := hk
                      clear hk
                      have q0 : (a.toList == [101, 112, 111, 99, 104]) = false := (eq_lit a [101, 112, 111, 99, 104]).trans (by exact decide_eq_false hk0)
                      have q1 : (a.toList == [101, 108, 101, 109]) = false := (eq_lit a [101, 108, 101, 109]).trans (by exact decide_eq_false hk1)
                      have q2 : (a.toList == [97, 116, 116, 114]) = false := (eq_lit a [97, 116, 116, 114]).trans (by exact decide_eq_false hk2)
                      have q3 : (a.toList == [115, 99, 104, 101, 109, 101]) = false := (eq_lit a [115, 99, 104, 101, 109, 101]).trans (by exact decide_eq_false hk3)
                      have q4 : (a.toList == [99, 108, 97, 115, 115]) = false := (eq_lit a [99, 108, 97, 115, 115]).trans (by exact decide_eq_false hk4)
                      have q5 : (a.toList == [112, 114, 111, 112]) = false := (eq_lit a [112, 114, 111, 112]).trans (by exact decide_eq_false hk5)
                      have HN : Hid (Q = ((segs 10 (bl s)).take (i + 1)).foldl putL Pol.zero) := hide (by
                        rw [HN1.out]
                        show _ = if bl a = kEpoch then _ else if bl a = kElem then _ else if bl a = kAttr then _ else if bl a = kScheme then _ else if bl a = kClass then _ else if bl a = kProp then _ else _
                        rw [if_neg hk0, if_neg hk1, if_neg hk2, if_neg hk3, if_neg hk4, if_neg hk5])
                      clear HN1 hk0 hk1 hk2 hk3 hk4 hk5
                      go_wp2_with fail
                      go_roundg (gk - 1)
                      case measure => omega
                      case rel => exact ⟨i + 1, p1, p2, p3, p4, p5, c1, c2, c3, c4, c5, l1, l2, l3, l4, l5, Q, by omega, by first | rfl | simp, hide ⟨H3.out, HE.out.1, HE.out.2.1, HE.out.2.2.1, HE.out.2.2.2.1, HE.out.2.2.2.2, HN.out⟩⟩
        · have k4 : ((ws.length : Int) == 4) = false := beq_eq_false_iff_ne.2 (by omega)
          have k2 : ((ws.length : Int) == 2) = false := beq_eq_false_iff_ne.2 (by omega)
          have k2' : ((ws.length : Int) != 2) = true := by rw [bne, k2]; rfl
          have HN : Hid (Q = ((segs 10 (bl s)).take (i + 1)).foldl putL Pol.zero) := hide (by
            rw [HN1.out, put_none Q _ (by rw [List.length_map]; exact h4) (by rw [List.length_map]; exact h2)])
          clear HN1 h4 h2
          go_wp2_with fail
          go_roundg (gk - 1)
          case measure => omega
          case rel => exact ⟨i + 1, p1, p2, p3, p4, p5, c1, c2, c3, c4, c5, l1, l2, l3, l4, l5, Q, by omega, by first | rfl | simp, hide ⟨H3.out, HE.out.1, HE.out.2.1, HE.out.2.2.1, HE.out.2.2.2.1, HE.out.2.2.2.2, HN.out⟩⟩

    · have hi' : i = ls.length := by omega
      have hq : Q = parse (bl s) := by
        have h := HR.out.2.2.2.2.2.2
        rw [List.take_of_length_le (by rw [← HLS.out, List.length_map]; omega)] at h
        exact h
      have HFQ : Hid (fits Q) := hide (by rw [hq]; exact parse_fits _ (by rw [bl_len]; have := HHS.out; omega))
      have HP : Hid (readP (bl s) = if right Q = true ∧ text Q = bl s then some Q else none) := hide (by rw [hq]; rfl)
      clear hq hig hi' hle
      have HV3 : Hid (PolV wr (.slice p1 (List.length l1) c1) (.slice p2 (List.length l2) c2) (.slice p3 (List.length l3) c3) (.slice p4 (List.length l4) c4) (.slice p5 (List.length l5) c5) Q l1 l2 l3 l4 l5) := hide ⟨own_arg (HR.out.1.2.2.1.1 0 _ _ rfl rfl), own_arg (HR.out.1.2.2.1.1 1 _ _ rfl rfl), own_arg (HR.out.1.2.2.1.1 2 _ _ rfl rfl), own_arg (HR.out.1.2.2.1.1 3 _ _ rfl rfl), own_arg (HR.out.1.2.2.1.1 4 _ _ rfl rfl), HR.out.2.1, HR.out.2.2.1, HR.out.2.2.2.1, HR.out.2.2.2.2.1, HR.out.2.2.2.2.2.1, HG.out.below HR.out.1.2.2.2.1⟩
      have NBX : ∀ (k : Nat) (p : Option Addr) (n c : Nat) (l : List ByteArray), ([.slice p1 (List.length l1) c1, .slice p2 (List.length l2) c2, .slice p3 (List.length l3) c3, .slice p4 (List.length l4) c4, .slice p5 (List.length l5) c5] : List Value)[k]? = some (.slice p n c) → [l1, l2, l3, l4, l5][k]? = some l → ∀ bb o, p = some ⟨bb, o, none⟩ → bb ≠ w.heap.size := fun k p n c l h1 h2 bb o e => by
        have h := ((HR.out.1.2.2.1.1 k _ l h1 h2).lt bb (by rw [e]; rfl)).1
        have := HSZ2.out
        omega
      have HNB := hide (And.intro (NBX 0 _ _ _ _ rfl rfl) (And.intro (NBX 1 _ _ _ _ rfl rfl) (And.intro (NBX 2 _ _ _ _ rfl rfl) (And.intro (NBX 3 _ _ _ _ rfl rfl) (NBX 4 _ _ _ _ rfl rfl)))))
      have K3 := hide HR.out.1.1
      have KN3 := hide HR.out.1.2.1
      have B3 := hide HR.out.1.2.2.2.1
      clear NBX HR
      have C2 := hide (rtext_any _ _ _ _ _ Q _ _ _ _ _ wr HV3.out HFQ.out)
      have k0 := tag_cell KN3.out 0 _ rfl
      have k1 := tag_cell KN3.out 1 _ rfl
      have k2 := tag_cell KN3.out 2 _ rfl
      have k3 := tag_cell KN3.out 3 _ rfl
      have k4 := tag_cell KN3.out 4 _ rfl
      have k5 := tag_cell KN3.out 5 _ rfl
      have k6 := tag_cell KN3.out 6 _ rfl
      have k7 := tag_cell KN3.out 7 _ rfl
      have k8 := tag_cell KN3.out 8 _ rfl
      go_wp2_with fail
      refine C2.out.mono ?_
      rintro e w4 ⟨rfl, hb4⟩
      have HV4 := hide (HV3.out.below hb4)
      have K4 := hide ((hb4.block _ (Array.getElem?_eq_some_iff.1 K3.out).1).trans K3.out)
      have B4 := hide (bel2 B3.out hb4)
      have KN4 := hide ((hb4.block _ (Array.getElem?_eq_some_iff.1 KN3.out).1).trans KN3.out)
      clear hb4 C2 HV3 K3 B3 KN3 k0 k1 k2 k3 k4 k5 k6 k7 k8
      cases hr : right Q with
      | false =>
        have HPN : Hid (readP (bl s) = none) := hide (by rw [HP.out, if_neg (by rw [hr]; intro h; cases h.1)])
        clear hr HP HFQ HV4 KN4 HNB
        go_upto_region 27 with fail
        go_step
        go_step
        rename_i kk
        go_simp
        refine kk _ _ ?_
        clear kk
        refine wpList_store_row rfl 25 _ _ rfl w.heap.size #[.int .i64 0, .slice none 0 0, .slice none 0 0, .slice none 0 0, .slice none 0 0, .slice none 0 0, .int .i64 0, .int .i64 0, .int .i64 0] rfl rfl 25 _ K4.out (by kernel_rfl) rfl (by simp [Value.oneCell']) ?_
        obtain ⟨w5, hw5⟩ : ∃ w5, w5 = w4.setRow w.heap.size #[.int .i64 0, .slice none 0 0, .slice none 0 0, .slice none 0 0, .slice none 0 0, .slice none 0 0, .int .i64 0, .int .i64 0, .int .i64 0] := ⟨_, rfl⟩
        have K5 : Hid (w5.heap[w.heap.size]? = some (.cells #[.int .i64 0, .slice none 0 0, .slice none 0 0, .slice none 0 0, .slice none 0 0, .slice none 0 0, .int .i64 0, .int .i64 0, .int .i64 0] 25 (0, 0))) := hide (by rw [hw5]; exact setRow_heap _ _ _ _ _ _ K4.out)
        have B5 : Hid (Below w.heap.size w w5) := hide (by rw [hw5]; exact below_row B4.out (Nat.le_refl _) _)
        rw [← hw5]
        clear hw5 K4 B4
        go_wp2_with fail
        refine bodyPost_ret (results_row_tmp rfl _ _ w.heap.size 25 #[.int .i64 0, .slice none 0 0, .slice none 0 0, .slice none 0 0, .slice none 0 0, .slice none 0 0, .int .i64 0, .int .i64 0, .int .i64 0] (0, 0) _ rfl K5.out Tryz.underlying25 rfl (by kernel_rfl)) rfl ?_
        have e0 : E0 = 2 := by rw [HE0.out, HPN.out]; rfl
        have e1 : P0 = Pol.zero := by rw [HP0.out, HPN.out]; rfl
        rw [e0, e1]
        exact ⟨⟨.slice none 0 0, .slice none 0 0, .slice none 0 0, .slice none 0 0, .slice none 0 0, [], [], [], [], [], rfl, strArg_nil _, strArg_nil _, strArg_nil _, strArg_nil _, strArg_nil _, rfl, rfl, rfl, rfl, rfl, HG.out.below B5.out⟩, B5.out⟩
      | true =>
        by_cases htx : text Q = bl s
        · have HPN : Hid (readP (bl s) = some Q) := hide (by rw [HP.out, if_pos ⟨hr, htx⟩])
          have hts : (⟨(text Q).toArray⟩ : ByteArray) = s := by rw [htx]
          have q1 : (s.toList == s.toList) = true := beq_same rfl
          have q2 : (s.toList != s.toList) = false := by simp
          rw [if_pos rfl, if_pos rfl, hts]
          clear hr HP HFQ htx hts
          go_upto_region 28 with fail
          go_step
          refine wpList_load_row rfl 25 _ rfl (w.heap.size + 1) rfl 25 #[.int .i64 Q.ep, .slice p1 (List.length l1) c1, .slice p2 (List.length l2) c2, .slice p3 (List.length l3) c3, .slice p4 (List.length l4) c4, .slice p5 (List.length l5) c5, .int .i64 Q.dp, .int .i64 Q.nd, .int .i64 Q.bt] (0, 0) _ KN4.out Tryz.underlying25 rfl (by kernel_rfl) ?_
          refine wpList_store_row rfl 25 _ _ rfl w.heap.size #[.int .i64 Q.ep, .slice p1 (List.length l1) c1, .slice p2 (List.length l2) c2, .slice p3 (List.length l3) c3, .slice p4 (List.length l4) c4, .slice p5 (List.length l5) c5, .int .i64 Q.dp, .int .i64 Q.nd, .int .i64 Q.bt] rfl rfl 25 _ K4.out (by kernel_rfl) rfl (by simp [Value.oneCell']) ?_
          obtain ⟨w5, hw5⟩ : ∃ w5, w5 = w4.setRow w.heap.size #[.int .i64 Q.ep, .slice p1 (List.length l1) c1, .slice p2 (List.length l2) c2, .slice p3 (List.length l3) c3, .slice p4 (List.length l4) c4, .slice p5 (List.length l5) c5, .int .i64 Q.dp, .int .i64 Q.nd, .int .i64 Q.bt] := ⟨_, rfl⟩
          have K5 : Hid (w5.heap[w.heap.size]? = some (.cells #[.int .i64 Q.ep, .slice p1 (List.length l1) c1, .slice p2 (List.length l2) c2, .slice p3 (List.length l3) c3, .slice p4 (List.length l4) c4, .slice p5 (List.length l5) c5, .int .i64 Q.dp, .int .i64 Q.nd, .int .i64 Q.bt] 25 (0, 0))) := hide (by rw [hw5]; exact setRow_heap _ _ _ _ _ _ K4.out)
          have B5 : Hid (Below w.heap.size w w5) := hide (by rw [hw5]; exact below_row B4.out (Nat.le_refl _) _)
          have HV5 : Hid (PolV w5 (.slice p1 (List.length l1) c1) (.slice p2 (List.length l2) c2) (.slice p3 (List.length l3) c3) (.slice p4 (List.length l4) c4) (.slice p5 (List.length l5) c5) Q l1 l2 l3 l4 l5) := hide (by
            have h := HV4.out
            have nb := HNB.out
            rw [hw5]
            exact ⟨strArg_row_off h.s1 nb.1 _, strArg_row_off h.s2 nb.2.1 _, strArg_row_off h.s3 nb.2.2.1 _, strArg_row_off h.s4 nb.2.2.2.1 _, strArg_row_off h.s5 nb.2.2.2.2 _, h.e1, h.e2, h.e3, h.e4, h.e5, HG.out.below (by rw [← hw5]; exact B5.out)⟩)
          rw [← hw5]
          clear hw5 K4 B4 HV4 KN4 HNB
          go_wp2_with fail
          refine bodyPost_ret (results_row_tmp rfl _ _ w.heap.size 25 #[.int .i64 Q.ep, .slice p1 (List.length l1) c1, .slice p2 (List.length l2) c2, .slice p3 (List.length l3) c3, .slice p4 (List.length l4) c4, .slice p5 (List.length l5) c5, .int .i64 Q.dp, .int .i64 Q.nd, .int .i64 Q.bt] (0, 0) _ rfl K5.out Tryz.underlying25 rfl (by kernel_rfl)) rfl ?_
          have e0 : E0 = 0 := by rw [HE0.out, HPN.out]; rfl
          have e1 : P0 = Q := by rw [HP0.out, HPN.out]; rfl
          rw [e0, e1]
          exact ⟨⟨_, _, _, _, _, l1, l2, l3, l4, l5, rfl, HV5.out⟩, B5.out⟩
        · have HPN : Hid (readP (bl s) = none) := hide (by rw [HP.out, if_neg (fun h => htx h.2)])
          obtain ⟨TX, hTX⟩ : ∃ TX : ByteArray, TX = ⟨(text Q).toArray⟩ := ⟨_, rfl⟩
          have q1 : (TX.toList == s.toList) = false := beq_ne (by rw [hTX]; exact htx)
          have q2 : (TX.toList != s.toList) = true := by rw [bne, q1]; rfl
          rw [if_pos rfl, if_pos rfl, ← hTX]
          clear hr HP HFQ htx hTX HV4 KN4 HNB
          go_upto_region 27 with fail
          go_step
          go_step
          rename_i kk
          go_simp
          refine kk _ _ ?_
          clear kk
          refine wpList_store_row rfl 25 _ _ rfl w.heap.size #[.int .i64 0, .slice none 0 0, .slice none 0 0, .slice none 0 0, .slice none 0 0, .slice none 0 0, .int .i64 0, .int .i64 0, .int .i64 0] rfl rfl 25 _ K4.out (by kernel_rfl) rfl (by simp [Value.oneCell']) ?_
          obtain ⟨w5, hw5⟩ : ∃ w5, w5 = w4.setRow w.heap.size #[.int .i64 0, .slice none 0 0, .slice none 0 0, .slice none 0 0, .slice none 0 0, .slice none 0 0, .int .i64 0, .int .i64 0, .int .i64 0] := ⟨_, rfl⟩
          have K5 : Hid (w5.heap[w.heap.size]? = some (.cells #[.int .i64 0, .slice none 0 0, .slice none 0 0, .slice none 0 0, .slice none 0 0, .slice none 0 0, .int .i64 0, .int .i64 0, .int .i64 0] 25 (0, 0))) := hide (by rw [hw5]; exact setRow_heap _ _ _ _ _ _ K4.out)
          have B5 : Hid (Below w.heap.size w w5) := hide (by rw [hw5]; exact below_row B4.out (Nat.le_refl _) _)
          rw [← hw5]
          clear hw5 K4 B4
          go_wp2_with fail
          refine bodyPost_ret (results_row_tmp rfl _ _ w.heap.size 25 #[.int .i64 0, .slice none 0 0, .slice none 0 0, .slice none 0 0, .slice none 0 0, .slice none 0 0, .int .i64 0, .int .i64 0, .int .i64 0] (0, 0) _ rfl K5.out Tryz.underlying25 rfl (by kernel_rfl)) rfl ?_
          have e0 : E0 = 2 := by rw [HE0.out, HPN.out]; rfl
          have e1 : P0 = Pol.zero := by rw [HP0.out, HPN.out]; rfl
          rw [e0, e1]
          exact ⟨⟨.slice none 0 0, .slice none 0 0, .slice none 0 0, .slice none 0 0, .slice none 0 0, [], [], [], [], [], rfl, strArg_nil _, strArg_nil _, strArg_nil _, strArg_nil _, strArg_nil _, rfl, rfl, rfl, rfl, rfl, HG.out.below B5.out⟩, B5.out⟩
end Go.Proofs.YtebcpmgooodmpaaGreatDoor
