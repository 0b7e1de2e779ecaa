/-
  The tree's builder over tokens, as a plain function, and what it keeps.
-/
import Derived.Test.YtkdppcpkigpmdaaG19
namespace Utf1
/-- A token. -/
structure Tk where
  kind : Int
  name : List UInt8
  attrs : List (List UInt8 × List UInt8)
  text : List UInt8
end Utf1
namespace Go.Proofs.Ytkdppcpkigpmdaa
open Go.RowKit
open Utf1

/-- The builder: the open nodes, the innermost first; the text that waits; the counts. -/
structure Bs where
  r : List Nd
  t : List UInt8
  o : Nat
  n : Nat
def startB (name : List UInt8) (at' : List (List UInt8 × List UInt8)) (s : Bs) : Bs := ⟨(startR name at' s.r s.t s.o s.n).1, (startR name at' s.r s.t s.o s.n).2.1, (startR name at' s.r s.t s.o s.n).2.2.1, (startR name at' s.r s.t s.o s.n).2.2.2⟩
/-- All from a place on closed. -/
def shutB (at' : Nat) (s : Bs) : Bs := ⟨(closeR (s.r.length - at') s.r s.t).1, (closeR (s.r.length - at') s.r s.t).2, s.o, s.n⟩
def endB (name : List UInt8) (s : Bs) : Bs :=
  if 0 < innerR [name] s.r then shutB (innerR [name] s.r) s
  else if name = [112] then (let u := startB [112] [] s; shutB (innerR [[112]] u.r) u)
  else if name = [98, 114] then startB [98, 114] [] s
  else s
def textB (x : List UInt8) (s : Bs) : Bs := ⟨s.r, s.t ++ x, s.o, s.n + newT s.t x⟩
def takeB (k : Tk) (s : Bs) : Bs :=
  if k.kind = 1 then textB k.text s else if k.kind = 2 then startB k.name k.attrs s else if k.kind = 3 then endB k.name s else s
/-- All tokens, as far as the limits let it be. -/
def runB : List Tk → Bs → Option Bs
  | [], s => some s
  | k :: l, s => if (takeB k s).o ≤ 64 ∧ (takeB k s).n ≤ 2000 then runB l (takeB k s) else none
def bs0 : Bs := ⟨[.mk [] [] [] []], [], 0, 0⟩
/-- The tree of what is built. -/
def treeB (s : Bs) : List Nd :=
  match (shutB 1 s).r with
  | nd :: _ => (textIn nd (shutB 1 s).t).kids
  | [] => []
def buildB (l : List Tk) : Option (List Nd) := (runB l bs0).map treeB

structure Good (s : Bs) : Prop where
  ne : s.r ≠ []
  root : s.r.getLast?.map Nd.name = some []
  cnt : cntL s.r + tx s.t = s.n + 1
theorem good0 : Good bs0 := ⟨by simp [bs0], rfl, rfl⟩
theorem shut_good {s : Bs} (h : Good s) {a : Nat} (h1 : 1 ≤ a) (h2 : a ≤ s.r.length) : Good (shutB a s) ∧ (shutB a s).t.length ≤ s.t.length ∧ (shutB a s).r.length = a := by
  have c := closeR_all (s.r.length - a) s.r s.t (by omega)
  have cr := closeR_root (s.r.length - a) s.r s.t (by omega)
  refine ⟨⟨?_, cr.trans h.root, c.2.1.trans h.cnt⟩, c.2.2, ?_⟩
  · refine List.length_pos_iff.1 ?_
    show 0 < (closeR (s.r.length - a) s.r s.t).1.length
    rw [c.1]
    omega
  · show (closeR (s.r.length - a) s.r s.t).1.length = _
    rw [c.1]
    omega
theorem addKid_root (p x : Nd) : (addKid p x).name = p.name := addKid_name p x
theorem textIn_name (p : Nd) (t : List UInt8) : (textIn p t).name = p.name := by
  unfold textIn
  split
  · rfl
  · exact addKid_name _ _
theorem last_name {a b : Nd} {q : List Nd} (h : a.name = b.name) : (a :: q).getLast?.map Nd.name = (b :: q).getLast?.map Nd.name := by
  cases q with
  | nil => simp [h]
  | cons x y => simp
theorem start_good {s : Bs} (h : Good s) (name : List UInt8) (at' : List (List UInt8 × List UInt8)) : Good (startB name at' s) ∧ (startB name at' s).t.length ≤ s.t.length ∧ s.n ≤ (startB name at' s).n ∧ (startB name at' s).n ≤ s.n + 1 := by
  have W := wayR_all name s.r s.t h.ne h.root
  unfold startB startR
  by_cases hn : name = []
  · rw [if_pos hn]
    exact ⟨h, Nat.le_refl _, Nat.le_refl _, Nat.le_succ _⟩
  · rw [if_neg hn]
    cases hh : (wayR name s.r s.t).1 with
    | nil => rw [hh] at W; simp at W
    | cons nd q =>
      rw [hh] at W
      simp only []
      have c1 := cnt_text nd (wayR name s.r s.t).2
      have c2 : cntN (.mk name at' [] []) = 1 := rfl
      have c3 := W.2.2.1
      have c4 := h.cnt
      have c5 := W.2.2.2.2
      simp only [cntL] at c3
      split
      · refine ⟨⟨by simp, ?_, ?_⟩, Nat.zero_le _, Nat.le_succ _, Nat.le_refl _⟩
        · show (addKid (textIn nd (wayR name s.r s.t).2) (Nd.mk name at' [] []) :: q).getLast?.map Nd.name = _
          rw [last_name (b := nd) (by rw [addKid_name, textIn_name]), c5]
          exact h.root
        · show cntL (addKid (textIn nd (wayR name s.r s.t).2) (Nd.mk name at' [] []) :: q) + 0 = s.n + 1 + 1
          simp only [cntL]
          rw [cnt_add]
          omega
      · refine ⟨⟨by simp, ?_, ?_⟩, Nat.zero_le _, Nat.le_succ _, Nat.le_refl _⟩
        · show (Nd.mk name at' [] [] :: textIn nd (wayR name s.r s.t).2 :: q).getLast?.map Nd.name = _
          rw [List.getLast?_cons_cons, last_name (b := nd) (textIn_name _ _), c5]
          exact h.root
        · show cntL (Nd.mk name at' [] [] :: textIn nd (wayR name s.r s.t).2 :: q) + 0 = s.n + 1 + 1
          simp only [cntL]
          omega
theorem tx_app (t x : List UInt8) : tx (t ++ x) = tx t + newT t x := by
  unfold tx newT
  cases t with
  | nil => cases x <;> simp
  | cons a b => simp
theorem text_good {s : Bs} (h : Good s) (x : List UInt8) : Good (textB x s) := ⟨h.ne, h.root, by
  have := h.cnt
  show cntL s.r + tx (s.t ++ x) = s.n + newT s.t x + 1
  rw [tx_app]
  omega⟩
theorem p_start (s : Bs) (h : Good s) : 0 < innerR [[112]] (startB [112] [] s).r := by
  have W := wayR_all [112] s.r s.t h.ne h.root
  unfold startB startR
  rw [if_neg (by simp)]
  cases hh : (wayR [112] s.r s.t).1 with
  | nil => rw [hh] at W; simp at W
  | cons nd q =>
    simp only []
    rw [if_neg (by decide)]
    show 0 < innerR [[112]] (Nd.mk [112] [] [] [] :: textIn nd (wayR [112] s.r s.t).2 :: q)
    unfold innerR
    rw [if_neg (by simp), if_pos (by simp [Nd.name])]
    simp
theorem inner_le (ns : List (List UInt8)) (s : Bs) (h : Good s) : innerR ns s.r ≤ s.r.length := Nat.le_of_lt (innerR_lt ns s.r h.ne)
theorem end_good {s : Bs} (h : Good s) (name : List UInt8) : Good (endB name s) ∧ (endB name s).t.length ≤ s.t.length ∧ s.n ≤ (endB name s).n ∧ (endB name s).n ≤ s.n + 1 := by
  unfold endB
  split
  · rename_i hi
    have := shut_good h hi (inner_le _ s h)
    exact ⟨this.1, this.2.1, Nat.le_refl _, Nat.le_succ _⟩
  · split
    · have g := start_good h [112] []
      have := shut_good g.1 (p_start s h) (inner_le _ _ g.1)
      exact ⟨this.1, Nat.le_trans this.2.1 g.2.1, g.2.2⟩
    · split
      · exact start_good h [98, 114] []
      · exact ⟨h, Nat.le_refl _, Nat.le_refl _, Nat.le_succ _⟩
theorem take_good {s : Bs} (h : Good s) (k : Tk) : Good (takeB k s) ∧ (takeB k s).t.length ≤ s.t.length + k.text.length := by
  unfold takeB
  split
  · exact ⟨text_good h _, by show (s.t ++ k.text).length ≤ _; rw [List.length_append]; exact Nat.le_refl _⟩
  · split
    · have := start_good h k.name k.attrs
      exact ⟨this.1, Nat.le_trans this.2.1 (Nat.le_add_right _ _)⟩
    · split
      · have := end_good h k.name
        exact ⟨this.1, Nat.le_trans this.2.1 (Nat.le_add_right _ _)⟩
      · exact ⟨h, Nat.le_add_right _ _⟩
end Go.Proofs.Ytkdppcpkigpmdaa
