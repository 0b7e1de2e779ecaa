/-
  The document's list of nodes, as the preorder of the tree.
-/
import Derived.Test.YtkdppcpkigpmdaaH7
namespace Utf1
/-- A node in the document's list. -/
structure Fa where
  name : List UInt8
  attrs : List (List UInt8 × List UInt8)
  text : List UInt8
  up : Int
def Nd.fa (nd : Nd) (u : Int) : Fa := ⟨nd.name, nd.attrs, nd.text, u⟩
mutual
/-- A node and all within it, in order; it stands at the place s, within u. -/
def flatN : Nd → Int → Nat → List Fa
  | .mk n a t k, u, s => ⟨n, a, t, u⟩ :: flatL k (s : Int) (s + 1)
def flatL : List Nd → Int → Nat → List Fa
  | [], _, _ => []
  | nd :: r, u, s => flatN nd u s ++ flatL r u (s + cntN nd)
end
theorem flatN_eq (nd : Nd) (u : Int) (s : Nat) : flatN nd u s = nd.fa u :: flatL nd.kids (s : Int) (s + 1) := by
  cases nd
  rw [flatN]
  rfl
mutual
theorem flatN_len : ∀ (nd : Nd) (u : Int) (s : Nat), (flatN nd u s).length = cntN nd
  | .mk n a t k, u, s => by
    rw [flatN, List.length_cons, flatL_len k, cntN]
    omega
theorem flatL_len : ∀ (l : List Nd) (u : Int) (s : Nat), (flatL l u s).length = cntL l
  | [], _, _ => by rw [flatL]; rfl
  | nd :: r, u, s => by rw [flatL, List.length_append, flatN_len nd, flatL_len r, cntL]
end
theorem flatL_app : ∀ (a b : List Nd) (u : Int) (s : Nat), flatL (a ++ b) u s = flatL a u s ++ flatL b u (s + cntL a)
  | [], b, u, s => by
    rw [List.nil_append, flatL, List.nil_append]
    rfl
  | nd :: a, b, u, s => by
    rw [List.cons_append, flatL, flatL, flatL_app a b, cntL, List.append_assoc, Nat.add_assoc]
theorem flatL_one (x : Nd) (u : Int) (s : Nat) : flatL [x] u s = flatN x u s := by
  rw [flatL, flatL, List.append_nil]
mutual
/-- What nodes stand within: u, or places of their own. -/
theorem flatN_up : ∀ (nd : Nd) (u : Int) (s : Nat), ∀ f ∈ (flatN nd u s).drop 1, (s : Int) ≤ f.up
  | .mk n a t k, u, s => by
    intro f hf
    rw [flatN, List.drop_one, List.tail_cons] at hf
    rcases flatL_up k (s : Int) (s + 1) f hf with h | h
    · omega
    · omega
theorem flatL_up : ∀ (l : List Nd) (u : Int) (s : Nat), ∀ f ∈ flatL l u s, f.up = u ∨ (s : Int) ≤ f.up
  | [], _, _ => by
    intro f hf
    rw [flatL] at hf
    cases hf
  | .mk n a t k :: r, u, s => by
    intro f hf
    rw [flatL, flatN] at hf
    rcases List.mem_append.1 hf with hf | hf
    · rcases List.mem_cons.1 hf with rfl | hf
      · exact .inl rfl
      · rcases flatL_up k (s : Int) (s + 1) f hf with h | h
        · exact .inr (by omega)
        · exact .inr (by omega)
    · rcases flatL_up r u _ f hf with h | h
      · exact .inl h
      · exact .inr (by omega)
end
end Utf1
namespace Go.Proofs.Ytkdppcpkigpmdaa
open Go.RowKit
open Utf1

/-- The list of open nodes (the outermost first) and of all that they have. -/
def flS : List Nd → Int → Nat → List Fa
  | [], _, _ => []
  | [nd], u, s => flatL nd.kids u s
  | nd :: ch :: rest, u, s => flatL nd.kids u s ++ ch.fa u :: flS (ch :: rest) ((s + cntL nd.kids : Nat) : Int) (s + cntL nd.kids + 1)
def opS : List Nd → Nat → List Nat
  | [], _ => []
  | [_], _ => []
  | nd :: ch :: rest, s => (s + cntL nd.kids) :: opS (ch :: rest) (s + cntL nd.kids + 1)
def hereS : List Nd → Int → Nat → Int
  | [], u, _ => u
  | [_], u, _ => u
  | nd :: ch :: rest, _, s => hereS (ch :: rest) ((s + cntL nd.kids : Nat) : Int) (s + cntL nd.kids + 1)

theorem fa_add (nd x : Nd) (u : Int) : (addKid nd x).fa u = nd.fa u := by
  cases nd
  rfl
theorem flS_len : ∀ (os : List Nd) (u : Int) (s : Nat), os ≠ [] → (flS os u s).length + 1 = cntL os
  | [], _, _, h => absurd rfl h
  | [nd], u, s, _ => by
    rw [flS, flatL_len, cntL, cntL, cntN_kids]
    omega
  | nd :: ch :: rest, u, s, _ => by
    have ih := flS_len (ch :: rest) ((s + cntL nd.kids : Nat) : Int) (s + cntL nd.kids + 1) (by simp)
    rw [flS, List.length_append, List.length_cons, flatL_len]
    rw [cntL, cntN_kids nd]
    omega
/-- A node more in the innermost one stands last. -/
theorem flS_add : ∀ (i : List Nd) (nd x : Nd) (u : Int) (s : Nat), flS (i ++ [addKid nd x]) u s = flS (i ++ [nd]) u s ++ flatN x (hereS (i ++ [nd]) u s) (s + (flS (i ++ [nd]) u s).length)
  | [], nd, x, u, s => by
    show flatL (addKid nd x).kids u s = flatL nd.kids u s ++ flatN x u (s + (flatL nd.kids u s).length)
    rw [kids_add, flatL_app, flatL_one, flatL_len]
  | [a], nd, x, u, s => by
    show flatL a.kids u s ++ (addKid nd x).fa u :: flatL (addKid nd x).kids _ _ = (flatL a.kids u s ++ nd.fa u :: flatL nd.kids _ _) ++ flatN x _ _
    rw [fa_add, kids_add, flatL_app, flatL_one, List.append_assoc, List.cons_append]
    have e : s + cntL a.kids + 1 + cntL nd.kids = s + (flatL a.kids u s ++ nd.fa u :: flatL nd.kids ((s + cntL a.kids : Nat) : Int) (s + cntL a.kids + 1)).length := by
      rw [List.length_append, List.length_cons, flatL_len, flatL_len]
      omega
    rw [e]
    rfl
  | a :: b :: i, nd, x, u, s => by
    have ih := flS_add (b :: i) nd x ((s + cntL a.kids : Nat) : Int) (s + cntL a.kids + 1)
    show flatL a.kids u s ++ b.fa u :: flS (b :: (i ++ [addKid nd x])) _ _ = (flatL a.kids u s ++ b.fa u :: flS (b :: (i ++ [nd])) _ _) ++ flatN x _ _
    rw [List.cons_append, List.cons_append] at ih
    rw [ih, List.append_assoc, List.cons_append]
    have e : s + cntL a.kids + 1 + (flS (b :: (i ++ [nd])) ((s + cntL a.kids : Nat) : Int) (s + cntL a.kids + 1)).length = s + (flatL a.kids u s ++ b.fa u :: flS (b :: (i ++ [nd])) ((s + cntL a.kids : Nat) : Int) (s + cntL a.kids + 1)).length := by
      rw [List.length_append, List.length_cons, flatL_len]
      omega
    rw [e]
    rfl
/-- What is closed stands where it stood. -/
theorem flS_close : ∀ (i : List Nd) (p nd : Nd) (u : Int) (s : Nat), flS (i ++ [p, nd]) u s = flS (i ++ [addKid p nd]) u s
  | [], p, nd, u, s => by
    show flatL p.kids u s ++ nd.fa u :: flatL nd.kids _ _ = flatL (addKid p nd).kids u s
    rw [kids_add, flatL_app, flatL_one, flatN_eq]
  | [a], p, nd, u, s => by
    have ih := flS_close [] p nd ((s + cntL a.kids : Nat) : Int) (s + cntL a.kids + 1)
    show flatL a.kids u s ++ p.fa u :: flS [p, nd] _ _ = flatL a.kids u s ++ (addKid p nd).fa u :: flS [addKid p nd] _ _
    rw [List.nil_append, List.nil_append] at ih
    rw [ih, fa_add]
  | a :: b :: i, p, nd, u, s => by
    have ih := flS_close (b :: i) p nd ((s + cntL a.kids : Nat) : Int) (s + cntL a.kids + 1)
    show flatL a.kids u s ++ b.fa u :: flS (b :: (i ++ [p, nd])) _ _ = flatL a.kids u s ++ b.fa u :: flS (b :: (i ++ [addKid p nd])) _ _
    rw [List.cons_append, List.cons_append] at ih
    rw [ih]
theorem flS_push (i : List Nd) (nd nw : Nd) (u : Int) (s : Nat) (h : nw.kids = []) : flS (i ++ [nd, nw]) u s = flS (i ++ [nd]) u s ++ [nw.fa (hereS (i ++ [nd]) u s)] := by
  rw [flS_close, flS_add, flatN_eq, h, flatL]
theorem opS_last : ∀ (i : List Nd) (a b : Nd) (s : Nat), opS (i ++ [a]) s = opS (i ++ [b]) s
  | [], _, _, _ => rfl
  | [c], _, _, _ => rfl
  | c :: d :: i, a, b, s => by
    have ih := opS_last (d :: i) a b (s + cntL c.kids + 1)
    show (s + cntL c.kids) :: opS (d :: (i ++ [a])) _ = (s + cntL c.kids) :: opS (d :: (i ++ [b])) _
    rw [List.cons_append, List.cons_append] at ih
    rw [ih]
theorem opS_push : ∀ (i : List Nd) (p nd : Nd) (u : Int) (s : Nat), opS (i ++ [p, nd]) s = opS (i ++ [p]) s ++ [s + (flS (i ++ [p]) u s).length]
  | [], p, nd, u, s => by
    show [s + cntL p.kids] = [] ++ [s + (flatL p.kids u s).length]
    rw [flatL_len]
    rfl
  | [a], p, nd, u, s => by
    have ih := opS_push [] p nd ((s + cntL a.kids : Nat) : Int) (s + cntL a.kids + 1)
    show (s + cntL a.kids) :: opS [p, nd] _ = [s + cntL a.kids] ++ [s + (flatL a.kids u s ++ p.fa u :: flatL p.kids _ _).length]
    rw [List.nil_append, List.nil_append] at ih
    rw [ih]
    show [s + cntL a.kids, s + cntL a.kids + 1 + (flatL p.kids _ _).length] = _
    rw [List.length_append, List.length_cons, flatL_len, flatL_len]
    simp
    omega
  | a :: b :: i, p, nd, u, s => by
    have ih := opS_push (b :: i) p nd ((s + cntL a.kids : Nat) : Int) (s + cntL a.kids + 1)
    show (s + cntL a.kids) :: opS (b :: (i ++ [p, nd])) _ = ((s + cntL a.kids) :: opS (b :: (i ++ [p])) _) ++ [s + (flatL a.kids u s ++ b.fa u :: flS (b :: (i ++ [p])) _ _).length]
    rw [List.cons_append, List.cons_append] at ih
    rw [ih, List.length_append, List.length_cons, flatL_len]
    simp
    omega
theorem cntL_rev : ∀ l : List Nd, cntL l.reverse = cntL l
  | [] => rfl
  | n :: r => by
    rw [List.reverse_cons, cntL_app, cntL_rev r, cntL, cntL, cntL]
    omega
theorem opS_len : ∀ (os : List Nd) (s : Nat), (opS os s).length = os.length - 1
  | [], _ => rfl
  | [_], _ => rfl
  | nd :: ch :: rest, s => by
    have ih := opS_len (ch :: rest) (s + cntL nd.kids + 1)
    rw [opS, List.length_cons, ih]
    simp
/-- The open nodes stand where they are said to. -/
theorem opS_at : ∀ (os : List Nd) (u : Int) (s : Nat) (j k : Nat) (nd : Nd), (opS os s)[j]? = some k → os[j + 1]? = some nd → s ≤ k ∧ ((flS os u s)[k - s]?).map Fa.name = some nd.name
  | [], _, _, _, _, _, h, _ => by simp [opS] at h
  | [_], _, _, _, _, _, h, _ => by simp [opS] at h
  | a :: ch :: rest, u, s, 0, k, nd, h, hn => by
    have e : s + cntL a.kids = k := by simpa [opS] using h
    have e2 : ch = nd := by simpa using hn
    subst e
    subst e2
    refine ⟨by omega, ?_⟩
    rw [Nat.add_sub_cancel_left, flS, List.getElem?_append_right (by rw [flatL_len]; exact Nat.le_refl _), flatL_len, Nat.sub_self]
    rfl
  | a :: ch :: rest, u, s, j + 1, k, nd, h, hn => by
    have h' : (opS (ch :: rest) (s + cntL a.kids + 1))[j]? = some k := by simpa [opS] using h
    have hn' : (ch :: rest)[j + 1]? = some nd := by simpa using hn
    obtain ⟨h1, h2⟩ := opS_at (ch :: rest) ((s + cntL a.kids : Nat) : Int) (s + cntL a.kids + 1) j k nd h' hn'
    refine ⟨by omega, ?_⟩
    rw [flS, List.getElem?_append_right (by rw [flatL_len]; omega), flatL_len]
    have e : k - s - cntL a.kids = (k - (s + cntL a.kids + 1)) + 1 := by omega
    rw [e, List.getElem?_cons_succ]
    exact h2
end Go.Proofs.Ytkdppcpkigpmdaa
