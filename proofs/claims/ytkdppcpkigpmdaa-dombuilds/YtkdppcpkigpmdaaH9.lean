/-
  The document's builder and the program's, held against each other.
-/
import Derived.Test.YtkdppcpkigpmdaaH8
import Derived.Test.YtkdppcpkigpmdaaR26
namespace Go.Proofs.Ytkdppcpkigpmdaa
open Go.RowKit
open Utf1

def Fl.fa (f : Fl) : Fa := ⟨f.name, f.attrs, f.text, f.up⟩
/-- The open nodes, the outermost first, the text that waits being put. -/
def osT : List Nd → List UInt8 → List Nd
  | [], _ => []
  | nd :: q, t => q.reverse ++ [textIn nd t]
/-- The document's list and its open ones are the program's. -/
structure Rel (r : List Nd) (t : List UInt8) (fl : List Fl) (op : List Nat) : Prop where
  fl : fl.map Fl.fa = flS (osT r t) (-1) 0
  op : op = opS r.reverse 0

theorem opS_textIn (i : List Nd) (nd : Nd) (t : List UInt8) (s : Nat) : opS (i ++ [textIn nd t]) s = opS (i ++ [nd]) s := opS_last i _ _ s
theorem here_last : ∀ (i : List Nd) (a b : Nd) (u : Int) (s : Nat), hereS (i ++ [a]) u s = hereS (i ++ [b]) u s
  | [], _, _, _, _ => rfl
  | [c], _, _, _, _ => rfl
  | c :: d :: i, a, b, u, s => by
    have ih := here_last (d :: i) a b ((s + cntL c.kids : Nat) : Int) (s + cntL c.kids + 1)
    show hereS (d :: (i ++ [a])) _ _ = hereS (d :: (i ++ [b])) _ _
    rw [List.cons_append, List.cons_append] at ih
    exact ih
theorem here_op : ∀ (os : List Nd) (u : Int) (s : Nat), hereS os u s = match (opS os s).getLast? with | none => u | some k => (k : Int)
  | [], _, _ => rfl
  | [_], _, _ => rfl
  | nd :: ch :: rest, u, s => by
    have ih := here_op (ch :: rest) ((s + cntL nd.kids : Nat) : Int) (s + cntL nd.kids + 1)
    rw [hereS, ih, opS]
    cases h : opS (ch :: rest) (s + cntL nd.kids + 1) with
    | nil => rfl
    | cons a b => rw [List.getLast?_cons_cons]
                  obtain ⟨y, hy⟩ : ∃ y, (a :: b).getLast? = some y := ⟨_, List.getLast?_eq_some_getLast (by simp)⟩
                  rw [hy]
theorem here_eq (os : List Nd) : hereF (opS os 0) = hereS os (-1) 0 := by
  rw [here_op]
  rfl
/-- Closing keeps both. -/
theorem rel_close {nd p : Nd} {r : List Nd} {t : List UInt8} {fl : List Fl} {op : List Nat} (h : Rel (nd :: p :: r) t fl op) : Rel (addKid p (textIn nd t) :: r) [] fl op.dropLast := by
  refine ⟨?_, ?_⟩
  · rw [h.fl]
    show flS ((p :: r).reverse ++ [textIn nd t]) (-1) 0 = flS (r.reverse ++ [textIn (addKid p (textIn nd t)) []]) (-1) 0
    rw [List.reverse_cons, List.append_assoc, textIn_nil]
    exact flS_close r.reverse p (textIn nd t) (-1) 0
  · rw [h.op]
    simp only [List.reverse_cons, List.append_assoc]
    show (opS (r.reverse ++ [p, nd]) 0).dropLast = _
    rw [opS_push r.reverse p nd (-1) 0, List.dropLast_concat, opS_last r.reverse p (addKid p (textIn nd t))]
theorem rel_shut : ∀ (n : Nat) (r : List Nd) (t : List UInt8) (fl : List Fl) (op : List Nat), n < r.length → Rel r t fl op → Rel (closeR n r t).1 (closeR n r t).2 fl (op.take (op.length - n))
  | 0, r, t, fl, op, _, h => by
    have : closeR 0 r t = (r, t) := by cases r <;> rfl
    rw [this, Nat.sub_zero, List.take_length]
    exact h
  | n + 1, [], t, fl, op, hn, _ => by simp at hn
  | n + 1, [_], t, fl, op, hn, _ => by simp at hn
  | n + 1, nd :: p :: r, t, fl, op, hn, h => by
    have ih := rel_shut n (addKid p (textIn nd t) :: r) [] fl op.dropLast (by simp only [List.length_cons] at hn ⊢; omega) (rel_close h)
    have hl : op.length = r.length + 1 := by
      rw [h.op, opS_len]
      simp
    have e : op.dropLast.take (op.dropLast.length - n) = op.take (op.length - (n + 1)) := by
      rw [List.length_dropLast, List.dropLast_eq_take, List.take_take]
      congr 1
      omega
    rw [e] at ih
    exact ih
theorem rel_len {r : List Nd} {t : List UInt8} {fl : List Fl} {op : List Nat} (h : Rel r t fl op) (hr : r ≠ []) : fl.length + 1 = cntL r + tx t ∧ op.length + 1 = r.length ∧ ∀ k ∈ op, k < fl.length := by
  have h1 : fl.length = (flS (osT r t) (-1) 0).length := by rw [← h.fl, List.length_map]
  obtain ⟨nd, q, rfl⟩ := List.exists_cons_of_ne_nil hr
  have hos : osT (nd :: q) t ≠ [] := by simp [osT]
  have h2 := flS_len (osT (nd :: q) t) (-1) 0 hos
  have h3 : cntL (osT (nd :: q) t) = cntL (nd :: q) + tx t := by
    show cntL (q.reverse ++ [textIn nd t]) = _
    rw [cntL_app, cntL, cntL, cntL, cnt_text, cntL_rev]
    omega
  refine ⟨by omega, ?_, ?_⟩
  · rw [h.op, opS_len]
    simp
  · intro k hk
    rw [h.op] at hk
    obtain ⟨j, hj⟩ := List.getElem?_of_mem hk
    have hjl : j < (opS (nd :: q).reverse 0).length := (List.getElem?_eq_some_iff.1 hj).1
    rw [opS_len] at hjl
    have hx : j + 1 < (nd :: q).reverse.length := by omega
    rw [List.reverse_cons] at hj
    rw [← opS_textIn q.reverse nd t 0] at hj
    have hlen : (q.reverse ++ [textIn nd t]).length = (nd :: q).reverse.length := by simp
    obtain ⟨_, h5⟩ := opS_at (q.reverse ++ [textIn nd t]) (-1) 0 j k _ hj (List.getElem?_eq_getElem (by omega))
    rw [h1]
    show k < (flS (q.reverse ++ [textIn nd t]) (-1) 0).length
    rw [Nat.sub_zero] at h5
    cases hg : (flS (q.reverse ++ [textIn nd t]) (-1) 0)[k]? with
    | none => rw [hg] at h5; cases h5
    | some f => exact (List.getElem?_eq_some_iff.1 hg).1
end Go.Proofs.Ytkdppcpkigpmdaa
