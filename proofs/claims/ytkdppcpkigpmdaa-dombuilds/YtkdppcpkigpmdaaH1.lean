/-
  What is built of many starts of one name; what Build leaves, either way.
-/
import Derived.Test.YtkdppcpkigpmdaaG30
namespace Go.Proofs.Ytkdppcpkigpmdaa
open Go.RowKit
open Utf1

theorem BuildEnd.got {w w' : World} {l : List Te} {v : Value} {err : Int} (h : BuildEnd w w' l v err) : ∃ fp, KAt w' w.heap.size v ((buildB (l.map Prod.fst)).getD []) fp ∧ err = if (buildB (l.map Prod.fst)).isSome then 0 else 5 := by
  cases hb : buildB (l.map Prod.fst) with
  | none =>
    obtain ⟨rfl, rfl⟩ := h.1 hb
    exact ⟨[], KAt.empty _ _, rfl⟩
  | some ns =>
    obtain ⟨rfl, fp, hk⟩ := h.2 ns hb
    exact ⟨fp, hk, rfl⟩

theorem runB_good : ∀ (l : List Tk) (s u : Bs), Good s → s.o ≤ 64 → s.n ≤ 2000 → runB l s = some u → Good u ∧ u.o ≤ 64 ∧ u.n ≤ 2000
  | [], s, u, h, h1, h2, e => by
    cases e
    exact ⟨h, h1, h2⟩
  | k :: l, s, u, h, h1, h2, e => by
    unfold runB at e
    split at e
    · rename_i hc
      exact runB_good l _ u (take_good h k).1 hc.1 hc.2 e
    · cases e
theorem tree_cnt {s : Bs} (h : Good s) : cntL (treeB s) = s.n := by
  have g := shut_good h (Nat.le_refl 1) (List.length_pos_iff.2 h.ne)
  obtain ⟨nd, hnd⟩ := List.length_eq_one_iff.1 g.2.2
  have hc := g.1.cnt
  unfold treeB
  rw [hnd] at hc ⊢
  have hc : cntN nd + 0 + tx (shutB 1 s).t = s.n + 1 := hc
  have h1 := cnt_text nd (shutB 1 s).t
  have h2 := cntN_kids (textIn nd (shutB 1 s).t)
  show cntL (textIn nd (shutB 1 s).t).kids = _
  omega
theorem build_cnt {l : List Tk} {ns : List Nd} (h : buildB l = some ns) : cntL ns ≤ 2000 := by
  unfold buildB at h
  cases hr : runB l bs0 with
  | none => rw [hr] at h; cases h
  | some u =>
    rw [hr] at h
    cases h
    have := runB_good l bs0 u good0 (by decide) (by decide) hr
    rw [tree_cnt this.1]
    exact this.2.2
theorem build_cnt' (l : List Tk) : cntL ((buildB l).getD []) ≤ 2000 := by
  cases h : buildB l with
  | none => exact Nat.zero_le _
  | some ns => exact build_cnt h

/-- A start of an element that is neither void nor a block. -/
theorem start_plain (name : List UInt8) (at' : List (List UInt8 × List UInt8)) (hne : name ≠ []) (hb : name ∉ blocks) (hv : name ∉ voids) (nd : Nd) (q : List Nd) (t : List UInt8) (o n : Nat) : startB name at' ⟨nd :: q, t, o, n⟩ = ⟨.mk name at' [] [] :: textIn nd t :: q, [], max o (q.length + 1), n + 1⟩ := by
  have hw : wayR name (nd :: q) t = (nd :: q, t) := by
    unfold wayR
    rw [if_neg hb]
  unfold startB startR
  rw [if_neg hne]
  simp only [hw]
  rw [if_neg hv]
theorem start_br (nd : Nd) (q : List Nd) (t : List UInt8) (o n : Nat) : startB [98, 114] [] ⟨nd :: q, t, o, n⟩ = ⟨addKid (textIn nd t) (.mk [98, 114] [] [] []) :: q, [], o, n + 1⟩ := by
  have hw : wayR [98, 114] (nd :: q) t = (nd :: q, t) := by
    unfold wayR
    rw [if_neg (by decide)]
  unfold startB startR
  rw [if_neg (by simp)]
  simp only [hw]
  rw [if_pos (by decide)]
theorem textIn_nil (nd : Nd) : textIn nd [] = nd := by
  unfold textIn
  rw [if_pos rfl]

def rootN (k : List Nd) : Nd := .mk [] [] [] k
def elB : Nd := .mk [98] [] [] []
def elBr : Nd := .mk [98, 114] [] [] []
def eB : Te := (⟨2, [98], [], []⟩, (none, 0, 0), false)
def eBr : Te := (⟨2, [98, 114], [], []⟩, (none, 0, 0), false)
def stB (i : Nat) : Bs := ⟨List.replicate i elB ++ [rootN []], [], i, i⟩
theorem take_eB (i : Nat) : takeB eB.1 (stB i) = stB (i + 1) := by
  have h1 : takeB eB.1 (stB i) = startB [98] [] (stB i) := rfl
  rw [h1]
  unfold stB
  cases i with
  | zero => rfl
  | succ i =>
    rw [List.replicate_succ, List.cons_append, start_plain [98] [] (by simp) (by decide) (by decide), textIn_nil]
    have : max (i + 1) ((List.replicate i elB ++ [rootN []]).length + 1) = i + 1 + 1 := by simp
    rw [this, List.replicate_succ (n := i + 1), List.replicate_succ]
    rfl
theorem run_eB : ∀ (k i : Nat), i ≤ 64 → runB ((List.replicate k eB).map Prod.fst) (stB i) = if i + k ≤ 64 then some (stB (i + k)) else none
  | 0, i, h => by
    rw [if_pos (by omega)]
    rfl
  | k + 1, i, h => by
    rw [List.replicate_succ, List.map_cons]
    show (if (takeB eB.1 (stB i)).o ≤ 64 ∧ (takeB eB.1 (stB i)).n ≤ 2000 then runB _ (takeB eB.1 (stB i)) else none) = _
    rw [take_eB]
    by_cases hi : i + 1 ≤ 64
    · rw [if_pos ⟨hi, by show i + 1 ≤ 2000; omega⟩, run_eB k (i + 1) hi]
      have e : i + 1 + k = i + (k + 1) := by omega
      rw [e]
    · rw [if_neg (fun h => hi h.1), if_neg (by omega)]
/-- So many elements around one. -/
def wrapB : Nat → Nd → Nd
  | 0, x => x
  | k + 1, x => wrapB k (.mk [98] [] [] [x])
theorem close_eB : ∀ (k : Nat) (x : Nd), closeR (k + 1) (x :: (List.replicate k elB ++ [rootN []])) [] = ([rootN [wrapB k x]], [])
  | 0, x => by
    show closeR 0 [addKid (rootN []) (textIn x [])] [] = _
    rw [textIn_nil]
    rfl
  | k + 1, x => by
    rw [List.replicate_succ, List.cons_append]
    show closeR (k + 1) (addKid elB (textIn x []) :: (List.replicate k elB ++ [rootN []])) [] = _
    rw [textIn_nil, close_eB k]
    rfl
theorem tree_eB (k : Nat) : treeB (stB (k + 1)) = [wrapB k elB] := by
  unfold treeB shutB
  have h1 : (stB (k + 1)).r = elB :: (List.replicate k elB ++ [rootN []]) := by
    unfold stB
    rw [List.replicate_succ, List.cons_append]
  have h2 : (stB (k + 1)).r.length - 1 = k + 1 := by
    rw [h1]
    simp
  have h3 : (stB (k + 1)).t = [] := rfl
  simp only []
  rw [h2, h1, h3, close_eB]
  rfl
theorem deep_wrap : ∀ (k : Nat) (x : Nd), deepN (wrapB k x) = deepN x + k
  | 0, x => rfl
  | k + 1, x => by
    rw [wrapB, deep_wrap k]
    have : deepN (.mk [98] [] [] [x]) = deepN x + 1 := by
      rw [deepN, deepL, deepL, if_neg (by simp)]
      omega
    omega
theorem buildB_eB (k : Nat) : (k ≤ 64 → ∃ ns, buildB ((List.replicate k eB).map Prod.fst) = some ns ∧ cntL ns = k ∧ deepL ns = k) ∧ (¬ k ≤ 64 → buildB ((List.replicate k eB).map Prod.fst) = none) := by
  have hr := run_eB k 0 (by omega)
  rw [Nat.zero_add] at hr
  have h0 : stB 0 = bs0 := rfl
  rw [h0] at hr
  unfold buildB
  rw [hr]
  constructor
  · intro hk
    rw [if_pos hk]
    have hg : Good (stB k) := (runB_good ((List.replicate k eB).map Prod.fst) bs0 (stB k) good0 (by decide) (by decide) (by rw [hr, if_pos hk])).1
    refine ⟨_, rfl, tree_cnt hg, ?_⟩
    cases k with
    | zero => rfl
    | succ k =>
      rw [tree_eB, deepL, deep_wrap]
      have : deepN elB = 1 := rfl
      rw [this, deepL]
      omega
  · intro hk
    rw [if_neg hk]
    rfl
def stR (i : Nat) : Bs := ⟨[rootN (List.replicate i elBr)], [], 0, i⟩
theorem take_eBr (i : Nat) : takeB eBr.1 (stR i) = stR (i + 1) := by
  have h1 : takeB eBr.1 (stR i) = startB [98, 114] [] (stR i) := rfl
  rw [h1]
  unfold stR
  rw [start_br, textIn_nil]
  show (⟨[.mk [] [] [] (List.replicate i elBr ++ [elBr])], [], 0, i + 1⟩ : Bs) = _
  rw [← List.replicate_succ']
  rfl
theorem run_eBr : ∀ (k i : Nat), i ≤ 2000 → runB ((List.replicate k eBr).map Prod.fst) (stR i) = if i + k ≤ 2000 then some (stR (i + k)) else none
  | 0, i, h => by
    rw [if_pos (by omega)]
    rfl
  | k + 1, i, h => by
    rw [List.replicate_succ, List.map_cons]
    show (if (takeB eBr.1 (stR i)).o ≤ 64 ∧ (takeB eBr.1 (stR i)).n ≤ 2000 then runB _ (takeB eBr.1 (stR i)) else none) = _
    rw [take_eBr]
    by_cases hi : i + 1 ≤ 2000
    · rw [if_pos ⟨by show 0 ≤ 64; omega, hi⟩, run_eBr k (i + 1) hi]
      have e : i + 1 + k = i + (k + 1) := by omega
      rw [e]
    · rw [if_neg (fun h => hi h.2), if_neg (by omega)]
theorem deep_repl : ∀ k : Nat, deepL (List.replicate k elBr) = min k 1
  | 0 => rfl
  | k + 1 => by
    rw [List.replicate_succ, deepL, deep_repl k]
    have : deepN elBr = 1 := rfl
    omega
theorem buildB_eBr (k : Nat) : (k ≤ 2000 → ∃ ns, buildB ((List.replicate k eBr).map Prod.fst) = some ns ∧ cntL ns = k ∧ deepL ns = min k 1) ∧ (¬ k ≤ 2000 → buildB ((List.replicate k eBr).map Prod.fst) = none) := by
  have hr := run_eBr k 0 (by omega)
  rw [Nat.zero_add] at hr
  have h0 : stR 0 = bs0 := rfl
  rw [h0] at hr
  unfold buildB
  rw [hr]
  constructor
  · intro hk
    rw [if_pos hk]
    have hg : Good (stR k) := (runB_good ((List.replicate k eBr).map Prod.fst) bs0 (stR k) good0 (by decide) (by decide) (by rw [hr, if_pos hk])).1
    refine ⟨_, rfl, tree_cnt hg, ?_⟩
    have : treeB (stR k) = List.replicate k elBr := by
      show (textIn (rootN (List.replicate k elBr)) []).kids = _
      rw [textIn_nil]
      rfl
    rw [this]
    exact deep_repl k
  · intro hk
    rw [if_neg hk]
    rfl
end Go.Proofs.Ytkdppcpkigpmdaa
