/-
  What is built of elements side by side, each with a text.
-/
import Derived.Test.YtkdppcpkigpmdabH3
namespace Go.Proofs.Ytkdppcpkigpmdab
open Go.RowKit
open Utf1

def eS (n : List UInt8) : Te := (⟨2, n, [], []⟩, (none, 0, 0), false)
def elS (n x : List UInt8) : Nd := .mk n [] [] [.mk [] [] x []]
/-- The law's tokens. -/
def toksP : List (List UInt8) → List Te
  | [] => []
  | x :: r => [eS [112], eX x] ++ toksP r
def toksB : List (List UInt8) → List Te
  | [] => []
  | x :: r => [eS [98], eX x, eE [98]] ++ toksB r
theorem toksP_app : ∀ a b, toksP (a ++ b) = toksP a ++ toksP b
  | [], b => rfl
  | x :: a, b => by rw [List.cons_append, toksP, toksP, toksP_app a b, List.append_assoc]
theorem toksB_app : ∀ a b, toksB (a ++ b) = toksB a ++ toksB b
  | [], b => rfl
  | x :: a, b => by rw [List.cons_append, toksB, toksB, toksB_app a b, List.append_assoc]
theorem toksP_len : ∀ l, (toksP l).length = 2 * l.length
  | [] => rfl
  | x :: r => by
    simp only [toksP, List.length_append, List.length_cons, List.length_nil, toksP_len r]
    omega
theorem toksB_len : ∀ l, (toksB l).length = 3 * l.length
  | [] => rfl
  | x :: r => by
    simp only [toksB, List.length_append, List.length_cons, List.length_nil, toksB_len r]
    omega
def stS (l : List (List UInt8)) : Bs := ⟨[rootN (l.map (elS [98]))], [], if l = [] then 0 else 1, 2 * l.length⟩
def stP : List (List UInt8) → Bs
  | [] => bs0
  | x :: r => ⟨[.mk [112] [] [] [], rootN ((x :: r).dropLast.map (elS [112]))], (x :: r).getLast?.getD [], 1, 2 * (r.length + 1)⟩
theorem stP_snoc (l : List (List UInt8)) (y : List UInt8) : stP (l ++ [y]) = ⟨[.mk [112] [] [] [], rootN (l.map (elS [112]))], y, 1, 2 * (l.length + 1)⟩ := by
  cases l with
  | nil => rfl
  | cons x r =>
    have h1 : (x :: (r ++ [y])).dropLast = x :: r := by
      rw [← List.cons_append, List.dropLast_concat]
    have h2 : (x :: (r ++ [y])).getLast?.getD [] = y := by
      rw [← List.cons_append, List.getLast?_concat]
      rfl
    show (⟨[_, rootN ((x :: (r ++ [y])).dropLast.map (elS [112]))], (x :: (r ++ [y])).getLast?.getD [], 1, 2 * ((r ++ [y]).length + 1)⟩ : Bs) = _
    rw [h1, h2, List.length_append]
    rfl
theorem take_end (n : List UInt8) (s : Bs) : takeB (eE n).1 s = endB n s := rfl

theorem step_B (l : List (List UInt8)) (x : List UInt8) (hx : x ≠ []) : takeB (eS [98]).1 (stS l) = ⟨[.mk [98] [] [] [], rootN (l.map (elS [98]))], [], 1, 2 * l.length + 1⟩ ∧ takeB (eX x).1 ⟨[.mk [98] [] [] [], rootN (l.map (elS [98]))], [], 1, 2 * l.length + 1⟩ = ⟨[.mk [98] [] [] [], rootN (l.map (elS [98]))], x, 1, 2 * l.length + 2⟩ ∧ takeB (eE [98]).1 ⟨[.mk [98] [] [] [], rootN (l.map (elS [98]))], x, 1, 2 * l.length + 2⟩ = stS (l ++ [x]) := by
  refine ⟨?_, ?_, ?_⟩
  · show startB [98] [] (stS l) = _
    unfold stS
    rw [start_plain [98] [] (by simp) (by decide) (by decide), textIn_nil]
    have : max (if l = [] then 0 else 1) (([] : List Nd).length + 1) = 1 := by split <;> rfl
    rw [this]
  · show textB x _ = _
    unfold textB newT
    simp only [List.nil_append]
    rw [if_pos ⟨trivial, hx⟩]
  · rw [take_end]
    unfold endB
    have hi : innerR [[98]] [.mk [98] [] [] [], rootN (l.map (elS [98]))] = 1 := by
      unfold innerR
      rw [if_neg (by simp), if_pos (by simp [Nd.name])]
      rfl
    simp only []
    rw [hi, if_pos (by decide)]
    unfold shutB stS
    simp only []
    show (⟨(closeR 0 [addKid (rootN (l.map (elS [98]))) (textIn (.mk [98] [] [] []) x)] []).1, _, _, _⟩ : Bs) = _
    have ht : textIn (.mk [98] [] [] []) x = elS [98] x := by
      unfold textIn
      rw [if_neg hx]
      rfl
    rw [ht, if_neg (by simp)]
    show (⟨[rootN (l.map (elS [98]) ++ [elS [98] x])], [], 1, 2 * l.length + 2⟩ : Bs) = _
    rw [List.map_append]
    simp
    omega
theorem run_B : ∀ (r l : List (List UInt8)), (∀ x ∈ r, x ≠ []) → l.length + r.length ≤ 100 → runB ((toksB r).map Prod.fst) (stS l) = some (stS (l ++ r))
  | [], l, _, _ => by
    rw [List.append_nil]
    rfl
  | x :: r, l, hx, hl => by
    obtain ⟨h1, h2, h3⟩ := step_B l x (hx x (by simp))
    simp only [List.length_cons] at hl
    rw [toksB, List.map_append, runB_app]
    have : runB ([eS [98], eX x, eE [98]].map Prod.fst) (stS l) = some (stS (l ++ [x])) := by
      show (if (takeB (eS [98]).1 (stS l)).o ≤ 64 ∧ (takeB (eS [98]).1 (stS l)).n ≤ 2000 then (if (takeB (eX x).1 (takeB (eS [98]).1 (stS l))).o ≤ 64 ∧ (takeB (eX x).1 (takeB (eS [98]).1 (stS l))).n ≤ 2000 then (if (takeB (eE [98]).1 (takeB (eX x).1 (takeB (eS [98]).1 (stS l)))).o ≤ 64 ∧ (takeB (eE [98]).1 (takeB (eX x).1 (takeB (eS [98]).1 (stS l)))).n ≤ 2000 then some (takeB (eE [98]).1 (takeB (eX x).1 (takeB (eS [98]).1 (stS l)))) else none) else none) else none) = _
      rw [h1, h2, h3, if_pos ⟨by show 1 ≤ 64; omega, by show 2 * l.length + 1 ≤ 2000; omega⟩, if_pos ⟨by show 1 ≤ 64; omega, by show 2 * l.length + 2 ≤ 2000; omega⟩, if_pos ⟨by show (if _ then 0 else 1) ≤ 64; split <;> omega, by show 2 * (l ++ [x]).length ≤ 2000; simp; omega⟩]
    rw [this]
    show runB ((toksB r).map Prod.fst) (stS (l ++ [x])) = _
    rw [run_B r (l ++ [x]) (fun y hy => hx y (by simp [hy])) (by simp; omega), List.append_assoc]
    rfl
theorem build_B (r : List (List UInt8)) (hx : ∀ x ∈ r, x ≠ []) (hl : r.length ≤ 100) : buildB ((toksB r).map Prod.fst) = some (r.map (elS [98])) := by
  have := run_B r [] hx (by simpa using hl)
  have h0 : stS [] = bs0 := rfl
  rw [h0, List.nil_append] at this
  unfold buildB
  rw [this]
  show some (textIn (rootN (r.map (elS [98]))) []).kids = _
  rw [textIn_nil]
  rfl

theorem way_p (K : List Nd) (y : List UInt8) (hy : y ≠ []) : wayR [112] [.mk [112] [] [] [], rootN K] y = ([rootN (K ++ [elS [112] y])], []) := by
  have hi : innerR [[112]] [.mk [112] [] [] [], rootN K] = 1 := by
    unfold innerR
    rw [if_neg (by simp), if_pos (by simp [Nd.name])]
    rfl
  have ht : textIn (.mk [112] [] [] []) y = elS [112] y := by
    unfold textIn
    rw [if_neg hy]
    rfl
  have hc : closeIn [[112]] [.mk [112] [] [] [], rootN K] y = ([rootN (K ++ [elS [112] y])], []) := by
    unfold closeIn
    rw [hi, if_pos (by decide)]
    show closeR 0 [addKid (rootN K) (textIn (.mk [112] [] [] []) y)] [] = _
    rw [ht]
    rfl
  unfold wayR
  rw [if_pos (by decide), if_neg (by decide), hc]
theorem step_P (l : List (List UInt8)) (x : List UInt8) (hx : x ≠ []) (hl : ∀ y ∈ l, y ≠ []) : takeB (eS [112]).1 (stP l) = ⟨[.mk [112] [] [] [], rootN (l.map (elS [112]))], [], 1, 2 * l.length + 1⟩ ∧ takeB (eX x).1 ⟨[.mk [112] [] [] [], rootN (l.map (elS [112]))], [], 1, 2 * l.length + 1⟩ = stP (l ++ [x]) := by
  constructor
  · show startB [112] [] (stP l) = _
    rcases List.eq_nil_or_concat l with rfl | ⟨l', y, rfl⟩
    · rfl
    · have hy := hl y (by simp)
      rw [List.concat_eq_append] at *
      rw [stP_snoc]
      unfold startB startR
      rw [if_neg (by simp)]
      simp only [way_p _ y hy]
      rw [if_neg (by decide), textIn_nil]
      simp only [List.length_nil, List.map_append, List.length_append, List.length_cons]
      rfl
  · rw [stP_snoc]
    show textB x _ = _
    unfold textB newT
    simp only [List.nil_append]
    rw [if_pos ⟨trivial, hx⟩]
    rfl
theorem stP_o (l : List (List UInt8)) : (stP l).o ≤ 1 ∧ (stP l).n = 2 * l.length := by
  cases l with
  | nil => exact ⟨by decide, rfl⟩
  | cons x r => exact ⟨Nat.le_refl _, rfl⟩
theorem run_P : ∀ (r l : List (List UInt8)), (∀ x ∈ r, x ≠ []) → (∀ x ∈ l, x ≠ []) → l.length + r.length ≤ 100 → runB ((toksP r).map Prod.fst) (stP l) = some (stP (l ++ r))
  | [], l, _, _, _ => by
    rw [List.append_nil]
    rfl
  | x :: r, l, hx, hy, hl => by
    obtain ⟨h1, h2⟩ := step_P l x (hx x (by simp)) hy
    simp only [List.length_cons] at hl
    rw [toksP, List.map_append, runB_app]
    have : runB ([eS [112], eX x].map Prod.fst) (stP l) = some (stP (l ++ [x])) := by
      show (if (takeB (eS [112]).1 (stP l)).o ≤ 64 ∧ (takeB (eS [112]).1 (stP l)).n ≤ 2000 then (if (takeB (eX x).1 (takeB (eS [112]).1 (stP l))).o ≤ 64 ∧ (takeB (eX x).1 (takeB (eS [112]).1 (stP l))).n ≤ 2000 then some (takeB (eX x).1 (takeB (eS [112]).1 (stP l))) else none) else none) = _
      have ho := stP_o (l ++ [x])
      rw [h1, h2, if_pos ⟨by show 1 ≤ 64; omega, by show 2 * l.length + 1 ≤ 2000; omega⟩, if_pos ⟨by omega, by rw [ho.2]; simp; omega⟩]
    rw [this]
    show runB ((toksP r).map Prod.fst) (stP (l ++ [x])) = _
    rw [run_P r (l ++ [x]) (fun y h => hx y (by simp [h])) (by
      intro y h
      rcases List.mem_append.1 h with h | h
      · exact hy y h
      · simp only [List.mem_singleton] at h
        rw [h]
        exact hx x (by simp)) (by simp; omega), List.append_assoc]
    rfl
theorem build_P (r : List (List UInt8)) (hx : ∀ x ∈ r, x ≠ []) (hl : r.length ≤ 100) : buildB ((toksP r).map Prod.fst) = some (r.map (elS [112])) := by
  have := run_P r [] hx (fun _ h => by cases h) (by simpa using hl)
  have h0 : stP [] = bs0 := rfl
  rw [h0, List.nil_append] at this
  unfold buildB
  rw [this]
  rcases List.eq_nil_or_concat r with rfl | ⟨l', y, rfl⟩
  · rfl
  · have hy := hx y (by simp)
    rw [List.concat_eq_append, stP_snoc]
    have ht : textIn (.mk [112] [] [] []) y = elS [112] y := by
      unfold textIn
      rw [if_neg hy]
      rfl
    show some (textIn (addKid (rootN (l'.map (elS [112]))) (textIn (.mk [112] [] [] []) y)) []).kids = _
    rw [textIn_nil, ht, List.map_append]
    rfl
theorem sum_P : ∀ l : List (List UInt8), (∀ x ∈ l, x.length ≤ 100) → textSum (toksP l) ≤ 100 * l.length
  | [], _ => Nat.le_refl _
  | x :: r, h => by
    have := sum_P r (fun y hy => h y (by simp [hy]))
    have h1 := h x (by simp)
    rw [toksP, textSum_app, List.length_cons]
    show 0 + (x.length + 0) + _ ≤ _
    omega
theorem sum_B : ∀ l : List (List UInt8), (∀ x ∈ l, x.length ≤ 100) → textSum (toksB l) ≤ 100 * l.length
  | [], _ => Nat.le_refl _
  | x :: r, h => by
    have := sum_B r (fun y hy => h y (by simp [hy]))
    have h1 := h x (by simp)
    rw [toksB, textSum_app, List.length_cons]
    show 0 + (x.length + (0 + 0)) + _ ≤ _
    omega
theorem plain_P : ∀ l : List (List UInt8), ∀ e ∈ toksP l, e.1.name.length ≤ 281474976710656 ∧ e.1.attrs = [] ∧ e.2.1 = (none, 0, 0)
  | [], e, h => by cases h
  | x :: r, e, h => by
    rw [toksP] at h
    rcases List.mem_append.1 h with h | h
    · simp only [List.mem_cons, List.not_mem_nil, or_false] at h
      rcases h with rfl | rfl
      · exact ⟨by show 1 ≤ _; omega, rfl, rfl⟩
      · exact ⟨by show 0 ≤ _; omega, rfl, rfl⟩
    · exact plain_P r e h
theorem plain_B : ∀ l : List (List UInt8), ∀ e ∈ toksB l, e.1.name.length ≤ 281474976710656 ∧ e.1.attrs = [] ∧ e.2.1 = (none, 0, 0)
  | [], e, h => by cases h
  | x :: r, e, h => by
    rw [toksB] at h
    rcases List.mem_append.1 h with h | h
    · simp only [List.mem_cons, List.not_mem_nil, or_false] at h
      rcases h with rfl | rfl | rfl
      · exact ⟨by show 1 ≤ _; omega, rfl, rfl⟩
      · exact ⟨by show 0 ≤ _; omega, rfl, rfl⟩
      · exact ⟨by show 1 ≤ _; omega, rfl, rfl⟩
    · exact plain_B r e h
end Go.Proofs.Ytkdppcpkigpmdab
