/-
  What is built of elements that are begun and not ended.
-/
import Derived.Test.YtkdppcpkigpmdabH2
namespace Go.Proofs.Ytkdppcpkigpmdab
open Go.RowKit
open Utf1

/-- The law's names. -/
def nmN (i : Nat) : List UInt8 := [UInt8.ofNat (97 + i % 2), UInt8.ofNat (48 + i / 10), UInt8.ofNat (48 + i % 10)]
theorem nmN_ok : ∀ i, i < 60 → nmN i ∉ blocks ∧ nmN i ∉ voids ∧ (nmN i = nmN 0 → i = 0) := by decide
def elN (i : Nat) : Nd := .mk (nmN i) [] [] []
def eN (i : Nat) : Te := (⟨2, nmN i, [], []⟩, (none, 0, 0), false)
def eX (t : List UInt8) : Te := (⟨1, [], [], t⟩, (none, 0, 0), false)
def eE (n : List UInt8) : Te := (⟨3, n, [], []⟩, (none, 0, 0), false)
def chn : Nat → List Nd
  | 0 => []
  | k + 1 => elN k :: chn k
theorem chn_len : ∀ k, (chn k).length = k
  | 0 => rfl
  | k + 1 => by rw [chn, List.length_cons, chn_len k]
def stN (k : Nat) : Bs := ⟨chn k ++ [rootN []], [], k, k⟩
theorem take_eN (k : Nat) (hk : k < 60) : takeB (eN k).1 (stN k) = stN (k + 1) := by
  have h1 : takeB (eN k).1 (stN k) = startB (nmN k) [] (stN k) := rfl
  obtain ⟨hb, hv, -⟩ := nmN_ok k hk
  have hne : nmN k ≠ [] := by simp [nmN]
  rw [h1]
  unfold stN
  cases k with
  | zero =>
    rw [show chn 0 ++ [rootN []] = [rootN []] from rfl, start_plain _ [] hne hb hv, textIn_nil]
    rfl
  | succ k =>
    rw [show chn (k + 1) ++ [rootN []] = elN k :: (chn k ++ [rootN []]) from rfl, start_plain _ [] hne hb hv, textIn_nil]
    have : max (k + 1) ((chn k ++ [rootN []]).length + 1) = k + 1 + 1 := by
      rw [List.length_append, chn_len]
      simp
    rw [this]
    rfl
theorem run_eN : ∀ k, k ≤ 60 → runB (((List.range k).map eN).map Prod.fst) bs0 = some (stN k)
  | 0, _ => rfl
  | k + 1, hk => by
    rw [List.range_succ, List.map_append, List.map_append, runB_app, run_eN k (by omega)]
    show (if (takeB (eN k).1 (stN k)).o ≤ 64 ∧ (takeB (eN k).1 (stN k)).n ≤ 2000 then some (takeB (eN k).1 (stN k)) else none) = _
    rw [take_eN k (by omega), if_pos ⟨by show k + 1 ≤ 64; omega, by show k + 1 ≤ 2000; omega⟩]
def wrapN : Nat → Nd → Nd
  | 0, x => x
  | k + 1, x => wrapN k (.mk (nmN k) [] [] [x])
theorem close_eN : ∀ (k : Nat) (x : Nd) (t : List UInt8), closeR (k + 1) (x :: (chn k ++ [rootN []])) t = ([rootN [wrapN k (textIn x t)]], [])
  | 0, x, t => rfl
  | k + 1, x, t => by
    rw [show chn (k + 1) ++ [rootN []] = elN k :: (chn k ++ [rootN []]) from rfl]
    show closeR (k + 1) (addKid (elN k) (textIn x t) :: (chn k ++ [rootN []])) [] = _
    rw [close_eN k, textIn_nil]
    rfl
theorem inner_eN : ∀ k, k < 60 → innerR [nmN 0] (chn (k + 1) ++ [rootN []]) = 1
  | 0, _ => by
    show innerR [nmN 0] [elN 0, rootN []] = 1
    unfold innerR
    rw [if_neg (by simp), if_pos (by simp [elN, Nd.name])]
    rfl
  | k + 1, hk => by
    rw [show chn (k + 1 + 1) ++ [rootN []] = elN (k + 1) :: (chn (k + 1) ++ [rootN []]) from rfl]
    unfold innerR
    rw [if_neg (by simp), if_neg ?_]
    · exact inner_eN k (by omega)
    · intro h
      have : nmN (k + 1) = nmN 0 := by simpa [elN, Nd.name] using h
      exact absurd ((nmN_ok (k + 1) hk).2.2 this) (by omega)
theorem deep_wrapN : ∀ (k : Nat) (x : Nd), deepN (wrapN k x) = deepN x + k
  | 0, x => rfl
  | k + 1, x => by
    rw [wrapN, deep_wrapN k]
    have : deepN (.mk (nmN k) [] [] [x]) = deepN x + 1 := by
      rw [deepN, deepL, deepL, if_neg (by simp [nmN])]
      omega
    omega
theorem txt_wrapN : ∀ (k : Nat) (x : Nd), txtN (wrapN k x) = txtN x
  | 0, x => rfl
  | k + 1, x => by
    rw [wrapN, txt_wrapN k]
    simp [txtN, txtL]
/-- The law's tokens. -/
def toksN (n : Nat) (t : List UInt8) : List Te := (List.range n).map eN ++ [eX t, eE (nmN 0), eX t]
theorem build_N (k : Nat) (hk : k < 60) (t : List UInt8) (ht : t ≠ []) : ∃ W, buildB ((toksN (k + 1) t).map Prod.fst) = some [W, .mk [] [] t []] ∧ cntL [W, .mk [] [] t []] = k + 1 + 2 ∧ deepL [W, .mk [] [] t []] = k + 1 ∧ txtL [W, .mk [] [] t []] = t ++ t := by
  have h1 : takeB (eX t).1 (stN (k + 1)) = ⟨chn (k + 1) ++ [rootN []], t, k + 1, k + 2⟩ := by
    show textB t (stN (k + 1)) = _
    unfold textB stN newT
    simp only [List.nil_append]
    rw [if_pos ⟨trivial, ht⟩]
  have h2 : takeB (eE (nmN 0)).1 ⟨chn (k + 1) ++ [rootN []], t, k + 1, k + 2⟩ = ⟨[rootN [wrapN k (textIn (elN k) t)]], [], k + 1, k + 2⟩ := by
    show endB (nmN 0) _ = _
    unfold endB
    simp only []
    rw [inner_eN k hk, if_pos (by decide)]
    unfold shutB
    simp only []
    have hl : (chn (k + 1) ++ [rootN []]).length - 1 = k + 1 := by
      rw [List.length_append, chn_len]
      simp
    rw [hl, show chn (k + 1) ++ [rootN []] = elN k :: (chn k ++ [rootN []]) from rfl, close_eN]
  have h3 : takeB (eX t).1 ⟨[rootN [wrapN k (textIn (elN k) t)]], [], k + 1, k + 2⟩ = ⟨[rootN [wrapN k (textIn (elN k) t)]], t, k + 1, k + 3⟩ := by
    show textB t _ = _
    unfold textB newT
    simp only [List.nil_append]
    rw [if_pos ⟨trivial, ht⟩]
  have hrun : runB ((toksN (k + 1) t).map Prod.fst) bs0 = some ⟨[rootN [wrapN k (textIn (elN k) t)]], t, k + 1, k + 3⟩ := by
    unfold toksN
    rw [List.map_append, runB_app, run_eN (k + 1) (by omega)]
    show (if (takeB (eX t).1 (stN (k + 1))).o ≤ 64 ∧ (takeB (eX t).1 (stN (k + 1))).n ≤ 2000 then (if (takeB (eE (nmN 0)).1 (takeB (eX t).1 (stN (k + 1)))).o ≤ 64 ∧ (takeB (eE (nmN 0)).1 (takeB (eX t).1 (stN (k + 1)))).n ≤ 2000 then (if (takeB (eX t).1 (takeB (eE (nmN 0)).1 (takeB (eX t).1 (stN (k + 1))))).o ≤ 64 ∧ (takeB (eX t).1 (takeB (eE (nmN 0)).1 (takeB (eX t).1 (stN (k + 1))))).n ≤ 2000 then some (takeB (eX t).1 (takeB (eE (nmN 0)).1 (takeB (eX t).1 (stN (k + 1))))) else none) else none) else none) = _
    rw [h1, h2, h3, if_pos ⟨by show k + 1 ≤ 64; omega, by show k + 2 ≤ 2000; omega⟩, if_pos ⟨by show k + 1 ≤ 64; omega, by show k + 2 ≤ 2000; omega⟩, if_pos ⟨by show k + 1 ≤ 64; omega, by show k + 3 ≤ 2000; omega⟩]
  have hgood := (runB_good _ _ _ good0 (by decide) (by decide) hrun).1
  have htree : treeB ⟨[rootN [wrapN k (textIn (elN k) t)]], t, k + 1, k + 3⟩ = [wrapN k (textIn (elN k) t), .mk [] [] t []] := by
    show (textIn (rootN [wrapN k (textIn (elN k) t)]) t).kids = _
    unfold textIn
    rw [if_neg ht, if_neg ht]
    rfl
  have hx : textIn (elN k) t = .mk (nmN k) [] [] [.mk [] [] t []] := by
    unfold textIn
    rw [if_neg ht]
    rfl
  refine ⟨wrapN k (textIn (elN k) t), ?_, ?_, ?_, ?_⟩
  · unfold buildB
    rw [hrun]
    show some (treeB _) = _
    rw [htree]
  · rw [← htree, tree_cnt hgood]
  · rw [deepL, deepL, deepL, deep_wrapN, hx]
    simp [deepN, deepL, nmN]
    omega
  · rw [txtL, txtL, txtL, txt_wrapN, hx]
    simp [txtN, txtL]
end Go.Proofs.Ytkdppcpkigpmdab
