/-
  Two stable trees of the same tokens are the same.
-/
import Derived.Test.YtholfdfjapgfbaaM7
namespace Utf1

/-- What may stand behind the tokens of a list of nodes: nothing, or an end. -/
def EndAt : List Tk → Prop
  | [] => True
  | k :: _ => k.kind = 3
mutual
theorem tkN_inj : ∀ (n m : Nd) (p i b p' i' b' : Bool) (x y : List Tk), stN p i b n = true → stN p' i' b' m = true → tkN n ++ x = tkN m ++ y → n = m ∧ x = y
  | .mk n a t k, .mk n' a' t' k', p, i, b, p', i', b', x, y, h, h', e => by
    rw [tkN, tkN] at e
    by_cases hn : n = []
    · obtain ⟨_, _, ha, hk⟩ := stN_text hn h
      rw [if_pos hn] at e
      by_cases hn' : n' = []
      · obtain ⟨_, _, ha', hk'⟩ := stN_text hn' h'
        rw [if_pos hn'] at e
        simp only [List.cons_append, List.nil_append, List.cons.injEq, Tk.mk.injEq] at e
        subst hn
        subst hn'
        subst ha
        subst ha'
        subst hk
        subst hk'
        rw [e.1.2.2.2.2]
        exact ⟨rfl, e.2⟩
      · rw [if_neg hn'] at e
        simp at e
    · obtain ⟨ht, _, _, _, h4, h5⟩ := stN_elem hn h
      rw [if_neg hn] at e
      by_cases hn' : n' = []
      · rw [if_pos hn'] at e
        simp at e
      · obtain ⟨ht', _, _, _, h4', h5'⟩ := stN_elem hn' h'
        rw [if_neg hn'] at e
        simp only [List.cons_append, List.cons.injEq, Tk.mk.injEq] at e
        obtain ⟨⟨_, e1, e2, _, _⟩, e3⟩ := e
        subst e1
        subst e2
        subst ht
        subst ht'
        by_cases hv : n ∈ voids
        · rw [if_pos hv, if_pos hv, List.nil_append, List.nil_append] at e3
          rw [h4 hv, h4' hv]
          exact ⟨rfl, e3⟩
        · rw [if_neg hv, if_neg hv, List.append_assoc, List.append_assoc] at e3
          obtain ⟨e4, e5⟩ := tkL_inj k k' _ _ _ _ _ _ (⟨3, n, [], false, []⟩ :: x) (⟨3, n, [], false, []⟩ :: y) (h5 hv) (h5' hv) rfl rfl e3
          subst e4
          simp only [List.cons.injEq] at e5
          exact ⟨rfl, e5.2⟩
theorem tkL_inj : ∀ (l m : List Nd) (p i b p' i' b' : Bool) (x y : List Tk), stL p i b l = true → stL p' i' b' m = true → EndAt x → EndAt y → tkL l ++ x = tkL m ++ y → l = m ∧ x = y
  | [], [], _, _, _, _, _, _, x, y, _, _, _, _, e => ⟨rfl, by simpa [tkL] using e⟩
  | [], m :: q, _, _, _, _, _, _, x, y, _, h', hx, _, e => by
    obtain ⟨n, a, t, k⟩ := m
    rw [tkL, tkL, tkN] at e
    exfalso
    split at e
    · simp only [List.nil_append, List.cons_append] at e
      rw [e] at hx
      exact absurd hx (by decide : (1 : Nat) ≠ 3)
    · simp only [List.nil_append, List.cons_append] at e
      rw [e] at hx
      exact absurd hx (by decide : (2 : Nat) ≠ 3)
  | n :: q, [], _, _, _, _, _, _, x, y, h, _, _, hy, e => by
    obtain ⟨n, a, t, k⟩ := n
    rw [tkL, tkL, tkN] at e
    exfalso
    split at e
    · simp only [List.nil_append, List.cons_append] at e
      rw [← e] at hy
      exact absurd hy (by decide : (1 : Nat) ≠ 3)
    · simp only [List.nil_append, List.cons_append] at e
      rw [← e] at hy
      exact absurd hy (by decide : (2 : Nat) ≠ 3)
  | n :: q, m :: s, _, _, _, _, _, _, x, y, h, h', hx, hy, e => by
    rw [tkL, tkL, List.append_assoc, List.append_assoc] at e
    obtain ⟨e1, e2⟩ := tkN_inj n m _ _ _ _ _ _ _ _ (stL_cons h).1 (stL_cons h').1 e
    obtain ⟨e3, e4⟩ := tkL_inj q s _ _ _ _ _ _ x y (stL_cons h).2 (stL_cons h').2 hx hy e2
    rw [e1, e3]
    exact ⟨rfl, e4⟩
end
theorem stable_st {ns : List Nd} (h : stable ns = true) : stL false false false ns = true := by
  unfold stable at h
  rw [Bool.and_eq_true] at h
  exact h.2
/-- Two stable trees of one page are the same. -/
theorem page_inj {a b : List Nd} (ha : stable a = true) (hb : stable b = true) (h : htL a = htL b) : a = b := by
  have e : tkL a = tkL b := by rw [← toks_stable ha, ← toks_stable hb, h]
  exact (tkL_inj a b _ _ _ _ _ _ [] [] (stable_st ha) (stable_st hb) trivial trivial (by rw [e])).1
end Utf1
