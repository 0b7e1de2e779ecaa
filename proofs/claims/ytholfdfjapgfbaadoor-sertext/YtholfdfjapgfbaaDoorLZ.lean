/-
  A stable tree's page, read: its tokens are the tree's own; two stable trees of one page are the same.
-/
import Derived.Test.YtholfdfjapgfbaaDoorN10
import Derived.Test.YtholfdfjapgfbaaDoorN2
import Derived.Test.YtholfdfjapgfbaaDoorN0
import Derived.SliceStrings
import Derived.OpenShut
import Derived.SizedLaws
import Derived.Test.YtholfdfjapgfbaaDoorN11
import Derived.Test.YtholfdfjapgfbaaDoorN12
import Derived.Test.YtholfdfjapgfbaaDoorB8

namespace Utf1
open Go

theorem pl_facts {c : UInt8} (h : nmB [45, 95, 58] c = true) : isNm c = false ∧ isAt c = false ∧ isGap c = false ∧ low8 c = c ∧ c ≠ 60 ∧ c ≠ 62 ∧ c ≠ 33 ∧ c ≠ 63 ∧ c ≠ 47 := by
  unfold nmB at h
  rw [Bool.or_eq_true, Bool.or_eq_true] at h
  have key : SmallB c → isNm c = false ∧ isAt c = false ∧ isGap c = false ∧ low8 c = c ∧ c ≠ 60 ∧ c ≠ 62 ∧ c ≠ 33 ∧ c ≠ 63 ∧ c ≠ 47 := by
    intro hs
    obtain ⟨a1, a2, a3, a4, a5, a6⟩ := small_facts hs
    exact ⟨a1, a2, a3, a4, a5, a6, beq_eq_false_iff_ne.1 (small_ne hs 33 (by decide)), beq_eq_false_iff_ne.1 (small_ne hs 63 (by decide)), beq_eq_false_iff_ne.1 (small_ne hs 47 (by decide))⟩
  rcases h with (h | h) | h
  · exact key (.inl (of_decide_eq_true h))
  · exact key (.inr (of_decide_eq_true h))
  · have h := of_decide_eq_true h
    simp only [List.mem_cons, List.not_mem_nil, or_false] at h
    rcases h with rfl | rfl | rfl <;> decide
/-- A name that may be. -/
def Plain (n : List UInt8) : Prop := (∃ c t, n = c :: t ∧ 97 ≤ c.toNat ∧ c.toNat ≤ 122) ∧ ∀ c ∈ n, nmB [45, 95, 58] c = true
theorem plain_attr {n : List UInt8} (h : isNmL [45, 95, 58] n = true) : Plain n := by
  cases n with
  | nil => cases h
  | cons c t =>
    rw [isNmL, Bool.and_eq_true] at h
    exact ⟨⟨c, t, rfl, of_decide_eq_true h.1⟩, List.all_eq_true.1 h.2⟩
theorem plain_elem {n : List UInt8} (h : isNmL [45] n = true) : Plain n := by
  cases n with
  | nil => cases h
  | cons c t =>
    rw [isNmL, Bool.and_eq_true] at h
    refine ⟨⟨c, t, rfl, of_decide_eq_true h.1⟩, fun x hx => ?_⟩
    have := List.all_eq_true.1 h.2 x hx
    unfold nmB at this ⊢
    rw [Bool.or_eq_true] at this ⊢
    rcases this with h | h
    · exact .inl h
    · refine .inr (decide_eq_true ?_)
      have h := of_decide_eq_true h
      simp only [List.mem_cons, List.not_mem_nil, or_false] at h
      rw [h]
      decide
theorem mayE_plain {n : List UInt8} (h : mayE n = true) : Plain n ∧ rawOf n = none := by
  unfold mayE at h
  rw [Bool.and_eq_true] at h
  refine ⟨plain_elem h.2, ?_⟩
  cases hr : rawOf n with
  | none => rfl
  | some b => rw [hr] at h; exact absurd h.1 (by simp)
theorem beg_startP (n r : List UInt8) (h : Plain n) : beg (60 :: (n ++ r)) = 3 := by
  obtain ⟨⟨c, t, rfl, h1, h2⟩, hs⟩ := h
  have hc := pl_facts (hs c (List.mem_cons_self ..))
  have k33 := hc.2.2.2.2.2.2.1
  have k63 := hc.2.2.2.2.2.2.2.1
  rw [beg_lt]
  show beg1 (c :: (t ++ r)) = 3
  unfold beg1
  simp only
  rw [if_neg (by simp [List.isPrefixOf, Ne.symm k33]), if_neg (by simp [k33, k63]), if_pos (isLet_small h1 h2)]
theorem beg_endP (n r : List UInt8) (h : Plain n) : beg (60 :: 47 :: (n ++ r)) = 3 := by
  obtain ⟨⟨c, t, rfl, h1, h2⟩, hs⟩ := h
  rw [beg_lt]
  show beg1 (47 :: c :: (t ++ r)) = 3
  unfold beg1
  simp only
  rw [if_neg (by simp [List.isPrefixOf]), if_neg (by decide), if_neg (by decide), if_neg (by decide)]
  show beg2 (c :: (t ++ r)) = 3
  unfold beg2
  simp only
  rw [if_pos (isLet_small h1 h2)]
theorem getD_startP (n r : List UInt8) (h : Plain n) : (60 :: (n ++ r)).getD 1 0 ≠ 47 := by
  obtain ⟨⟨c, t, rfl, h1, h2⟩, hs⟩ := h
  exact (pl_facts (hs c (List.mem_cons_self ..))).2.2.2.2.2.2.2.2
theorem nm_allP {n : List UInt8} (h : Plain n) : ∀ c ∈ n, (!isNm c) = true := fun c hc => by rw [(pl_facts (h.2 c hc)).1]; rfl
theorem lowerP (n : List UInt8) (h : ∀ c ∈ n, nmB [45, 95, 58] c = true) : lower n = n := by
  unfold lower
  induction n with
  | nil => rfl
  | cons c t ih =>
    rw [List.map_cons, (pl_facts (h c (List.mem_cons_self ..))).2.2.2.1, ih (fun x hx => h x (List.mem_cons_of_mem _ hx))]
theorem toks_stopP (n r : List UInt8) (h : Plain n) : toks (60 :: 47 :: (n ++ 62 :: r)) = ⟨3, n, [], false, []⟩ :: toks r := by
  have hb : tagBody (60 :: 47 :: (n ++ 62 :: r)) = n ++ 62 :: r := by
    unfold tagBody
    rw [if_pos (by rfl)]
    rfl
  have ht := take_until (p := fun x => !isNm x) (d := 62) (by decide) r n (nm_allP h)
  have hk : tagOf (60 :: 47 :: (n ++ 62 :: r)) = some (⟨3, n, [], false, []⟩, r) := by
    unfold tagOf
    rw [hb, ht.2, attrsOf_end [] (62 :: r) r (by rfl)]
    simp only
    rw [if_pos (by rfl), ht.1, lowerP n h.2]
  rw [toks_tag _ r _ (beg_endP n _ h) hk]
  have : withRaw ⟨3, n, [], false, []⟩ r = ([], r) := by
    unfold withRaw
    rw [if_neg (by simp)]
  rw [this]
  rfl
theorem one_attr (a v r : List UInt8) (acc : List (List UInt8 × List UInt8)) (ha : Plain a) (hn : a ∉ acc.map Prod.fst) : attrsOf acc (32 :: (a ++ 61 :: 34 :: (esc true v ++ 34 :: r))) = attrsOf (acc ++ [(a, v)]) r := by
  obtain ⟨⟨c, t, rfl, h1, h2⟩, hs⟩ := ha
  have hc := pl_facts (hs c (List.mem_cons_self ..))
  have hta : ∀ x ∈ t, (!isAt x) = true := fun x hx => by rw [(pl_facts (hs x (List.mem_cons_of_mem _ hx))).2.1]; rfl
  have h3 := take_until (p := fun x => !isAt x) (d := 61) (by decide) (34 :: (esc true v ++ 34 :: r)) t hta
  have h4 := take_until (p := fun x => x != (34 : UInt8)) (d := 34) (by decide) r (esc true v) (fun x hx => by simpa using (esc_bytes true v x hx).2.2 rfl)
  have h5 : oneAt c (t ++ 61 :: 34 :: (esc true v ++ 34 :: r)) = some (c :: t, esc true v, r) := by
    unfold oneAt
    rw [h3.2, h3.1]
    simp only [show (61 :: 34 :: (esc true v ++ 34 :: r)).dropWhile isBl = 61 :: 34 :: (esc true v ++ 34 :: r) from rfl, show (34 :: (esc true v ++ 34 :: r)).dropWhile isBl = 34 :: (esc true v ++ 34 :: r) from rfl, true_or, if_true]
    rw [h4.1, h4.2]
  rw [attrsOf_one acc _ (t ++ 61 :: 34 :: (esc true v ++ 34 :: r)) c _ _ _ (by
    show List.dropWhile isGap (32 :: c :: _) = _
    rw [List.dropWhile_cons, if_pos (by decide), List.dropWhile_cons, if_neg (by rw [hc.2.2.1]; decide)]
    rfl) hc.2.2.2.2.2.1 h5]
  have : addAt acc (lower (c :: t)) (res (esc true v)) = acc ++ [(c :: t, v)] := by
    rw [lowerP _ hs, res_esc]
    unfold addAt
    rw [if_neg hn]
  rw [this]
theorem all_attrs (r : List UInt8) : ∀ (a acc : List (List UInt8 × List UInt8)), (∀ kv ∈ a, Plain kv.1) → ((acc ++ a).map Prod.fst).Nodup → attrsOf acc (atsH a ++ 62 :: r) = some (acc ++ a, false, r)
  | [], acc, _, _ => by
    rw [show atsH [] ++ 62 :: r = 62 :: r from rfl, attrsOf_end acc (62 :: r) r (by rfl), List.append_nil]
    rfl
  | (k, v) :: a, acc, h1, h2 => by
    have e : atsH ((k, v) :: a) ++ 62 :: r = 32 :: (k ++ 61 :: 34 :: (esc true v ++ 34 :: (atsH a ++ 62 :: r))) := by
      rw [atsH, atH]
      simp only [List.append_assoc, List.cons_append, List.nil_append]
    have hn : k ∉ acc.map Prod.fst := by
      intro hm
      rw [List.map_append, List.nodup_append] at h2
      exact h2.2.2 k hm k (by simp) rfl
    rw [e, one_attr k v _ acc (h1 (k, v) (List.mem_cons_self ..)) hn, all_attrs r a (acc ++ [(k, v)]) (fun kv hkv => h1 kv (List.mem_cons_of_mem _ hkv)) (by rw [List.append_assoc]; exact h2), List.append_assoc]
    rfl
theorem mayA_facts {a : List (List UInt8 × List UInt8)} (h : mayA a = true) : (∀ kv ∈ a, Plain kv.1) ∧ (a.map Prod.fst).Nodup := by
  unfold mayA at h
  rw [Bool.and_eq_true] at h
  exact ⟨fun kv hkv => plain_attr (List.all_eq_true.1 h.1 kv hkv), of_decide_eq_true h.2⟩
theorem toks_elem (n r : List UInt8) (a : List (List UInt8 × List UInt8)) (hn : mayE n = true) (ha : mayA a = true) : toks (60 :: (n ++ (atsH a ++ 62 :: r))) = ⟨2, n, a, false, []⟩ :: toks r := by
  obtain ⟨hp, hraw⟩ := mayE_plain hn
  obtain ⟨ha1, ha2⟩ := mayA_facts ha
  have hb : tagBody (60 :: (n ++ (atsH a ++ 62 :: r))) = n ++ (atsH a ++ 62 :: r) := by
    unfold tagBody
    rw [if_neg (getD_startP n _ hp)]
    rfl
  obtain ⟨d, x, hd, hdx⟩ : ∃ d x, (fun y => !isNm y) d = false ∧ atsH a ++ 62 :: r = d :: x := by
    cases a with
    | nil => exact ⟨62, r, by decide, rfl⟩
    | cons kv a => exact ⟨32, _, by decide, rfl⟩
  have ht := take_until (p := fun x => !isNm x) hd x n (nm_allP hp)
  rw [← hdx] at ht
  have hk : tagOf (60 :: (n ++ (atsH a ++ 62 :: r))) = some (⟨2, n, a, false, []⟩, r) := by
    unfold tagOf
    rw [hb, ht.2, all_attrs r a [] ha1 (by simpa using ha2)]
    simp only
    rw [if_neg (getD_startP n _ hp), ht.1, lowerP n hp.2]
    rfl
  rw [toks_tag _ r _ (beg_startP n _ hp) hk, withRaw_none _ _ _ _ _ hraw]
  rfl

mutual
/-- The tokens of a node. -/
def tkN : Nd → List Tk
  | .mk n a t k => if n = [] then [⟨1, [], [], false, t⟩] else ⟨2, n, a, false, []⟩ :: (if n ∈ voids then [] else tkL k ++ [⟨3, n, [], false, []⟩])
def tkL : List Nd → List Tk
  | [] => []
  | n :: r => tkN n ++ tkL r
end
theorem stN_text {p i b : Bool} {n : List UInt8} {a : List (List UInt8 × List UInt8)} {t : List UInt8} {k : List Nd} (hn : n = []) (h : stN p i b (.mk n a t k) = true) : t ≠ [] ∧ b = false ∧ a = [] ∧ k = [] := by
  rw [stN, if_pos hn] at h
  simp only [Bool.and_eq_true, Bool.not_eq_true', List.isEmpty_iff] at h
  refine ⟨?_, h.1.1.2, h.1.2, h.2⟩
  intro e
  rw [e] at h
  exact absurd h.1.1.1 (by decide)
theorem stN_elem {p i b : Bool} {n : List UInt8} {a : List (List UInt8 × List UInt8)} {t : List UInt8} {k : List Nd} (hn : n ≠ []) (h : stN p i b (.mk n a t k) = true) : t = [] ∧ mayE n = true ∧ mayA a = true ∧ ((p && decide (n ∈ blocks)) || (i && decide (n = [108, 105]))) = false ∧ (n ∈ voids → k = []) ∧ (n ∉ voids → stL (p || decide (n = [112])) (itm i n) false k = true) := by
  rw [stN, if_neg hn] at h
  rw [Bool.and_eq_true, Bool.and_eq_true, Bool.and_eq_true, Bool.and_eq_true] at h
  obtain ⟨⟨⟨⟨h1, h2⟩, h3⟩, h4⟩, h5⟩ := h
  refine ⟨List.isEmpty_iff.1 h1, h2, h3, by rw [Bool.not_eq_true'] at h4; exact h4, fun hv => ?_, fun hv => ?_⟩
  · rw [if_pos hv] at h5
    exact List.isEmpty_iff.1 h5
  · rw [if_neg hv] at h5
    exact h5
theorem stL_cons {p i b : Bool} {n : Nd} {r : List Nd} (h : stL p i b (n :: r) = true) : stN p i b n = true ∧ stL p i (decide (n.name = [])) r = true := by
  rw [stL, Bool.and_eq_true] at h
  exact h
theorem ht_beg {p i : Bool} {m : Nd} {q : List Nd} (r : List UInt8) (h : stL p i true (m :: q) = true) : beg (htL (m :: q) ++ r) ≠ 0 := by
  obtain ⟨n, a, t, k⟩ := m
  have h1 := (stL_cons h).1
  by_cases hn : n = []
  · exact absurd (stN_text hn h1).2.1 (by decide)
  · have hp := (mayE_plain (stN_elem hn h1).2.1).1
    rw [htL, htN, if_neg hn]
    simp only [List.append_assoc, List.cons_append, List.nil_append]
    rw [beg_startP n _ hp]
    decide

mutual
theorem toks_htN : ∀ (nd : Nd) (p i b : Bool) (r : List UInt8), stN p i b nd = true → (nd.name = [] → r = [] ∨ beg r ≠ 0) → toks (htN nd ++ r) = tkN nd ++ toks r
  | .mk n a t k, p, i, b, r, h, hr => by
    by_cases hn : n = []
    · obtain ⟨h1, _, _, _⟩ := stN_text hn h
      rw [htN, tkN, if_pos hn, if_pos hn]
      rcases hr hn with rfl | hr
      · rw [List.append_nil, toks_esc t h1, toks_nil]
        rfl
      · rw [toks_ahead _ r hr (esc_ne _ _ h1) (fun c hc => (esc_bytes false t c hc).1), res_esc]
        rfl
    · obtain ⟨_, h2, h3, _, h4, h5⟩ := stN_elem hn h
      rw [htN, tkN, if_neg hn, if_neg hn]
      by_cases hv : n ∈ voids
      · rw [if_pos hv, if_pos hv]
        simp only [List.append_assoc, List.cons_append, List.nil_append]
        rw [toks_elem n r a h2 h3]
      · rw [if_neg hv, if_neg hv]
        have e : [60] ++ n ++ atsH a ++ [62] ++ (htL k ++ ([60, 47] ++ n ++ [62])) ++ r = 60 :: (n ++ (atsH a ++ 62 :: (htL k ++ (60 :: 47 :: (n ++ 62 :: r))))) := by simp only [List.append_assoc, List.cons_append, List.nil_append]
        have hp := (mayE_plain h2).1
        rw [e, toks_elem n _ a h2 h3, toks_htL k _ _ _ (60 :: 47 :: (n ++ 62 :: r)) (h5 hv) (.inr (by rw [beg_endP n _ hp]; decide)), toks_stopP n r hp]
        simp only [List.append_assoc, List.cons_append, List.nil_append]
theorem toks_htL : ∀ (ns : List Nd) (p i b : Bool) (r : List UInt8), stL p i b ns = true → (r = [] ∨ beg r ≠ 0) → toks (htL ns ++ r) = tkL ns ++ toks r
  | [], _, _, _, r, _, _ => by
    rw [htL, tkL]
    rfl
  | n :: q, p, i, b, r, h, hr => by
    obtain ⟨h1, h2⟩ := stL_cons h
    rw [htL, tkL, List.append_assoc, List.append_assoc, toks_htN n p i b (htL q ++ r) h1 ?_, toks_htL q _ _ _ r h2 hr]
    intro hn
    rw [decide_eq_true hn] at h2
    cases q with
    | nil => rw [htL]; exact hr
    | cons m q => exact .inr (ht_beg r h2)
end
/-- A stable tree's page has its tokens. -/
theorem toks_stable {ns : List Nd} (h : stable ns = true) : toks (htL ns) = tkL ns := by
  unfold stable at h
  rw [Bool.and_eq_true] at h
  have := toks_htL ns _ _ _ [] h.2 (.inl rfl)
  rw [List.append_nil, toks_nil, List.append_nil] at this
  exact this
end Utf1

/-
  Two stable trees of the same tokens are the same.
-/
namespace Utf1

/-- What may stand behind the tokens of a list of nodes: nothing, or an end. -/
def EndAt : List Tk → Prop
  | [] => True
  | k :: _ => k.kind = 3
mutual
theorem tkN_inj : ∀ (n m : Nd) (p i b p' i' b' : Bool) (x y : List Tk), stN p i b n = true → stN p' i' b' m = true → tkN n ++ x = tkN m ++ y → n = m ∧ x = y
  | .mk n a t k, .mk n' a' t' k', p, i, b, p', i', b', x, y, h, h', e => by
    rw [tkN, tkN] at e
    by_cases hn : n = []
    · obtain ⟨_, _, ha, hk⟩ := stN_text hn h
      rw [if_pos hn] at e
      by_cases hn' : n' = []
      · obtain ⟨_, _, ha', hk'⟩ := stN_text hn' h'
        rw [if_pos hn'] at e
        simp only [List.cons_append, List.nil_append, List.cons.injEq, Tk.mk.injEq] at e
        subst hn
        subst hn'
        subst ha
        subst ha'
        subst hk
        subst hk'
        rw [e.1.2.2.2.2]
        exact ⟨rfl, e.2⟩
      · rw [if_neg hn'] at e
        simp at e
    · obtain ⟨ht, _, _, _, h4, h5⟩ := stN_elem hn h
      rw [if_neg hn] at e
      by_cases hn' : n' = []
      · rw [if_pos hn'] at e
        simp at e
      · obtain ⟨ht', _, _, _, h4', h5'⟩ := stN_elem hn' h'
        rw [if_neg hn'] at e
        simp only [List.cons_append, List.cons.injEq, Tk.mk.injEq] at e
        obtain ⟨⟨_, e1, e2, _, _⟩, e3⟩ := e
        subst e1
        subst e2
        subst ht
        subst ht'
        by_cases hv : n ∈ voids
        · rw [if_pos hv, if_pos hv, List.nil_append, List.nil_append] at e3
          rw [h4 hv, h4' hv]
          exact ⟨rfl, e3⟩
        · rw [if_neg hv, if_neg hv, List.append_assoc, List.append_assoc] at e3
          obtain ⟨e4, e5⟩ := tkL_inj k k' _ _ _ _ _ _ (⟨3, n, [], false, []⟩ :: x) (⟨3, n, [], false, []⟩ :: y) (h5 hv) (h5' hv) rfl rfl e3
          subst e4
          simp only [List.cons.injEq] at e5
          exact ⟨rfl, e5.2⟩
theorem tkL_inj : ∀ (l m : List Nd) (p i b p' i' b' : Bool) (x y : List Tk), stL p i b l = true → stL p' i' b' m = true → EndAt x → EndAt y → tkL l ++ x = tkL m ++ y → l = m ∧ x = y
  | [], [], _, _, _, _, _, _, x, y, _, _, _, _, e => ⟨rfl, by simpa [tkL] using e⟩
  | [], m :: q, _, _, _, _, _, _, x, y, _, h', hx, _, e => by
    obtain ⟨n, a, t, k⟩ := m
    rw [tkL, tkL, tkN] at e
    exfalso
    split at e
    · simp only [List.nil_append, List.cons_append] at e
      rw [e] at hx
      exact absurd hx (by decide : (1 : Nat) ≠ 3)
    · simp only [List.nil_append, List.cons_append] at e
      rw [e] at hx
      exact absurd hx (by decide : (2 : Nat) ≠ 3)
  | n :: q, [], _, _, _, _, _, _, x, y, h, _, _, hy, e => by
    obtain ⟨n, a, t, k⟩ := n
    rw [tkL, tkL, tkN] at e
    exfalso
    split at e
    · simp only [List.nil_append, List.cons_append] at e
      rw [← e] at hy
      exact absurd hy (by decide : (1 : Nat) ≠ 3)
    · simp only [List.nil_append, List.cons_append] at e
      rw [← e] at hy
      exact absurd hy (by decide : (2 : Nat) ≠ 3)
  | n :: q, m :: s, _, _, _, _, _, _, x, y, h, h', hx, hy, e => by
    rw [tkL, tkL, List.append_assoc, List.append_assoc] at e
    obtain ⟨e1, e2⟩ := tkN_inj n m _ _ _ _ _ _ _ _ (stL_cons h).1 (stL_cons h').1 e
    obtain ⟨e3, e4⟩ := tkL_inj q s _ _ _ _ _ _ x y (stL_cons h).2 (stL_cons h').2 hx hy e2
    rw [e1, e3]
    exact ⟨rfl, e4⟩
end
theorem stable_st {ns : List Nd} (h : stable ns = true) : stL false false false ns = true := by
  unfold stable at h
  rw [Bool.and_eq_true] at h
  exact h.2
/-- Two stable trees of one page are the same. -/
theorem page_inj {a b : List Nd} (ha : stable a = true) (hb : stable b = true) (h : htL a = htL b) : a = b := by
  have e : tkL a = tkL b := by rw [← toks_stable ha, ← toks_stable hb, h]
  exact (tkL_inj a b _ _ _ _ _ _ [] [] (stable_st ha) (stable_st hb) trivial trivial (by rw [e])).1
end Utf1

/-
  dom.Text at a tree that is read alone; the texts of a stable tree's tokens.
-/
namespace Utf1
mutual
/-- All text of a node. -/
def xtN : Nd → List UInt8
  | .mk _ _ t k => t ++ xtL k
def xtL : List Nd → List UInt8
  | [] => []
  | n :: r => xtN n ++ xtL r
end
theorem xtN_kids (n : Nd) : xtN n = n.text ++ xtL n.kids := by
  cases n
  rw [xtN]
  rfl
theorem xtL_app : ∀ a b : List Nd, xtL (a ++ b) = xtL a ++ xtL b
  | [], b => by simp [xtL]
  | n :: a, b => by rw [List.cons_append, xtL, xtL, xtL_app a b, List.append_assoc]
mutual
theorem xtN_len : ∀ n : Nd, (xtN n).length ≤ wsN n
  | .mk n a t k => by
    rw [xtN, wsN, List.length_append]
    have := xtL_len k
    omega
theorem xtL_len : ∀ l : List Nd, (xtL l).length ≤ wsL l
  | [] => Nat.le_refl _
  | n :: r => by
    rw [xtL, wsL, List.length_append]
    have := xtN_len n
    have := xtL_len r
    omega
end
/-- The texts of tokens. -/
def kTxt : List Tk → List UInt8
  | [] => []
  | k :: r => (if k.kind = 1 then k.text else []) ++ kTxt r
theorem kTxt_app : ∀ a b, kTxt (a ++ b) = kTxt a ++ kTxt b
  | [], b => by simp [kTxt]
  | n :: a, b => by rw [List.cons_append, kTxt, kTxt, kTxt_app a b, List.append_assoc]
mutual
theorem kTxt_N : ∀ (x : Nd) (p i b : Bool), stN p i b x = true → kTxt (tkN x) = xtN x
  | .mk n a t k, p, i, b, h => by
    by_cases hn : n = []
    · obtain ⟨_, _, _, hk⟩ := stN_text hn h
      rw [tkN, if_pos hn, xtN, hk, xtL]
      rfl
    · obtain ⟨ht, _, _, _, h4, h5⟩ := stN_elem hn h
      rw [tkN, if_neg hn, xtN, ht]
      by_cases hv : n ∈ voids
      · rw [if_pos hv, h4 hv, xtL]
        rfl
      · rw [if_neg hv]
        show [] ++ kTxt (tkL k ++ [⟨3, n, [], false, []⟩]) = [] ++ xtL k
        rw [kTxt_app, kTxt_L k _ _ _ (h5 hv)]
        simp [kTxt]
theorem kTxt_L : ∀ (l : List Nd) (p i b : Bool), stL p i b l = true → kTxt (tkL l) = xtL l
  | [], _, _, _, _ => by rw [tkL, xtL]; rfl
  | x :: l, p, i, b, h => by
    rw [tkL, xtL, kTxt_app, kTxt_N x _ _ _ (stL_cons h).1, kTxt_L l _ _ _ (stL_cons h).2]
end
end Utf1
namespace Go.Proofs.YtholfdfjapgfbaaDoor.Dm
open Go.RowKit
open Utf1

set_option maxRecDepth 100000 in
set_option maxHeartbeats 8000000 in
theorem writeText_nst (w0 : World) : ∀ (D : Nat) (w : World) (v : Value) (ns : List Nd) (acc : List UInt8), NAtD w0 D v ns → Below w0.heap.size w0 w → PB w0 w acc → acc.length + (xtL ns).length ≤ 1000000000 →
    Calls Tryd.prog 22 #[.pointer (some ⟨w0.heap.size, 0, none⟩), v] w (WPost w0 w acc (xtL ns)) := by
  intro D
  induction D with
  | zero => intro w v ns acc h; exact h.elim
  | succ D0 ih =>
  intro w v ns acc hk hb hu hlen
  obtain ⟨p, c, rfl, hNm, hnode⟩ := hk
  have HNODE := hide hnode
  have HBW := hide hb
  have HBU := hide hu
  have HIH := hide ih
  have HLEN := hide hlen
  obtain ⟨N, hN⟩ : ∃ N, N = ns.length := ⟨_, rfl⟩
  rw [← hN] at hNm ⊢
  have HN := hide hN
  clear hnode hb ih hN hu hlen
  go_enter Tryd.func22, Tryd.ntmps22
  go_wp2_with fail
  go_loopg [8] N (fun k v8 wr => ∃ (j : Nat) (d rest : List Nd), rest.length = k ∧ d.length = j ∧ j + k = N ∧ v8 = .int .i64 (j : Int) ∧ Hid (ns = d ++ rest) ∧ Hid (PB w0 wr (acc ++ xtL d) ∧ Below w0.heap.size w wr ∧ Lib.OthersKept 5 (some w0.heap.size) w wr))
  case atStart => exact ⟨0, [], ns, HN.out.symm, rfl, by omega, rfl, hide rfl, hide ⟨by rw [show xtL [] = [] from rfl, List.append_nil]; exact HBU.out, Below.refl _ _, Lib.OthersKept.refl _ _ _⟩⟩
  case round =>
    obtain ⟨j, d, rest, rfl, hdj, hjk, rfl, HD, HS⟩ := hrel
    clear HBU
    match rest, hjk, HD with
    | [], hjk, HD =>
      have e1 : d = ns := by
        have := HD.out
        rw [List.append_nil] at this
        exact this.symm
      simp only [List.length_nil, Nat.add_zero] at hjk
      subst hjk
      subst e1
      clear HD hdj
      go_wp2_with fail
      go_end0
      exact ⟨rfl, HS.out⟩
    | nd :: rest, hjk, HD =>
      have hjN : j < N := by simp only [List.length_cons] at hjk; omega
      have hge : ns[j]? = some nd := by
        rw [HD.out, List.getElem?_append_right (by omega), hdj, Nat.sub_self]
        rfl
      obtain ⟨g, off, ap, am, ac, kp, km, kc, hp, x0, x1, x2, x3, hsz, har, hkk⟩ := HNODE.out j nd hge
      subst hp
      have hbr := HBW.out.trans HS.out.2.1
      have x0 := cell_keep x0 hbr
      have x1 := cell_keep x1 hbr
      have x2 := cell_keep x2 hbr
      have x3 := cell_keep x3 hbr
      have hct : (xtL ns).length = (xtL d).length + ((nd.text.length + (xtL nd.kids).length) + (xtL rest).length) := by
        rw [HD.out, xtL_app, List.length_append, xtL, List.length_append, xtN_kids, List.length_append]
      have hlen := HLEN.out
      obtain ⟨XN, hXN⟩ : ∃ X : ByteArray, X = ⟨nd.name.toArray⟩ := ⟨_, rfl⟩
      obtain ⟨XT, hXT⟩ : ∃ X : ByteArray, X = ⟨nd.text.toArray⟩ := ⟨_, rfl⟩
      rw [← hXN] at x0
      rw [← hXT] at x2
      have hT1 : bl XT = nd.text := by rw [hXT]
      have hTs : XT.size = nd.text.length := by rw [hXT]; rfl
      obtain ⟨w2, hw2⟩ : ∃ w2, w2 = wr.alloc (.cells #[.string XN, .slice ap am ac, .string XT, .slice kp km kc] 35) := ⟨_, rfl⟩
      have hb2 : Below wr.heap.size wr w2 := by rw [hw2]; exact (Below.refl _ _).alloc (Nat.le_refl _) _
      have hnew : w2.heap[wr.heap.size]? = some (.cells #[.string XN, .slice ap am ac, .string XT, .slice kp km kc] 35 (0, 0)) := by rw [hw2]; exact new_block _ _ _
      have y2 := tag_cell hnew 2 _ rfl
      have HD2 : Hid (ns = (d ++ [nd]) ++ rest) := hide (by rw [HD.out]; simp)
      have HT2 : Hid (acc ++ xtL (d ++ [nd]) = acc ++ xtL d ++ bl XT ++ xtL nd.kids) := hide (by rw [xtL_app]; show acc ++ (_ ++ (xtN nd ++ [])) = _; rw [List.append_nil, xtN_kids, hT1]; simp)
      have hjk2 : j + (rest.length + 1) = N := hjk
      have hdj2 : (d ++ [nd]).length = j + 1 := by simp [hdj]
      have hlt : w0.heap.size < wr.heap.size := HS.out.1.lt
      have HWS := hide (ws_st w0 w2 (acc ++ xtL d) XT (hbr.trans (hb2.mono hbr.size)) (HS.out.1.keep hb2) (by rw [List.length_append]; omega))
      have HLK : Hid ((acc ++ xtL d ++ bl XT).length + (xtL nd.kids).length ≤ 1000000000) := hide (by rw [List.length_append, List.length_append, bl_len]; omega)
      have HKD : Hid (∀ wx, Below w0.heap.size w0 wx → PB w0 wx (acc ++ xtL d ++ bl XT) → Calls Tryd.prog 22 #[.pointer (some ⟨w0.heap.size, 0, none⟩), .slice kp km kc] wx (WPost w0 wx (acc ++ xtL d ++ bl XT) (xtL nd.kids))) := hide (fun wx h1 h2 => HIH.out wx _ _ _ hkk h1 h2 HLK.out)
      have HS2 : Hid (Below w0.heap.size w w2 ∧ Lib.OthersKept 5 (some w0.heap.size) w w2) := hide ⟨HS.out.2.1.trans (hb2.mono hbr.size), HS.out.2.2.trans (kept_bel hb2)⟩
      have HNEW := hide hnew
      clear hge hkk har hbr HD hXT hXN hjk hct hlen hT1 hTs HS hdj HIH HNODE hsz hnew hb2 HLK
      go_upto_region 3 with fail
      rw [← hw2]
      clear hw2 x0 x1 x2 x3
      go_wp2_with fail
      refine HWS.out.mono ?_
      rintro e w3 ⟨rfl, h1, h2, h3⟩
      have hnew3 := kept_cell h3 HNEW.out (by omega) (by decide)
      have y3 := tag_cell hnew3 3 _ rfl
      have HS3 : Hid (Below w0.heap.size w w3 ∧ Lib.OthersKept 5 (some w0.heap.size) w w3) := hide ⟨HS2.out.1.trans h2, HS2.out.2.trans h3⟩
      have HC3 := hide (HKD.out w3 (HBW.out.trans HS3.out.1) h1)
      clear h1 h2 h3 hnew3 HNEW HWS HKD HS2 y2
      go_wp2_with fail
      refine HC3.out.mono ?_
      rintro e w4 ⟨rfl, h1, h2, h3⟩
      have HS4 : Hid (PB w0 w4 (acc ++ xtL (d ++ [nd])) ∧ Below w0.heap.size w w4 ∧ Lib.OthersKept 5 (some w0.heap.size) w w4) := hide ⟨by rw [HT2.out]; exact h1, HS3.out.1.trans h2, HS3.out.2.trans h3⟩
      clear h1 h2 h3 HC3 HS3 HT2
      go_wp2_with fail
      go_roundg rest.length
      case measure => simp only [List.length_cons]; omega
      case rel => exact ⟨j + 1, d ++ [nd], rest, rfl, hdj2, by omega, by first | rfl | simp, HD2, HS4⟩

set_option maxRecDepth 100000 in
set_option maxHeartbeats 8000000 in
theorem text_nst (w : World) (v : Value) (ns : List Nd) (hk : NAt w v ns) (hl : (xtL ns).length ≤ 1000000000) :
    Calls Tryd.prog 9 #[v] w fun e w' => (∃ O, e = .returned (.string O) ∧ bl O = xtL ns) ∧ Below w.heap.size w w' := by
  obtain ⟨D, hk⟩ := hk
  have hb1 : Below w.heap.size w (w.alloc (.cells #[.pointer none, .slice none 0 0] 53)) := (Below.refl _ _).alloc (Nat.le_refl _) _
  have hu1 : PB w (w.alloc (.cells #[.pointer none, .slice none 0 0] 53)) [] := Lib.IsBuilderF.of (Lib.fresh_isBuilder 53 5 w)
  have HW := hide (writeText_nst w D _ v ns [] hk hb1 hu1 (by simpa using hl))
  have HB1 := hide hb1
  clear hk hb1 hu1
  go_enter Tryd.func9, Tryd.ntmps9
  go_wp2_with fail
  refine HW.out.mono ?_
  rintro e w2 ⟨rfl, m1, m2, -⟩
  have HS := hide (Tryd.Builder_String_any_k w.heap.size w.heap.size _ w2 m1 (HB1.out.trans m2).size)
  have HB2 := hide (HB1.out.trans m2)
  clear m1 m2 HW HB1
  go_wp2_with fail
  refine HS.out.mono ?_
  rintro e w3 ⟨rfl, _, m2, _⟩
  have HB3 := hide (HB2.out.trans m2)
  clear m2 HS HB2
  go_wp2_with fail
  go_ret
  exact ⟨⟨_, rfl, rfl⟩, HB3.out⟩
end Go.Proofs.YtholfdfjapgfbaaDoor.Dm

/-
  A slice of nodes among the arguments, read.
-/
namespace Go.Proofs.YtholfdfjapgfbaaDoor.Dm
open Go.ChangeShapes Go.WideShapes Go.RowKit
open Utf1

theorem list_choice {α : Type} {R : Nat → α → Prop} : ∀ n : Nat, (∀ i, i < n → ∃ x, R i x) → ∃ l : List α, l.length = n ∧ ∀ i x, l[i]? = some x → R i x
  | 0, _ => ⟨[], rfl, fun i x h => by simp at h⟩
  | n + 1, h => by
    obtain ⟨l, hl, hr⟩ := list_choice n (fun i hi => h i (by omega))
    obtain ⟨x, hx⟩ := h n (by omega)
    refine ⟨l ++ [x], by simp [hl], ?_⟩
    intro i y hy
    by_cases hi : i < l.length
    · rw [List.getElem?_append_left hi] at hy
      exact hr i y hy
    · have hlen := (List.getElem?_eq_some_iff.1 hy).1
      rw [List.length_append, List.length_singleton] at hlen
      have e : i = l.length := by omega
      subst e
      rw [List.getElem?_append_right (Nat.le_refl _), Nat.sub_self] at hy
      have : x = y := by simpa using hy
      rw [hl, ← this]
      exact hx

section
variable {H : Type} {P : Program}
theorem weights_all {e : TypeId} {n : Nat} {d : DataW H} : ∀ {l : List (DataW H)}, d ∈ l → n ∈ d.weights P e → n ∈ DataW.weightsAll P e l
  | [], h, _ => by cases h
  | x :: r, h, hn => by
    simp only [DataW.weightsAll, List.mem_append]
    rcases List.mem_cons.1 h with rfl | h
    · exact .inl hn
    · exact .inr (weights_all h hn)
theorem weights_slice {t e : TypeId} (hu : P.underlying t = some (.slice e)) {elems spare : List (DataW H)} {d : DataW H} {n : Nat} (h : d ∈ elems) (hn : n ∈ d.weights P e) : n ∈ (DataW.slice elems spare).weights P t := by
  simp only [DataW.weights, hu, List.mem_cons, List.mem_append]
  exact .inr (.inl (weights_all h hn))
theorem weights_agg {t t' : TypeId} {fs : Array Field} (hu : P.underlying t = some (.struct fs)) {parts : List (DataW H)} {d : DataW H} {n j : Nat} (hf : (fs.toList.map (·.type))[j]? = some t') (h : parts[j]? = some d) (hn : n ∈ d.weights P t') : n ∈ (DataW.agg parts).weights P t := by
  simp only [DataW.weights, hu]
  exact DataW.weights_mem_each hf h n hn
end

theorem cells1 : Tryd.prog.cellsOf 9 = 1 := by kernel_rfl
theorem cellsAt : Tryd.prog.cellsOf 33 = 2 := by kernel_rfl
theorem cellsAts : Tryd.prog.cellsOf 29 = 1 := by kernel_rfl
theorem cellsNd : Tryd.prog.cellsOf 35 = 4 := by kernel_rfl

section
variable {H : Type} {enc : TypeId × Value → H} {W : World} {sp : Nat → Bool}

set_option maxRecDepth 100000 in
theorem attr_elem {n : Nat} {cs : List Value} {x : DataW H × List MemPlace} (h : DataW.trod enc Tryd.prog W 0 sp true n 33 cs = some x) : ∃ a b : ByteArray, cs = [.string a, .string b] ∧ x.1 = .agg [.lit (.string a.data.toList), .lit (.string b.data.toList)] := by
  obtain ⟨y0, y1, m, rfl, hl, h0, h1⟩ := trod_struct2 Tryd.underlying33 h
  rw [cellsAt] at hl
  match cs, hl with
  | [c0, c1], _ =>
    simp only [cells1, List.drop_zero, List.take_succ_cons, List.take_zero, List.drop_succ_cons] at h0 h1
    obtain ⟨a, e0, rfl, -⟩ := DataW.trod_string Tryd.underlying9 h0
    obtain ⟨b, e1, rfl, -⟩ := DataW.trod_string Tryd.underlying9 h1
    cases e0
    cases e1
    exact ⟨a, b, rfl, rfl⟩

theorem spot_first {a : Addr} {b n : Nat} {cs : List Value} (h : W.cells? b (a.add 0) n = some cs) (hn : 0 < n) : a.spot = none := by
  obtain ⟨_, hl, hc⟩ := World.cells?_some h
  have h0 := hc 0 hn
  rw [List.getElem?_eq_getElem (by omega)] at h0
  simpa [Addr.add] using World.cell?_spot h0
theorem at_cell {a : Addr} {i k : Nat} {v : Value} (hs : a.spot = none) (h : W.cell? ((a.add i).add k) = some v) : W.cell? ⟨a.block, a.off + i + k, none⟩ = some v := by
  obtain ⟨b, off, spot⟩ := a
  simp only [] at hs
  subst hs
  rw [add_plain, add_plain] at h
  exact h

set_option maxRecDepth 100000 in
theorem attr_slice {n : Nat} {sl : Value} {y : DataW H × List MemPlace} (h : DataW.trod enc Tryd.prog W 0 sp true n 29 [sl] = some y) (hw : ∀ k ∈ y.1.weights Tryd.prog 29, k ≤ reachBytes) : ∃ p m c at', sl = .slice p m c ∧ ARow W p m at' := by
  rcases DataW.trod_slice Tryd.underlying29 h with ⟨hc, rfl⟩ | ⟨a, len, cap, elems, rest, n', _, hc, rfl, hb, hl, hm, hlen, hel, hsp, hns⟩
  · cases hc
    exact ⟨none, 0, 0, [], rfl, arow_nil W⟩
  · cases hc
    rw [cellsAt] at hel
    have key : ∀ i, i < len → ∃ kv : List UInt8 × List UInt8, ∃ b off, some a = some ⟨b, off, none⟩ ∧ W.cell? ⟨b, off + i * 2, none⟩ = some (.string ⟨kv.1.toArray⟩) ∧ W.cell? ⟨b, off + i * 2 + 1, none⟩ = some (.string ⟨kv.2.toArray⟩) ∧ kv.1.length ≤ 281474976710656 ∧ kv.2.length ≤ 281474976710656 := by
      intro i hi
      have h1 := hel i hi
      have hil : i < elems.length := by omega
      rw [List.getElem?_eq_getElem hil, Option.bind_eq_some_iff] at h1
      obtain ⟨cs, hcs, ht⟩ := h1
      obtain ⟨s, t, rfl, ex⟩ := attr_elem ht
      obtain ⟨_, _, hcell⟩ := World.cells?_some hcs
      have hsp1 : a.spot = none := by
        have h0 := hel 0 (by omega)
        rw [List.getElem?_eq_getElem (by omega), Option.bind_eq_some_iff, Nat.zero_mul] at h0
        obtain ⟨cs0, hcs0, _⟩ := h0
        exact spot_first hcs0 (by decide)
      have c0 := at_cell hsp1 (hcell 0 (by decide))
      have c1 := at_cell hsp1 (hcell 1 (by decide))
      have hmem : elems[i].1 ∈ elems.map (·.1) := List.mem_map.2 ⟨_, List.getElem_mem hil, rfl⟩
      have hws : ∀ k ∈ elems[i].1.weights Tryd.prog 33, k ≤ reachBytes := fun k hk => hw k (weights_slice Tryd.underlying29 hmem hk)
      rw [ex] at hws
      have w0 := hws s.data.toList.length (weights_agg Tryd.underlying33 (j := 0) rfl rfl (by simp [DataW.weights]))
      have w1 := hws t.data.toList.length (weights_agg Tryd.underlying33 (j := 1) rfl rfl (by simp [DataW.weights]))
      have hr := reachBytes_lt
      refine ⟨(s.data.toList, t.data.toList), a.block, a.off, ?_, ?_, ?_, ?_, ?_⟩
      · obtain ⟨b, off, spot⟩ := a
        simp only [] at hsp1
        rw [hsp1]
      · rw [Nat.add_zero] at c0
        rw [c0]
      · rw [c1]
      · show s.data.toList.length ≤ _
        omega
      · show t.data.toList.length ≤ _
        omega
    obtain ⟨at', hal, har⟩ := list_choice len key
    exact ⟨some a, len, cap, at', rfl, ⟨hal.symm, by unfold maxLen at hm; omega⟩, har⟩

set_option maxRecDepth 100000 in
theorem nod_elem {n : Nat} {cs : List Value} {x : DataW H × List MemPlace} (h : DataW.trod enc Tryd.prog W 0 sp true n 35 cs = some x) : ∃ (name : ByteArray) (sl : Value) (text : ByteArray) (kl : Value) (m : Nat) (y z : DataW H × List MemPlace), cs = [.string name, sl, .string text, kl] ∧ n = m + 1 ∧ DataW.trod enc Tryd.prog W 0 sp true m 29 [sl] = some y ∧ DataW.trod enc Tryd.prog W 0 sp true m 22 [kl] = some z ∧ x.1 = .agg [.lit (.string name.data.toList), y.1, .lit (.string text.data.toList), z.1] := by
  obtain ⟨xs, m, hn, rfl, hl, hlen, hf⟩ := DataW.trod_struct Tryd.underlying35 h
  rw [cellsNd] at hl
  match cs, hl, xs, hlen with
  | [c0, c1, c2, c3], _, [y0, y1, y2, y3], _ =>
    have h0 := hf 0 _ rfl
    have h1 := hf 1 _ rfl
    have h2 := hf 2 _ rfl
    have h3 := hf 3 _ rfl
    simp only [List.getElem?_cons_zero, List.getElem?_cons_succ] at h0 h1 h2 h3
    obtain ⟨nm, e0, rfl, -⟩ := DataW.trod_string Tryd.underlying9 h0
    obtain ⟨tx, e2, rfl, -⟩ := DataW.trod_string Tryd.underlying9 h2
    cases e0
    cases e2
    exact ⟨nm, c1, tx, c3, m, y1, y3, rfl, hn, h1, h3, rfl⟩

set_option maxRecDepth 100000 in
theorem nod_slice : ∀ (n : Nat) {sl : Value} {y : DataW H × List MemPlace}, DataW.trod enc Tryd.prog W 0 sp true n 22 [sl] = some y → (∀ k ∈ y.1.weights Tryd.prog 22, k ≤ reachBytes) → ∃ p m c ns, sl = .slice p m c ∧ NAtD W (n + 1) sl ns := by
  intro n
  induction n using Nat.strongRecOn with
  | _ n ih =>
  intro sl y h hw
  rcases DataW.trod_slice Tryd.underlying22 h with ⟨hc, rfl⟩ | ⟨a, len, cap, elems, rest, n', hn', hc, rfl, hb, hl, hm, hlen, hel, hsp, hns⟩
  · cases hc
    exact ⟨none, 0, 0, [], rfl, ⟨none, 0, rfl, by decide, fun i nd h => by simp at h⟩⟩
  · cases hc
    rw [cellsNd] at hel
    have key : ∀ i, i < len → ∃ nd : Nd, ∃ g off ap am ac kp km kc, some a = some ⟨g, off, none⟩ ∧ W.cell? ⟨g, off + i * 4, none⟩ = some (.string ⟨nd.name.toArray⟩) ∧ W.cell? ⟨g, off + i * 4 + 1, none⟩ = some (.slice ap am ac) ∧ W.cell? ⟨g, off + i * 4 + 2, none⟩ = some (.string ⟨nd.text.toArray⟩) ∧ W.cell? ⟨g, off + i * 4 + 3, none⟩ = some (.slice kp km kc) ∧ (nd.name.length ≤ 281474976710656 ∧ nd.text.length ≤ 281474976710656) ∧ ARow W ap am nd.attrs ∧ NAtD W n (.slice kp km kc) nd.kids := by
      intro i hi
      have h1 := hel i hi
      have hil : i < elems.length := by omega
      rw [List.getElem?_eq_getElem hil, Option.bind_eq_some_iff] at h1
      obtain ⟨cs, hcs, ht⟩ := h1
      obtain ⟨nm, sl1, tx, kl1, m, y1, z1, rfl, hmn, hy, hz, ex⟩ := nod_elem ht
      obtain ⟨_, _, hcell⟩ := World.cells?_some hcs
      have hsp1 : a.spot = none := by
        have h0 := hel 0 (by omega)
        rw [List.getElem?_eq_getElem (by omega), Option.bind_eq_some_iff, Nat.zero_mul] at h0
        obtain ⟨cs0, hcs0, _⟩ := h0
        exact spot_first hcs0 (by decide)
      have c0 := at_cell hsp1 (hcell 0 (by decide))
      have c1 := at_cell hsp1 (hcell 1 (by decide))
      have c2 := at_cell hsp1 (hcell 2 (by decide))
      have c3 := at_cell hsp1 (hcell 3 (by decide))
      have hmem : elems[i].1 ∈ elems.map (·.1) := List.mem_map.2 ⟨_, List.getElem_mem hil, rfl⟩
      have hws : ∀ k ∈ elems[i].1.weights Tryd.prog 35, k ≤ reachBytes := fun k hk => hw k (weights_slice Tryd.underlying22 hmem hk)
      rw [ex] at hws
      have w0 := hws nm.data.toList.length (weights_agg Tryd.underlying35 (j := 0) rfl rfl (by simp [DataW.weights]))
      have w2 := hws tx.data.toList.length (weights_agg Tryd.underlying35 (j := 2) rfl rfl (by simp [DataW.weights]))
      obtain ⟨p, m', c, at', rfl, hat⟩ := attr_slice hy (fun k hk => hws k (weights_agg Tryd.underlying35 (j := 1) rfl rfl hk))
      obtain ⟨kp, km, kc, ns, rfl, hns2⟩ := ih m (by omega) hz (fun k hk => hws k (weights_agg Tryd.underlying35 (j := 3) rfl rfl hk))
      have hr := reachBytes_lt
      refine ⟨.mk nm.data.toList at' tx.data.toList ns, a.block, a.off, p, m', c, kp, km, kc, ?_, ?_, ?_, ?_, ?_, ⟨?_, ?_⟩, hat, hns2.more (by omega)⟩
      · obtain ⟨b, off, spot⟩ := a
        simp only [] at hsp1
        rw [hsp1]
      · rw [Nat.add_zero] at c0
        rw [c0]
        rfl
      · rw [c1]
      · rw [c2]
        rfl
      · rw [c3]
      · show nm.data.toList.length ≤ _
        omega
      · show tx.data.toList.length ≤ _
        omega
    obtain ⟨ns, hal, har⟩ := list_choice len key
    refine ⟨some a, len, cap, ns, rfl, ⟨some a, cap, by rw [hal], by rw [hal]; unfold maxLen at hm; omega, har⟩⟩

/-- Nodes that came in. -/
def NArg (w : World) (v : Value) (ns : List Nd) : Prop := NAt w v ns ∧ (v = .slice none 0 0 ∨ ∃ ad m c, v = .slice (some ad) m c)
theorem NArg.below {w w' : World} {v : Value} {ns : List Nd} (h : NArg w v ns) (hb : Below w.heap.size w w') : NArg w' v ns := ⟨h.1.below hb, h.2⟩
set_option maxRecDepth 100000 in
theorem open_nods {a : Option Addr} {len cap : Nat} {d : DataW H} {p : List MemPlace} (h : DataW.Trod enc Tryd.prog W 0 sp true 22 (.slice a len cap) d p) (hw : ∀ k ∈ d.weights Tryd.prog 22, k ≤ reachBytes) : ∃ ns : List Nd, NArg W (.slice a len cap) ns := by
  obtain ⟨fuel, hf⟩ := h
  obtain ⟨_, _, _, ns, _, h⟩ := nod_slice fuel hf hw
  refine ⟨ns, ⟨_, h⟩, ?_⟩
  rcases DataW.trod_slice Tryd.underlying22 hf with ⟨hc, _⟩ | ⟨a', len', cap', _, _, _, _, hc, _⟩
  · simp [Value.cells] at hc
    obtain ⟨rfl, rfl, rfl⟩ := hc
    exact .inl rfl
  · simp [Value.cells] at hc
    obtain ⟨rfl, rfl, rfl⟩ := hc
    exact .inr ⟨_, _, _, rfl⟩
end
end Go.Proofs.YtholfdfjapgfbaaDoor.Dm

/-
  The law SerText, walked: it answers true at every tree.
-/
namespace Go.Proofs.YtholfdfjapgfbaaDoor.Dm
open Go.RowKit
open Utf1

theorem toksCells_at : ∀ (l : List (Tk × Value)) (i : Nat) (p : Tk × Value), l[i]? = some p → ∀ j, j < 5 → (toksCells l)[i * 5 + j]? = (tokCells p.1 p.2)[j]?
  | [], i, p, h, _, _ => by simp at h
  | q :: r, 0, p, h, j, hj => by
    have : q = p := by simpa using h
    subst this
    show (tokCells q.1 q.2 ++ toksCells r)[0 * 5 + j]? = _
    rw [show 0 * 5 + j = j by omega, List.getElem?_append_left (by simp [tokCells]; omega)]
  | q :: r, i + 1, p, h, j, hj => by
    have h' : r[i]? = some p := by simpa using h
    show (tokCells q.1 q.2 ++ toksCells r)[(i + 1) * 5 + j]? = _
    rw [List.getElem?_append_right (by simp [tokCells]; omega), show (i + 1) * 5 + j - (tokCells q.1 q.2).length = i * 5 + j by simp [tokCells]; omega]
    exact toksCells_at r i p h' j hj

set_option maxRecDepth 100000 in
set_option maxHeartbeats 8000000 in
theorem lawSText_walk (va : Value) (a : List Nd) (w : World) (ha : NArg w va a) (hg : Glob w) (hgm : GlobM w) :
    Calls Tryd.prog 3 #[va] w fun e w' => e = .returned (.bool true) ∧ Below w.heap.size w w' := by
  have HA := hide ha.1
  have HG : Hid (∀ wx, Below w.heap.size w wx → Glob wx ∧ GlobM wx) := hide (by
    intro wx hx
    obtain ⟨x, y, h⟩ := hg
    obtain ⟨m, h2⟩ := hgm
    exact ⟨⟨x, y, cell_keep h hx⟩, ⟨m, cell_keep h2 hx⟩⟩)
  clear ha hg hgm
  go_enter Tryd.func3, Tryd.ntmps3
  go_wp2_with fail
  refine (awake_nst _).mono ?_
  rintro e w1 ⟨rfl, hb1⟩
  have HB1 := hide hb1
  have HL1 := hide (light_nst w1 va a (HA.out.below hb1))
  clear hb1
  go_wp2_with fail
  refine HL1.out.mono ?_
  rintro e w2 ⟨l1, rfl, hl1, hb2⟩
  have HB2 := hide (bel2 HB1.out hb2)
  have HLA := hide hl1
  clear hb2 HL1 HB1 hl1
  cases l1 with
  | false =>
    go_wp2_with fail
    all_goals
      go_ret
      exact ⟨rfl, HB2.out⟩
  | true =>
  have hwa := HLA.out rfl
  have hca := ncL_ws a
  have hta := htL_len a
  have hxa := xtL_len a
  have HLN : Hid ((htL a).length ≤ 1000000 ∧ (xtL a).length ≤ 20000) := hide ⟨by omega, by omega⟩
  have HS1 := hide (stable_nst w2 va a (HA.out.below HB2.out) (by omega))
  have HTK : Hid (stable a = true → toks (htL a) = tkL a ∧ kTxt (tkL a) = xtL a) := hide (fun h => ⟨toks_stable h, kTxt_L a _ _ _ (stable_st h)⟩)
  clear HLA hwa hca hta hxa
  obtain ⟨sa, hsa⟩ : ∃ x, x = stable a := ⟨_, rfl⟩
  rw [← hsa] at HS1 HTK
  clear hsa
  cases sa with
  | false =>
    go_wp2_with fail
    refine HS1.out.mono ?_
    rintro e w4 ⟨rfl, hb4⟩
    have HB4 := hide (bel2 HB2.out hb4)
    clear hb4 HS1
    go_wp2_with fail
    all_goals
      go_ret
      exact ⟨rfl, HB4.out⟩
  | true =>
  have HTT := hide (HTK.out (by first | rfl | trivial))
  clear HTK
  go_wp2_with fail
  refine HS1.out.mono ?_
  rintro e w4 ⟨rfl, hb4⟩
  have HB4 := hide (bel2 HB2.out hb4)
  have HH1 := hide (html_nst w4 va a (HA.out.below HB4.out) (by have := HLN.out; omega))
  clear hb4 HS1 HB2
  go_wp2_with fail
  refine HH1.out.mono ?_
  rintro e w5 ⟨⟨O, rfl, hO⟩, hb5⟩
  have HB5 := hide (bel2 HB4.out hb5)
  have hOs : O.size ≤ 1000000 := by rw [← bl_len, hO]; exact HLN.out.1
  have HT5 := hide (tokens_any O w5 (by omega) (HG.out w5 HB5.out).1 (HG.out w5 HB5.out).2)
  have HO := hide hO
  clear hb5 hO HH1 HB4
  go_wp2_with fail
  refine HT5.out.mono ?_
  rintro e w6 ⟨v, l, rfl, hl, htk, hb6⟩
  have HB6 := hide (bel2 HB5.out hb6)
  obtain ⟨p, c, rfl⟩ := own_len htk.1
  have HL : Hid (l.map Prod.fst = tkL a) := hide (by rw [hl, HO.out]; exact HTT.out.1)
  have HCE : Hid (∀ i q, l[i]? = some q → ∃ g, p = some ⟨g, 0, none⟩ ∧ w6.cell? ⟨g, i * 5, none⟩ = some (.int .i64 (q.1.kind : Int)) ∧ w6.cell? ⟨g, i * 5 + 4, none⟩ = some (.string ⟨q.1.text.toArray⟩)) := hide (by
    intro i q hq
    have hil := (List.getElem?_eq_some_iff.1 hq).1
    obtain ⟨g, c', e, hcell⟩ := own_at htk.1 (by omega)
    injection e with e1
    refine ⟨g, e1, ?_, ?_⟩
    · rw [hcell _ (by omega), show i * 5 = i * 5 + 0 from rfl, toksCells_at l i q hq 0 (by decide)]
      rfl
    · rw [hcell _ (by omega), toksCells_at l i q hq 4 (by decide)]
      rfl)
  have hlm : l.length ≤ 9223372036854775807 := own_most htk.1
  have HXT : Hid (kTxt (l.map Prod.fst) = xtL a) := hide (by rw [HL.out]; exact HTT.out.2)
  obtain ⟨N, hN⟩ : ∃ N, N = l.length := ⟨_, rfl⟩
  rw [← hN] at hlm ⊢
  have HN := hide hN
  have HTX := hide (text_nst w6 va a (HA.out.below HB6.out) (by have := HLN.out; omega))
  clear hb6 hl htk HT5 HB5 hN HTT HO
  go_wp2_with fail
  go_loopg [6, 8] N (fun k v6 v8 wr => ∃ (i : Nat) (acc : ByteArray), i + k = N ∧ v6 = .string acc ∧ v8 = .int .i64 (i : Int) ∧ wr = w6 ∧ Hid (bl acc = kTxt ((l.take i).map Prod.fst)))
  case atStart => exact ⟨0, ⟨#[]⟩, by omega, rfl, rfl, rfl, hide rfl⟩
  case round =>
    obtain ⟨i, acc, hik, rfl, rfl, rfl, HAC⟩ := hrel
    by_cases hlt : i < N
    · have hil : i < l.length := by rw [← HN.out]; exact hlt
      have hge : l[i]? = some l[i] := List.getElem?_eq_getElem hil
      generalize l[i] = q at hge
      obtain ⟨g, rfl, x0, x4⟩ := HCE.out i q hge
      have htk : (l.take (i + 1)).map Prod.fst = (l.take i).map Prod.fst ++ [q.1] := by rw [List.take_add_one, hge, List.map_append]; rfl
      have hsp : kTxt (l.map Prod.fst) = kTxt ((l.take (i + 1)).map Prod.fst) ++ kTxt ((l.drop (i + 1)).map Prod.fst) := by rw [← kTxt_app, ← List.map_append, List.take_append_drop]
      have hal := congrArg List.length hsp
      rw [HXT.out, List.length_append] at hal
      have hk1 : kTxt ((l.take (i + 1)).map Prod.fst) = bl acc ++ (if q.1.kind = 1 then q.1.text else []) := by
        rw [htk, kTxt_app, HAC.out]
        show _ ++ (_ ++ []) = _
        rw [List.append_nil]
      obtain ⟨XT, hXT⟩ : ∃ X : ByteArray, X = ⟨q.1.text.toArray⟩ := ⟨_, rfl⟩
      rw [← hXT] at x4
      have hT1 : bl XT = q.1.text := by rw [hXT]
      have hx20 := HLN.out.2
      by_cases hk : q.1.kind = 1
      · rw [if_pos hk, ← hT1] at hk1
        rw [hk1, List.length_append, bl_len, bl_len] at hal
        have hs1 : acc.size + XT.size ≤ 20000 := by omega
        have HA2 : Hid (bl (acc ++ XT) = kTxt ((l.take (i + 1)).map Prod.fst)) := hide (by rw [hk1, bl_cat])
        rw [hk] at x0
        clear hge htk hsp hal hk1 hXT hT1 hx20 hk HAC
        go_wp2_with fail
        go_roundg (gk - 1)
        case measure => omega
        case rel => exact ⟨i + 1, acc ++ XT, by omega, by first | rfl | simp, by first | rfl | simp, rfl, HA2⟩
      · rw [if_neg hk, List.append_nil] at hk1
        have HA2 : Hid (bl acc = kTxt ((l.take (i + 1)).map Prod.fst)) := hide hk1.symm
        have hk2 : ((q.1.kind : Int) == 1) = false := beq_eq_false_iff_ne.2 (by omega)
        clear hge htk hsp hal hk1 hXT hT1 hx20 hk HAC x4
        go_wp2_with fail
        go_roundg (gk - 1)
        case measure => omega
        case rel => exact ⟨i + 1, acc, by omega, by first | rfl | simp, by first | rfl | simp, rfl, HA2⟩
    · have HAE : Hid (bl acc = xtL a) := hide (by
        rw [HAC.out, List.take_of_length_le (by rw [← HN.out]; omega)]
        exact HXT.out)
      clear HAC
      go_wp2_with fail
      refine HTX.out.mono ?_
      rintro e w7 ⟨⟨O7, rfl, hO7⟩, hb7⟩
      have HB7 := hide (bel2 HB6.out hb7)
      have hO : O7 = acc := by rw [← bl_eta O7, hO7, ← HAE.out, bl_eta]
      subst hO
      clear hb7 hO7 HTX HAE
      go_wp2_with fail
      go_ret
      exact ⟨rfl, HB7.out⟩
end Go.Proofs.YtholfdfjapgfbaaDoor.Dm
