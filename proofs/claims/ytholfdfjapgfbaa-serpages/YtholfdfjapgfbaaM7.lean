/-
  A stable tree's page, read: its tokens are the tree's own; two stable trees of one page are the same.
-/
import Derived.Test.YtholfdfjapgfbaaN10
namespace Utf1
open Go

theorem pl_facts {c : UInt8} (h : nmB [45, 95, 58] c = true) : isNm c = false ∧ isAt c = false ∧ isGap c = false ∧ low8 c = c ∧ c ≠ 60 ∧ c ≠ 62 ∧ c ≠ 33 ∧ c ≠ 63 ∧ c ≠ 47 := by
  unfold nmB at h
  rw [Bool.or_eq_true, Bool.or_eq_true] at h
  have key : SmallB c → isNm c = false ∧ isAt c = false ∧ isGap c = false ∧ low8 c = c ∧ c ≠ 60 ∧ c ≠ 62 ∧ c ≠ 33 ∧ c ≠ 63 ∧ c ≠ 47 := by
    intro hs
    obtain ⟨a1, a2, a3, a4, a5, a6⟩ := small_facts hs
    exact ⟨a1, a2, a3, a4, a5, a6, beq_eq_false_iff_ne.1 (small_ne hs 33 (by decide)), beq_eq_false_iff_ne.1 (small_ne hs 63 (by decide)), beq_eq_false_iff_ne.1 (small_ne hs 47 (by decide))⟩
  rcases h with (h | h) | h
  · exact key (.inl (of_decide_eq_true h))
  · exact key (.inr (of_decide_eq_true h))
  · have h := of_decide_eq_true h
    simp only [List.mem_cons, List.not_mem_nil, or_false] at h
    rcases h with rfl | rfl | rfl <;> decide
/-- A name that may be. -/
def Plain (n : List UInt8) : Prop := (∃ c t, n = c :: t ∧ 97 ≤ c.toNat ∧ c.toNat ≤ 122) ∧ ∀ c ∈ n, nmB [45, 95, 58] c = true
theorem plain_attr {n : List UInt8} (h : isNmL [45, 95, 58] n = true) : Plain n := by
  cases n with
  | nil => cases h
  | cons c t =>
    rw [isNmL, Bool.and_eq_true] at h
    exact ⟨⟨c, t, rfl, of_decide_eq_true h.1⟩, List.all_eq_true.1 h.2⟩
theorem plain_elem {n : List UInt8} (h : isNmL [45] n = true) : Plain n := by
  cases n with
  | nil => cases h
  | cons c t =>
    rw [isNmL, Bool.and_eq_true] at h
    refine ⟨⟨c, t, rfl, of_decide_eq_true h.1⟩, fun x hx => ?_⟩
    have := List.all_eq_true.1 h.2 x hx
    unfold nmB at this ⊢
    rw [Bool.or_eq_true] at this ⊢
    rcases this with h | h
    · exact .inl h
    · refine .inr (decide_eq_true ?_)
      have h := of_decide_eq_true h
      simp only [List.mem_cons, List.not_mem_nil, or_false] at h
      rw [h]
      decide
theorem mayE_plain {n : List UInt8} (h : mayE n = true) : Plain n ∧ rawOf n = none := by
  unfold mayE at h
  rw [Bool.and_eq_true] at h
  refine ⟨plain_elem h.2, ?_⟩
  cases hr : rawOf n with
  | none => rfl
  | some b => rw [hr] at h; exact absurd h.1 (by simp)
theorem beg_startP (n r : List UInt8) (h : Plain n) : beg (60 :: (n ++ r)) = 3 := by
  obtain ⟨⟨c, t, rfl, h1, h2⟩, hs⟩ := h
  have hc := pl_facts (hs c (List.mem_cons_self ..))
  have k33 := hc.2.2.2.2.2.2.1
  have k63 := hc.2.2.2.2.2.2.2.1
  rw [beg_lt]
  show beg1 (c :: (t ++ r)) = 3
  unfold beg1
  simp only
  rw [if_neg (by simp [List.isPrefixOf, Ne.symm k33]), if_neg (by simp [k33, k63]), if_pos (isLet_small h1 h2)]
theorem beg_endP (n r : List UInt8) (h : Plain n) : beg (60 :: 47 :: (n ++ r)) = 3 := by
  obtain ⟨⟨c, t, rfl, h1, h2⟩, hs⟩ := h
  rw [beg_lt]
  show beg1 (47 :: c :: (t ++ r)) = 3
  unfold beg1
  simp only
  rw [if_neg (by simp [List.isPrefixOf]), if_neg (by decide), if_neg (by decide), if_neg (by decide)]
  show beg2 (c :: (t ++ r)) = 3
  unfold beg2
  simp only
  rw [if_pos (isLet_small h1 h2)]
theorem getD_startP (n r : List UInt8) (h : Plain n) : (60 :: (n ++ r)).getD 1 0 ≠ 47 := by
  obtain ⟨⟨c, t, rfl, h1, h2⟩, hs⟩ := h
  exact (pl_facts (hs c (List.mem_cons_self ..))).2.2.2.2.2.2.2.2
theorem nm_allP {n : List UInt8} (h : Plain n) : ∀ c ∈ n, (!isNm c) = true := fun c hc => by rw [(pl_facts (h.2 c hc)).1]; rfl
theorem lowerP (n : List UInt8) (h : ∀ c ∈ n, nmB [45, 95, 58] c = true) : lower n = n := by
  unfold lower
  induction n with
  | nil => rfl
  | cons c t ih =>
    rw [List.map_cons, (pl_facts (h c (List.mem_cons_self ..))).2.2.2.1, ih (fun x hx => h x (List.mem_cons_of_mem _ hx))]
theorem toks_stopP (n r : List UInt8) (h : Plain n) : toks (60 :: 47 :: (n ++ 62 :: r)) = ⟨3, n, [], false, []⟩ :: toks r := by
  have hb : tagBody (60 :: 47 :: (n ++ 62 :: r)) = n ++ 62 :: r := by
    unfold tagBody
    rw [if_pos (by rfl)]
    rfl
  have ht := take_until (p := fun x => !isNm x) (d := 62) (by decide) r n (nm_allP h)
  have hk : tagOf (60 :: 47 :: (n ++ 62 :: r)) = some (⟨3, n, [], false, []⟩, r) := by
    unfold tagOf
    rw [hb, ht.2, attrsOf_end [] (62 :: r) r (by rfl)]
    simp only
    rw [if_pos (by rfl), ht.1, lowerP n h.2]
  rw [toks_tag _ r _ (beg_endP n _ h) hk]
  have : withRaw ⟨3, n, [], false, []⟩ r = ([], r) := by
    unfold withRaw
    rw [if_neg (by simp)]
  rw [this]
  rfl
theorem one_attr (a v r : List UInt8) (acc : List (List UInt8 × List UInt8)) (ha : Plain a) (hn : a ∉ acc.map Prod.fst) : attrsOf acc (32 :: (a ++ 61 :: 34 :: (esc true v ++ 34 :: r))) = attrsOf (acc ++ [(a, v)]) r := by
  obtain ⟨⟨c, t, rfl, h1, h2⟩, hs⟩ := ha
  have hc := pl_facts (hs c (List.mem_cons_self ..))
  have hta : ∀ x ∈ t, (!isAt x) = true := fun x hx => by rw [(pl_facts (hs x (List.mem_cons_of_mem _ hx))).2.1]; rfl
  have h3 := take_until (p := fun x => !isAt x) (d := 61) (by decide) (34 :: (esc true v ++ 34 :: r)) t hta
  have h4 := take_until (p := fun x => x != (34 : UInt8)) (d := 34) (by decide) r (esc true v) (fun x hx => by simpa using (esc_bytes true v x hx).2.2 rfl)
  have h5 : oneAt c (t ++ 61 :: 34 :: (esc true v ++ 34 :: r)) = some (c :: t, esc true v, r) := by
    unfold oneAt
    rw [h3.2, h3.1]
    simp only [show (61 :: 34 :: (esc true v ++ 34 :: r)).dropWhile isBl = 61 :: 34 :: (esc true v ++ 34 :: r) from rfl, show (34 :: (esc true v ++ 34 :: r)).dropWhile isBl = 34 :: (esc true v ++ 34 :: r) from rfl, true_or, if_true]
    rw [h4.1, h4.2]
  rw [attrsOf_one acc _ (t ++ 61 :: 34 :: (esc true v ++ 34 :: r)) c _ _ _ (by
    show List.dropWhile isGap (32 :: c :: _) = _
    rw [List.dropWhile_cons, if_pos (by decide), List.dropWhile_cons, if_neg (by rw [hc.2.2.1]; decide)]
    rfl) hc.2.2.2.2.2.1 h5]
  have : addAt acc (lower (c :: t)) (res (esc true v)) = acc ++ [(c :: t, v)] := by
    rw [lowerP _ hs, res_esc]
    unfold addAt
    rw [if_neg hn]
  rw [this]
theorem all_attrs (r : List UInt8) : ∀ (a acc : List (List UInt8 × List UInt8)), (∀ kv ∈ a, Plain kv.1) → ((acc ++ a).map Prod.fst).Nodup → attrsOf acc (atsH a ++ 62 :: r) = some (acc ++ a, false, r)
  | [], acc, _, _ => by
    rw [show atsH [] ++ 62 :: r = 62 :: r from rfl, attrsOf_end acc (62 :: r) r (by rfl), List.append_nil]
    rfl
  | (k, v) :: a, acc, h1, h2 => by
    have e : atsH ((k, v) :: a) ++ 62 :: r = 32 :: (k ++ 61 :: 34 :: (esc true v ++ 34 :: (atsH a ++ 62 :: r))) := by
      rw [atsH, atH]
      simp only [List.append_assoc, List.cons_append, List.nil_append]
    have hn : k ∉ acc.map Prod.fst := by
      intro hm
      rw [List.map_append, List.nodup_append] at h2
      exact h2.2.2 k hm k (by simp) rfl
    rw [e, one_attr k v _ acc (h1 (k, v) (List.mem_cons_self ..)) hn, all_attrs r a (acc ++ [(k, v)]) (fun kv hkv => h1 kv (List.mem_cons_of_mem _ hkv)) (by rw [List.append_assoc]; exact h2), List.append_assoc]
    rfl
theorem mayA_facts {a : List (List UInt8 × List UInt8)} (h : mayA a = true) : (∀ kv ∈ a, Plain kv.1) ∧ (a.map Prod.fst).Nodup := by
  unfold mayA at h
  rw [Bool.and_eq_true] at h
  exact ⟨fun kv hkv => plain_attr (List.all_eq_true.1 h.1 kv hkv), of_decide_eq_true h.2⟩
theorem toks_elem (n r : List UInt8) (a : List (List UInt8 × List UInt8)) (hn : mayE n = true) (ha : mayA a = true) : toks (60 :: (n ++ (atsH a ++ 62 :: r))) = ⟨2, n, a, false, []⟩ :: toks r := by
  obtain ⟨hp, hraw⟩ := mayE_plain hn
  obtain ⟨ha1, ha2⟩ := mayA_facts ha
  have hb : tagBody (60 :: (n ++ (atsH a ++ 62 :: r))) = n ++ (atsH a ++ 62 :: r) := by
    unfold tagBody
    rw [if_neg (getD_startP n _ hp)]
    rfl
  obtain ⟨d, x, hd, hdx⟩ : ∃ d x, (fun y => !isNm y) d = false ∧ atsH a ++ 62 :: r = d :: x := by
    cases a with
    | nil => exact ⟨62, r, by decide, rfl⟩
    | cons kv a => exact ⟨32, _, by decide, rfl⟩
  have ht := take_until (p := fun x => !isNm x) hd x n (nm_allP hp)
  rw [← hdx] at ht
  have hk : tagOf (60 :: (n ++ (atsH a ++ 62 :: r))) = some (⟨2, n, a, false, []⟩, r) := by
    unfold tagOf
    rw [hb, ht.2, all_attrs r a [] ha1 (by simpa using ha2)]
    simp only
    rw [if_neg (getD_startP n _ hp), ht.1, lowerP n hp.2]
    rfl
  rw [toks_tag _ r _ (beg_startP n _ hp) hk, withRaw_none _ _ _ _ _ hraw]
  rfl

mutual
/-- The tokens of a node. -/
def tkN : Nd → List Tk
  | .mk n a t k => if n = [] then [⟨1, [], [], false, t⟩] else ⟨2, n, a, false, []⟩ :: (if n ∈ voids then [] else tkL k ++ [⟨3, n, [], false, []⟩])
def tkL : List Nd → List Tk
  | [] => []
  | n :: r => tkN n ++ tkL r
end
theorem stN_text {p i b : Bool} {n : List UInt8} {a : List (List UInt8 × List UInt8)} {t : List UInt8} {k : List Nd} (hn : n = []) (h : stN p i b (.mk n a t k) = true) : t ≠ [] ∧ b = false ∧ a = [] ∧ k = [] := by
  rw [stN, if_pos hn] at h
  simp only [Bool.and_eq_true, Bool.not_eq_true', List.isEmpty_iff] at h
  refine ⟨?_, h.1.1.2, h.1.2, h.2⟩
  intro e
  rw [e] at h
  exact absurd h.1.1.1 (by decide)
theorem stN_elem {p i b : Bool} {n : List UInt8} {a : List (List UInt8 × List UInt8)} {t : List UInt8} {k : List Nd} (hn : n ≠ []) (h : stN p i b (.mk n a t k) = true) : t = [] ∧ mayE n = true ∧ mayA a = true ∧ ((p && decide (n ∈ blocks)) || (i && decide (n = [108, 105]))) = false ∧ (n ∈ voids → k = []) ∧ (n ∉ voids → stL (p || decide (n = [112])) (itm i n) false k = true) := by
  rw [stN, if_neg hn] at h
  rw [Bool.and_eq_true, Bool.and_eq_true, Bool.and_eq_true, Bool.and_eq_true] at h
  obtain ⟨⟨⟨⟨h1, h2⟩, h3⟩, h4⟩, h5⟩ := h
  refine ⟨List.isEmpty_iff.1 h1, h2, h3, by rw [Bool.not_eq_true'] at h4; exact h4, fun hv => ?_, fun hv => ?_⟩
  · rw [if_pos hv] at h5
    exact List.isEmpty_iff.1 h5
  · rw [if_neg hv] at h5
    exact h5
theorem stL_cons {p i b : Bool} {n : Nd} {r : List Nd} (h : stL p i b (n :: r) = true) : stN p i b n = true ∧ stL p i (decide (n.name = [])) r = true := by
  rw [stL, Bool.and_eq_true] at h
  exact h
theorem ht_beg {p i : Bool} {m : Nd} {q : List Nd} (r : List UInt8) (h : stL p i true (m :: q) = true) : beg (htL (m :: q) ++ r) ≠ 0 := by
  obtain ⟨n, a, t, k⟩ := m
  have h1 := (stL_cons h).1
  by_cases hn : n = []
  · exact absurd (stN_text hn h1).2.1 (by decide)
  · have hp := (mayE_plain (stN_elem hn h1).2.1).1
    rw [htL, htN, if_neg hn]
    simp only [List.append_assoc, List.cons_append, List.nil_append]
    rw [beg_startP n _ hp]
    decide

mutual
theorem toks_htN : ∀ (nd : Nd) (p i b : Bool) (r : List UInt8), stN p i b nd = true → (nd.name = [] → r = [] ∨ beg r ≠ 0) → toks (htN nd ++ r) = tkN nd ++ toks r
  | .mk n a t k, p, i, b, r, h, hr => by
    by_cases hn : n = []
    · obtain ⟨h1, _, _, _⟩ := stN_text hn h
      rw [htN, tkN, if_pos hn, if_pos hn]
      rcases hr hn with rfl | hr
      · rw [List.append_nil, toks_esc t h1, toks_nil]
        rfl
      · rw [toks_ahead _ r hr (esc_ne _ _ h1) (fun c hc => (esc_bytes false t c hc).1), res_esc]
        rfl
    · obtain ⟨_, h2, h3, _, h4, h5⟩ := stN_elem hn h
      rw [htN, tkN, if_neg hn, if_neg hn]
      by_cases hv : n ∈ voids
      · rw [if_pos hv, if_pos hv]
        simp only [List.append_assoc, List.cons_append, List.nil_append]
        rw [toks_elem n r a h2 h3]
      · rw [if_neg hv, if_neg hv]
        have e : [60] ++ n ++ atsH a ++ [62] ++ (htL k ++ ([60, 47] ++ n ++ [62])) ++ r = 60 :: (n ++ (atsH a ++ 62 :: (htL k ++ (60 :: 47 :: (n ++ 62 :: r))))) := by simp only [List.append_assoc, List.cons_append, List.nil_append]
        have hp := (mayE_plain h2).1
        rw [e, toks_elem n _ a h2 h3, toks_htL k _ _ _ (60 :: 47 :: (n ++ 62 :: r)) (h5 hv) (.inr (by rw [beg_endP n _ hp]; decide)), toks_stopP n r hp]
        simp only [List.append_assoc, List.cons_append, List.nil_append]
theorem toks_htL : ∀ (ns : List Nd) (p i b : Bool) (r : List UInt8), stL p i b ns = true → (r = [] ∨ beg r ≠ 0) → toks (htL ns ++ r) = tkL ns ++ toks r
  | [], _, _, _, r, _, _ => by
    rw [htL, tkL]
    rfl
  | n :: q, p, i, b, r, h, hr => by
    obtain ⟨h1, h2⟩ := stL_cons h
    rw [htL, tkL, List.append_assoc, List.append_assoc, toks_htN n p i b (htL q ++ r) h1 ?_, toks_htL q _ _ _ r h2 hr]
    intro hn
    rw [decide_eq_true hn] at h2
    cases q with
    | nil => rw [htL]; exact hr
    | cons m q => exact .inr (ht_beg r h2)
end
/-- A stable tree's page has its tokens. -/
theorem toks_stable {ns : List Nd} (h : stable ns = true) : toks (htL ns) = tkL ns := by
  unfold stable at h
  rw [Bool.and_eq_true] at h
  have := toks_htL ns _ _ _ [] h.2 (.inl rfl)
  rw [List.append_nil, toks_nil, List.append_nil] at this
  exact this
end Utf1
