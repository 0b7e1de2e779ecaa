/-
  Places: what is passed over, schemes, and what is allowed, in the words of the plain mathematics.
-/
import Derived.Test.YtbcadeikdmlpoaaDoorMath
namespace Utf1

/-- A byte that is passed over around a place. -/
def blk (c : UInt8) : Bool := decide (c.toNat ≤ 32)
/-- A byte that stays where it stands within. -/
def kept (c : UInt8) : Bool := decide (c ≠ 9 ∧ c ≠ 10 ∧ c ≠ 13)
theorem kept_of (c : UInt8) (h : blk c = false) : kept c = true := by
  unfold blk at h
  unfold kept
  apply decide_eq_true
  refine ⟨?_, ?_, ?_⟩ <;> rintro rfl <;> simp at h
def dropB (l : List UInt8) : List UInt8 := l.dropWhile blk
def dropE (l : List UInt8) : List UInt8 := (dropB l.reverse).reverse
def trim (l : List UInt8) : List UInt8 := dropE (dropB l)
def bare (l : List UInt8) : List UInt8 := (trim l).filter kept

theorem dropB_filter : ∀ (l : List UInt8), dropB (l.filter kept) = (dropB l).filter kept
  | [] => rfl
  | c :: t => by
    unfold dropB
    by_cases h : blk c = true
    · rw [List.dropWhile_cons_of_pos h]
      by_cases k : kept c = true
      · rw [List.filter_cons_of_pos k, List.dropWhile_cons_of_pos h]
        exact dropB_filter t
      · rw [List.filter_cons_of_neg k]
        exact dropB_filter t
    · have h' : blk c = false := by simpa using h
      rw [List.dropWhile_cons_of_neg h, List.filter_cons_of_pos (kept_of c h'), List.dropWhile_cons_of_neg h]
theorem dropE_filter (l : List UInt8) : dropE (l.filter kept) = (dropE l).filter kept := by
  unfold dropE
  rw [← List.filter_reverse, dropB_filter, List.filter_reverse]
theorem bare_alt (l : List UInt8) : bare l = trim (l.filter kept) := by
  unfold bare trim
  rw [dropB_filter, dropE_filter]
theorem dropB_idem (l : List UInt8) : dropB (dropB l) = dropB l := by
  induction l with
  | nil => rfl
  | cons c t ih =>
    unfold dropB at *
    by_cases h : blk c = true
    · rw [List.dropWhile_cons_of_pos h]
      exact ih
    · rw [List.dropWhile_cons_of_neg h, List.dropWhile_cons_of_neg h]
theorem dropE_idem (l : List UInt8) : dropE (dropE l) = dropE l := by
  unfold dropE
  rw [List.reverse_reverse, dropB_idem]
theorem dropB_snoc (l : List UInt8) (c : UInt8) (h : blk c = false) : ∃ x, dropB (l ++ [c]) = x ++ [c] := by
  induction l with
  | nil => exact ⟨[], by unfold dropB; rw [List.nil_append, List.dropWhile_cons_of_neg (by simp [h])]⟩
  | cons d t ih =>
    by_cases hd : blk d = true
    · obtain ⟨x, hx⟩ := ih
      refine ⟨x, ?_⟩
      unfold dropB at *
      rw [List.cons_append, List.dropWhile_cons_of_pos hd]
      exact hx
    · refine ⟨d :: t, ?_⟩
      unfold dropB
      rw [List.cons_append, List.dropWhile_cons_of_neg hd]
theorem dropE_cons (c : UInt8) (t : List UInt8) (h : blk c = false) : ∃ x, dropE (c :: t) = c :: x := by
  obtain ⟨x, hx⟩ := dropB_snoc t.reverse c h
  refine ⟨x.reverse, ?_⟩
  unfold dropE
  rw [List.reverse_cons, hx]
  simp
theorem dropB_head (l : List UInt8) : dropB l = [] ∨ ∃ c t, dropB l = c :: t ∧ blk c = false := by
  induction l with
  | nil => exact .inl rfl
  | cons c t ih =>
    unfold dropB at *
    by_cases h : blk c = true
    · rw [List.dropWhile_cons_of_pos h]
      exact ih
    · rw [List.dropWhile_cons_of_neg h]
      exact .inr ⟨c, t, rfl, by simpa using h⟩
theorem dropB_trim (l : List UInt8) : dropB (trim l) = trim l := by
  unfold trim
  rcases dropB_head l with h | ⟨c, t, h, hc⟩
  · rw [h]
    rfl
  · obtain ⟨x, hx⟩ := dropE_cons c t hc
    rw [h, hx]
    unfold dropB
    rw [List.dropWhile_cons_of_neg (by simp [hc])]
theorem trim_idem (l : List UInt8) : trim (trim l) = trim l := by
  show dropE (dropB (trim l)) = trim l
  rw [dropB_trim]
  exact dropE_idem _
theorem bare_bare (l : List UInt8) : bare (bare l) = bare l := by
  have e : bare (bare l) = trim ((bare l).filter kept) := bare_alt _
  have e2 : (bare l).filter kept = bare l := by
    unfold bare
    rw [List.filter_filter]
    simp
  rw [e, e2, bare_alt, trim_idem]
theorem dropB_len (l : List UInt8) : (dropB l).length ≤ l.length := by
  induction l with
  | nil => exact Nat.le_refl _
  | cons c t ih =>
    unfold dropB at *
    by_cases h : blk c = true
    · rw [List.dropWhile_cons_of_pos h, List.length_cons]
      omega
    · rw [List.dropWhile_cons_of_neg h]
      exact Nat.le_refl _
theorem bare_len (l : List UInt8) : (bare l).length ≤ l.length := by
  have h1 : (bare l).length ≤ (trim l).length := List.length_filter_le _ _
  have h2 : (trim l).length ≤ (dropB l).length := by
    unfold trim dropE
    rw [List.length_reverse]
    have := dropB_len (dropB l).reverse
    rwa [List.length_reverse] at this
  have := dropB_len l
  omega
/-- A byte more that is passed over. -/
theorem bare_hidden (l : List UInt8) (k : Nat) (x : UInt8) (hx : kept x = false) : bare (l.take k ++ [x] ++ l.drop k) = bare l := by
  rw [bare_alt, bare_alt]
  congr 1
  rw [List.filter_append, List.filter_append, List.filter_cons_of_neg (by simp [hx]), List.filter_nil, List.append_nil, ← List.filter_append, List.take_append_drop]
theorem bare_ahead (l : List UInt8) (c : UInt8) (h : blk c = true) : bare (c :: l) = bare l := by
  unfold bare trim dropB
  rw [List.dropWhile_cons_of_pos h]
/-- Nothing is passed over where all bytes are above 32. -/
theorem bare_self (l : List UInt8) (h : ∀ c ∈ l, blk c = false) : bare l = l := by
  have hb : ∀ l : List UInt8, (∀ c ∈ l, blk c = false) → dropB l = l := by
    intro l h
    cases l with
    | nil => rfl
    | cons c t =>
      unfold dropB
      rw [List.dropWhile_cons_of_neg (by simp [h c (by simp)])]
  unfold bare trim dropE
  rw [hb l h, hb l.reverse (fun c hc => h c (List.mem_reverse.1 hc)), List.reverse_reverse]
  exact List.filter_eq_self.2 fun c hc => kept_of c (h c hc)
theorem low8_blk (c : UInt8) : blk (low8 c) = blk c := by
  unfold blk
  rw [low8_toNat]
  unfold lowN
  split
  · rw [decide_eq_false (by omega), decide_eq_false (by omega)]
  · rfl
theorem low8_kept (c : UInt8) : kept (low8 c) = kept c := by
  by_cases h : 65 ≤ c.toNat ∧ c.toNat ≤ 90
  · have h1 : blk (low8 c) = false := by
      rw [low8_blk]
      unfold blk
      exact decide_eq_false (by omega)
    have h2 : blk c = false := by rw [← low8_blk]; exact h1
    rw [kept_of _ h1, kept_of _ h2]
  · unfold low8
    rw [if_neg h]
theorem dropB_lower (l : List UInt8) : dropB (lower l) = lower (dropB l) := by
  induction l with
  | nil => rfl
  | cons c t ih =>
    unfold dropB lower at *
    rw [List.map_cons]
    by_cases h : blk c = true
    · rw [List.dropWhile_cons_of_pos h, List.dropWhile_cons_of_pos (by rw [low8_blk]; exact h)]
      exact ih
    · rw [List.dropWhile_cons_of_neg h, List.dropWhile_cons_of_neg (by rw [low8_blk]; exact h), List.map_cons]
theorem bare_lower (l : List UInt8) : bare (lower l) = lower (bare l) := by
  have e : ∀ l, dropE (lower l) = lower (dropE l) := by
    intro l
    unfold dropE
    rw [show (lower l).reverse = lower l.reverse from by simp [lower], dropB_lower]
    simp [lower]
  unfold bare trim
  rw [dropB_lower, e]
  unfold lower
  rw [List.filter_map]
  congr 1
  apply List.filter_congr
  intro c _
  exact low8_kept c

theorem dropB_step {l : List UInt8} {p : Nat} {c : UInt8} (h : l[p]? = some c) (hc : blk c = true) : dropB (l.drop p) = dropB (l.drop (p + 1)) := by
  obtain ⟨hp, e⟩ := List.getElem?_eq_some_iff.1 h
  rw [List.drop_eq_getElem_cons hp, e]
  unfold dropB
  rw [List.dropWhile_cons_of_pos hc]
theorem dropB_stop {l : List UInt8} {p : Nat} {c : UInt8} (h : l[p]? = some c) (hc : blk c = false) : dropB (l.drop p) = l.drop p := by
  obtain ⟨hp, e⟩ := List.getElem?_eq_some_iff.1 h
  rw [List.drop_eq_getElem_cons hp, e]
  unfold dropB
  rw [List.dropWhile_cons_of_neg (by simp [hc])]
theorem dropE_snoc (x : List UInt8) (c : UInt8) : dropE (x ++ [c]) = if blk c = true then dropE x else x ++ [c] := by
  unfold dropE dropB
  rw [List.reverse_append, List.reverse_singleton, List.singleton_append]
  by_cases h : blk c = true
  · rw [if_pos h, List.dropWhile_cons_of_pos h]
  · rw [if_neg h, List.dropWhile_cons_of_neg h]
    simp
theorem seg_snoc {l : List UInt8} {p q : Nat} {c : UInt8} (hpq : p ≤ q) (h : l[q]? = some c) : (l.take (q + 1)).drop p = (l.take q).drop p ++ [c] := by
  obtain ⟨hq, e⟩ := List.getElem?_eq_some_iff.1 h
  rw [List.take_succ_eq_append_getElem hq, e, List.drop_append_of_le_length (by rw [List.length_take]; omega)]
theorem dropE_step {l : List UInt8} {p q : Nat} {c : UInt8} (hpq : p ≤ q) (h : l[q]? = some c) (hc : blk c = true) : dropE ((l.take (q + 1)).drop p) = dropE ((l.take q).drop p) := by
  rw [seg_snoc hpq h, dropE_snoc, if_pos hc]
theorem dropE_stop {l : List UInt8} {p q : Nat} {c : UInt8} (hpq : p ≤ q) (h : l[q]? = some c) (hc : blk c = false) : dropE ((l.take (q + 1)).drop p) = (l.take (q + 1)).drop p := by
  rw [seg_snoc hpq h, dropE_snoc, if_neg (by simp [hc])]
theorem seg_cons {l : List UInt8} {j q : Nat} {c : UInt8} (hj : j < q) (h : l[j]? = some c) : (l.take q).drop j = c :: (l.take q).drop (j + 1) := by
  obtain ⟨hl, e⟩ := List.getElem?_eq_some_iff.1 h
  have hlt : j < (l.take q).length := by rw [List.length_take]; omega
  rw [List.drop_eq_getElem_cons hlt, List.getElem_take, e]
theorem filter_kept_cons (c : UInt8) (t : List UInt8) : (c :: t).filter kept = if kept c = true then c :: t.filter kept else t.filter kept := by
  by_cases h : kept c = true
  · rw [if_pos h, List.filter_cons_of_pos h]
  · rw [if_neg h, List.filter_cons_of_neg h]
/-- A place is gone through: where its blanks ahead end, and those behind begin. -/
theorem trim_seg {l : List UInt8} {p q : Nat} (h1 : dropB l = l.drop p) (h2 : dropE (l.drop p) = (l.take q).drop p) : trim l = (l.take q).drop p := by
  unfold trim
  rw [h1, h2]

/-- Small letters. -/
def letB (c : UInt8) : Bool := decide (97 ≤ c.toNat ∧ c.toNat ≤ 122)
/-- What may stand in a scheme behind its first letter. -/
def schB (c : UInt8) : Bool := letB c || decide ((48 ≤ c.toNat ∧ c.toNat ≤ 57) ∨ c = 43 ∨ c = 45 ∨ c = 46)
def schT : List UInt8 → Option (List UInt8)
  | [] => none
  | c :: t => if c = 58 then some [] else if schB c = true then (schT t).map (c :: ·) else none
def schA : List UInt8 → Option (List UInt8)
  | [] => none
  | c :: t => if letB c = true then (schT t).map (c :: ·) else none
theorem schA_cons (c : UInt8) (t : List UInt8) : schA (c :: t) = if letB c = true then (schT t).map (c :: ·) else none := rfl
/-- A place's scheme. -/
def scheme (l : List UInt8) : Option (List UInt8) := schA (lower (bare l))
def badB (c : UInt8) : Bool := decide (c.toNat < 32 ∨ c = 92 ∨ c = 127)
/-- Whether a place is allowed that has no scheme. -/
def plainOk (b : List UInt8) : Bool := !(decide (b.take 2 = [47, 47])) && b.all (fun c => !badB c)
def allowed (l : List UInt8) (ss : List (List UInt8)) : Bool :=
  match scheme l with
  | some x => decide (x ∈ ss)
  | none => plainOk (bare l)

/-- A place's scheme, from a place on. -/
def schP (b : List UInt8) (p : Nat) : Option (List UInt8) := if p = 0 then schA b else (schT (b.drop p)).map (b.take p ++ ·)
theorem schP_zero (b : List UInt8) : schP b 0 = schA b := rfl
theorem map_app (o : Option (List UInt8)) (a : List UInt8) (c : UInt8) : (o.map (c :: ·)).map (a ++ ·) = o.map ((a ++ [c]) ++ ·) := by
  cases o <;> simp
theorem schP_go {b : List UInt8} {p : Nat} {c : UInt8} (h : b[p]? = some c) (hc : c ≠ 58) (ho : letB c = true ∨ (p ≠ 0 ∧ schB c = true)) : schP b p = schP b (p + 1) := by
  obtain ⟨hp, e⟩ := List.getElem?_eq_some_iff.1 h
  have e1 : b.drop p = c :: b.drop (p + 1) := by rw [List.drop_eq_getElem_cons hp, e]
  have e2 : b.take (p + 1) = b.take p ++ [c] := by rw [List.take_succ_eq_append_getElem hp, e]
  have hs : schB c = true := by
    rcases ho with h | h
    · unfold schB; rw [h]; rfl
    · exact h.2
  unfold schP
  rw [if_neg (Nat.succ_ne_zero p), e2]
  by_cases h0 : p = 0
  · subst h0
    have hl : letB c = true := by
      rcases ho with h | h
      · exact h
      · exact absurd rfl h.1
    rw [if_pos rfl]
    have e3 : b = c :: b.drop 1 := by simpa using e1
    rw [show schA b = schA (c :: b.drop 1) from congrArg schA e3, schA_cons, if_pos hl]
    cases schT (b.drop 1) <;> simp
  · rw [if_neg h0, e1, schT, if_neg hc, if_pos hs, map_app]
theorem schP_hit {b : List UInt8} {p : Nat} (h : b[p]? = some 58) (h0 : p ≠ 0) : schP b p = some (b.take p) := by
  obtain ⟨hp, e⟩ := List.getElem?_eq_some_iff.1 h
  have e1 : b.drop p = 58 :: b.drop (p + 1) := by rw [List.drop_eq_getElem_cons hp, e]
  unfold schP
  rw [if_neg h0, e1, schT, if_pos rfl]
  simp
theorem schP_miss {b : List UInt8} {p : Nat} {c : UInt8} (h : b[p]? = some c) (hl : letB c = false) (ho : p = 0 ∨ (c ≠ 58 ∧ schB c = false)) : schP b p = none := by
  obtain ⟨hp, e⟩ := List.getElem?_eq_some_iff.1 h
  have e1 : b.drop p = c :: b.drop (p + 1) := by rw [List.drop_eq_getElem_cons hp, e]
  unfold schP
  by_cases h0 : p = 0
  · subst h0
    rw [if_pos rfl]
    have e3 : b = c :: b.drop 1 := by simpa using e1
    rw [show schA b = schA (c :: b.drop 1) from congrArg schA e3, schA_cons, if_neg (by simp [hl])]
  · rw [if_neg h0, e1, schT]
    rcases ho with h | h
    · exact absurd h h0
    · rw [if_neg h.1, if_neg (by simp [h.2])]
      rfl
theorem schP_end {b : List UInt8} {p : Nat} (h : b.length ≤ p) : schP b p = none := by
  unfold schP
  by_cases h0 : p = 0
  · subst h0
    have : b = [] := List.length_eq_zero_iff.1 (by omega)
    subst this
    rfl
  · rw [if_neg h0, List.drop_eq_nil_iff.2 h]
    rfl
theorem letB_yes {c : UInt8} (h : 97 ≤ c.toNat) (h2 : c.toNat ≤ 122) : letB c = true := decide_eq_true ⟨h, h2⟩
theorem letB_no {c : UInt8} (h : c.toNat < 97 ∨ 122 < c.toNat) : letB c = false := decide_eq_false (by omega)
theorem ne_of_toNat {c d : UInt8} (h : c.toNat ≠ d.toNat) : c ≠ d := fun e => h (by rw [e])
theorem schB_yes {c : UInt8} (h : (48 ≤ c.toNat ∧ c.toNat ≤ 57) ∨ c.toNat = 43 ∨ c.toNat = 45 ∨ c.toNat = 46) : schB c = true := by
  unfold schB
  rw [decide_eq_true (p := (48 ≤ c.toNat ∧ c.toNat ≤ 57) ∨ c = 43 ∨ c = 45 ∨ c = 46)]
  · simp
  · rcases h with h | h | h | h
    · exact .inl h
    · exact .inr (.inl (UInt8.toNat_inj.1 h))
    · exact .inr (.inr (.inl (UInt8.toNat_inj.1 h)))
    · exact .inr (.inr (.inr (UInt8.toNat_inj.1 h)))
theorem schB_no {c : UInt8} (hl : c.toNat < 97 ∨ 122 < c.toNat) (hd : c.toNat < 48 ∨ 57 < c.toNat) (h : c.toNat ≠ 43 ∧ c.toNat ≠ 45 ∧ c.toNat ≠ 46) : schB c = false := by
  unfold schB
  rw [letB_no hl, decide_eq_false (p := (48 ≤ c.toNat ∧ c.toNat ≤ 57) ∨ c = 43 ∨ c = 45 ∨ c = 46)]
  · rfl
  · rintro (h1 | h1 | h1 | h1)
    · omega
    · exact h.1 (by rw [h1]; rfl)
    · exact h.2.1 (by rw [h1]; rfl)
    · exact h.2.2 (by rw [h1]; rfl)

theorem scheme_bare {a b : List UInt8} (h : bare a = bare b) : scheme a = scheme b := by
  unfold scheme
  rw [h]
theorem scheme_lower (l : List UInt8) : scheme (lower l) = scheme l := by
  unfold scheme
  rw [bare_lower, lower_lower]
theorem schT_len : ∀ (l x : List UInt8), schT l = some x → x.length < l.length
  | [], x, h => by cases h
  | c :: t, x, h => by
    unfold schT at h
    split at h
    · cases h
      simp
    · split at h
      · cases e : schT t with
        | none => rw [e] at h; cases h
        | some y =>
          rw [e] at h
          cases h
          have := schT_len t y e
          simp
          omega
      · cases h
theorem scheme_len (l x : List UInt8) (h : scheme l = some x) : x.length ≤ l.length := by
  have hb := bare_len l
  have hl : (lower (bare l)).length = (bare l).length := by simp [lower]
  unfold scheme at h
  cases e : lower (bare l) with
  | nil => rw [e] at h; cases h
  | cons c t =>
    rw [e] at h
    rw [e, List.length_cons] at hl
    rw [schA_cons] at h
    split at h
    · cases e2 : schT t with
      | none => rw [e2] at h; cases h
      | some y =>
        rw [e2] at h
        cases h
        have := schT_len t y e2
        simp
        omega
    · cases h
theorem schT_none : ∀ (l : List UInt8), 58 ∉ l → schT l = none
  | [], _ => rfl
  | c :: t, h => by
    have hc : c ≠ 58 := fun e => h (by simp [e])
    unfold schT
    rw [if_neg hc, schT_none t (fun e => h (by simp [e]))]
    split <;> rfl
theorem schA_none (l : List UInt8) (h : 58 ∉ l) : schA l = none := by
  cases l with
  | nil => rfl
  | cons c t =>
    rw [schA_cons, schT_none t (fun e => h (by simp [e]))]
    split <;> rfl
theorem schT_some : ∀ (x t : List UInt8), (∀ c ∈ x, letB c = true) → schT (x ++ 58 :: t) = some x
  | [], t, _ => by simp [schT]
  | c :: x, t, h => by
    have hc := h c (by simp)
    have h58 : c ≠ 58 := by rintro rfl; revert hc; decide
    rw [List.cons_append]
    unfold schT
    rw [if_neg h58, if_pos (by unfold schB; rw [hc]; rfl), schT_some x t (fun d hd => h d (by simp [hd]))]
    rfl
theorem schA_some (x t : List UInt8) (hx : x ≠ []) (h : ∀ c ∈ x, letB c = true) : schA (x ++ 58 :: t) = some x := by
  cases x with
  | nil => exact absurd rfl hx
  | cons c x =>
    rw [List.cons_append]
    rw [schA_cons, if_pos (h c (by simp)), schT_some x t (fun d hd => h d (by simp [hd]))]
    rfl
theorem lower_small (l : List UInt8) (h : ∀ c ∈ l, ¬ (65 ≤ c.toNat ∧ c.toNat ≤ 90)) : lower l = l := by
  unfold lower
  conv => rhs; rw [← List.map_id l]
  apply List.map_congr_left
  intro c hc
  unfold low8
  rw [if_neg (h c hc)]
  rfl
theorem allowed_none (l : List UInt8) (h : allowed l [] = true) : scheme l = none := by
  unfold allowed at h
  cases e : scheme l with
  | none => rfl
  | some x =>
    rw [e] at h
    simp at h
theorem allowed_more (l : List UInt8) (ss : List (List UInt8)) (m : List UInt8) (h : allowed l ss = true) : allowed l (ss ++ [m]) = true := by
  unfold allowed at *
  cases e : scheme l with
  | none => rw [e] at h; exact h
  | some x =>
    rw [e] at h
    have h : x ∈ ss := of_decide_eq_true h
    exact decide_eq_true (List.mem_append_left _ h)
theorem allowed_one (l x m : List UInt8) (h : scheme l = some x) : allowed l [m] = decide (m = x) := by
  unfold allowed
  rw [h]
  by_cases e : m = x
  · simp [e]
  · have : ¬ x = m := fun h => e h.symm
    simp [e, this]

/-- A simple path's bytes. -/
def pathB (c : UInt8) : Prop := (97 ≤ c.toNat ∧ c.toNat ≤ 122) ∨ (48 ≤ c.toNat ∧ c.toNat ≤ 57) ∨ c = 95
theorem path_facts (c : UInt8) (h : pathB c) : blk c = false ∧ ¬ (65 ≤ c.toNat ∧ c.toNat ≤ 90) ∧ c ≠ 58 ∧ c ≠ 47 ∧ badB c = false := by
  have h95 : c = 95 → c.toNat = 95 := by rintro rfl; rfl
  have hn : 48 ≤ c.toNat ∧ c.toNat ≤ 57 ∨ 95 ≤ c.toNat ∧ c.toNat ≤ 122 := by
    rcases h with h | h | h
    · omega
    · omega
    · have := h95 h
      omega
  have hne : ∀ d : UInt8, (d.toNat < 48 ∨ (57 < d.toNat ∧ d.toNat < 95) ∨ 122 < d.toNat) → c ≠ d := by
    intro d hd e
    subst e
    omega
  refine ⟨?_, by omega, hne 58 (by decide), hne 47 (by decide), ?_⟩
  · unfold blk
    exact decide_eq_false (by omega)
  · unfold badB
    apply decide_eq_false
    rintro (h | h | h)
    · omega
    · exact hne 92 (by decide) h
    · exact hne 127 (by decide) h
theorem plain_scheme (l : List UInt8) (h : ∀ c ∈ l, blk c = false ∧ ¬ (65 ≤ c.toNat ∧ c.toNat ≤ 90)) : scheme l = schA l := by
  unfold scheme
  rw [bare_self l (fun c hc => (h c hc).1), lower_small l (fun c hc => (h c hc).2)]
theorem plain_allowed (l : List UInt8) (h : ∀ c ∈ l, blk c = false ∧ ¬ (65 ≤ c.toNat ∧ c.toNat ≤ 90)) (ss : List (List UInt8)) :
    allowed l ss = match schA l with
      | some x => decide (x ∈ ss)
      | none => plainOk l := by
  unfold allowed
  rw [plain_scheme l h, bare_self l (fun c hc => (h c hc).1)]
theorem path_ok (s : List UInt8) (h : ∀ c ∈ s, pathB c) (ss : List (List UInt8)) : allowed s ss = true := by
  rw [plain_allowed s (fun c hc => ⟨(path_facts c (h c hc)).1, (path_facts c (h c hc)).2.1⟩), schA_none s (fun e => (path_facts _ (h _ e)).2.2.1 rfl)]
  show plainOk s = true
  unfold plainOk
  rw [Bool.and_eq_true]
  refine ⟨?_, ?_⟩
  · rw [decide_eq_false]
    · rfl
    · intro e
      have : (47 : UInt8) ∈ s.take 2 := by rw [e]; simp
      exact (path_facts _ (h _ (List.mem_of_mem_take this))).2.2.2.1 rfl
  · rw [List.all_eq_true]
    intro c hc
    rw [(path_facts c (h c hc)).2.2.2.2]
    rfl
theorem path_slash (s : List UInt8) (h : ∀ c ∈ s, pathB c) (ss : List (List UInt8)) : allowed (47 :: s) ss = true := by
  rw [plain_allowed (47 :: s) (by
    intro c hc
    rcases List.mem_cons.1 hc with rfl | hc
    · exact ⟨by decide, by decide⟩
    · exact ⟨(path_facts c (h c hc)).1, (path_facts c (h c hc)).2.1⟩), schA_none (47 :: s) (by
    intro e
    rcases List.mem_cons.1 e with e | e
    · revert e; decide
    · exact (path_facts _ (h _ e)).2.2.1 rfl)]
  show plainOk (47 :: s) = true
  unfold plainOk
  rw [Bool.and_eq_true]
  refine ⟨?_, ?_⟩
  · rw [decide_eq_false]
    · rfl
    · cases s with
      | nil => simp
      | cons c t =>
        intro e
        have : c = 47 := by simpa using e
        exact (path_facts c (h c (by simp))).2.2.2.1 this
  · rw [List.all_eq_true]
    intro c hc
    rcases List.mem_cons.1 hc with rfl | hc
    · decide
    · rw [(path_facts c (h c hc)).2.2.2.2]
      rfl
theorem path_two (s : List UInt8) (h : ∀ c ∈ s, pathB c) (ss : List (List UInt8)) : allowed (47 :: 47 :: s) ss = false := by
  rw [plain_allowed (47 :: 47 :: s) (by
    intro c hc
    rcases List.mem_cons.1 hc with rfl | hc
    · exact ⟨by decide, by decide⟩
    · rcases List.mem_cons.1 hc with rfl | hc
      · exact ⟨by decide, by decide⟩
      · exact ⟨(path_facts c (h c hc)).1, (path_facts c (h c hc)).2.1⟩)]
  have e : schA (47 :: 47 :: s) = none := by
    rw [schA_cons, if_neg (by decide)]
  rw [e]
  rfl
theorem path_scheme (x t : List UInt8) (hx : x ≠ []) (h : ∀ c ∈ x, letB c = true) (ht : ∀ c ∈ t, pathB c ∨ c = 47) : scheme (x ++ 58 :: t) = some x := by
  rw [plain_scheme, schA_some x t hx h]
  intro c hc
  rcases List.mem_append.1 hc with hc | hc
  · have := h c hc
    unfold letB at this
    have := of_decide_eq_true this
    refine ⟨?_, by omega⟩
    unfold blk
    exact decide_eq_false (by omega)
  · rcases List.mem_cons.1 hc with rfl | hc
    · exact ⟨by decide, by decide⟩
    · rcases ht c hc with hp | rfl
      · exact ⟨(path_facts c hp).1, (path_facts c hp).2.1⟩
      · exact ⟨by decide, by decide⟩
end Utf1
