/-
  Plain mathematics of the laws of tokens: texts without '<', tags that are laid out of simple names.
-/
import Derived.Test.YtbcadeikdmlpoaaDoorM3
import Derived.Test.YtbcadeikdmlpoaaDoorM4
namespace Utf1
open Go

theorem stop_all : ∀ l : List UInt8, (∀ c ∈ l, c ≠ 60) → stop l = l.length
  | [], _ => rfl
  | c :: t, h => by
    unfold stop
    rw [if_pos (beg_ne t (h c (List.mem_cons_self ..))), stop_all t (fun x hx => h x (List.mem_cons_of_mem _ hx))]
    rfl
theorem beg_plain : ∀ l : List UInt8, (∀ c ∈ l, c ≠ 60) → beg l = 0
  | [], _ => rfl
  | c :: t, h => beg_ne t (h c (List.mem_cons_self ..))
theorem toks_plain (l : List UInt8) (hl : l ≠ []) (h : ∀ c ∈ l, c ≠ 60) : toks l = [⟨1, [], [], false, res l⟩] := by
  rw [toks_text l hl (beg_plain l h), stop_all l h, List.take_length, List.drop_length, toks_nil]
theorem esc_ne (q : Bool) (l : List UInt8) (hl : l ≠ []) : esc q l ≠ [] := by
  intro h
  have := (esc_lens q l).1
  rw [h] at this
  cases l with
  | nil => exact hl rfl
  | cons => simp at this
theorem toks_esc (l : List UInt8) (hl : l ≠ []) : toks (esc false l) = [⟨1, [], [], false, l⟩] := by
  rw [toks_plain _ (esc_ne _ _ hl) (fun c hc => (esc_bytes false l c hc).1), res_esc]

theorem stop_app (r : List UInt8) (hr : beg r ≠ 0) : ∀ a : List UInt8, (∀ c ∈ a, c ≠ 60) → stop (a ++ r) = a.length
  | [], _ => by
    cases r with
    | nil => exact absurd rfl hr
    | cons c t =>
      show stop (c :: t) = 0
      unfold stop
      rw [if_neg hr]
  | c :: t, h => by
    show stop (c :: (t ++ r)) = _
    unfold stop
    rw [if_pos (beg_ne _ (h c (List.mem_cons_self ..))), stop_app r hr t (fun x hx => h x (List.mem_cons_of_mem _ hx))]
    rfl
theorem toks_ahead (a r : List UInt8) (hr : beg r ≠ 0) (ha : a ≠ []) (h : ∀ c ∈ a, c ≠ 60) : toks (a ++ r) = ⟨1, [], [], false, res a⟩ :: toks r := by
  have hb : beg (a ++ r) = 0 := by
    cases a with
    | nil => exact absurd rfl ha
    | cons c t => exact beg_ne _ (h c (List.mem_cons_self ..))
  rw [toks_text _ (by simp [ha]) hb, stop_app r hr a h, List.take_left, List.drop_left]

/-- A small letter or a digit. -/
def SmallB (c : UInt8) : Prop := (97 ≤ c.toNat ∧ c.toNat ≤ 122) ∨ (48 ≤ c.toNat ∧ c.toNat ≤ 57)
/-- A small letter, and small letters and digits behind it. -/
def Simple (n : List UInt8) : Prop := (∃ c t, n = c :: t ∧ 97 ≤ c.toNat ∧ c.toNat ≤ 122) ∧ ∀ c ∈ n, SmallB c

theorem small_ne {c : UInt8} (h : SmallB c) (k : UInt8) (hk : k.toNat < 48 ∨ (57 < k.toNat ∧ k.toNat < 97)) : (c == k) = false := by
  refine beq_eq_false_iff_ne.2 ?_
  rintro rfl
  rcases h with h | h <;> omega
theorem small_facts {c : UInt8} (h : SmallB c) : isNm c = false ∧ isAt c = false ∧ isGap c = false ∧ low8 c = c ∧ c ≠ 60 ∧ c ≠ 62 := by
  have k1 := small_ne h 9 (by decide)
  have k2 := small_ne h 10 (by decide)
  have k3 := small_ne h 12 (by decide)
  have k4 := small_ne h 13 (by decide)
  have k5 := small_ne h 32 (by decide)
  have k6 := small_ne h 47 (by decide)
  have k7 := small_ne h 62 (by decide)
  have k8 := small_ne h 61 (by decide)
  have k9 := small_ne h 60 (by decide)
  refine ⟨?_, ?_, ?_, ?_, ?_, ?_⟩
  · unfold isNm isBl
    rw [k1, k2, k3, k4, k5, k6, k7]
    rfl
  · unfold isAt isBl
    rw [k1, k2, k3, k4, k5, k6, k7, k8]
    rfl
  · unfold isGap isBl
    rw [k1, k2, k3, k4, k5, k6]
    rfl
  · unfold low8
    rw [if_neg (by rcases h with h | h <;> omega)]
  · exact beq_eq_false_iff_ne.1 k9
  · exact beq_eq_false_iff_ne.1 k7
theorem lower_simple (n : List UInt8) (h : ∀ c ∈ n, SmallB c) : lower n = n := by
  unfold lower
  induction n with
  | nil => rfl
  | cons c t ih =>
    rw [List.map_cons, (small_facts (h c (List.mem_cons_self ..))).2.2.2.1, ih (fun x hx => h x (List.mem_cons_of_mem _ hx))]

theorem take_until {p : UInt8 → Bool} {d : UInt8} (hd : p d = false) (r : List UInt8) : ∀ n : List UInt8, (∀ c ∈ n, p c = true) → (n ++ d :: r).takeWhile p = n ∧ (n ++ d :: r).dropWhile p = d :: r
  | [], _ => by simp [hd]
  | c :: t, h => by
    have hc := h c (List.mem_cons_self ..)
    have ih := take_until hd r t (fun x hx => h x (List.mem_cons_of_mem _ hx))
    simp only [List.cons_append, List.takeWhile_cons, List.dropWhile_cons, hc, if_true]
    rw [ih.1, ih.2]
    exact ⟨rfl, rfl⟩

theorem isLet_small {c : UInt8} (h1 : 97 ≤ c.toNat) (h2 : c.toNat ≤ 122) : isLet c = true := by
  unfold isLet
  have e1 : (97 : UInt8) ≤ c := UInt8.le_iff_toNat_le.2 h1
  have e2 : c ≤ (122 : UInt8) := UInt8.le_iff_toNat_le.2 h2
  rw [decide_eq_true e1, decide_eq_true e2]
  rfl
theorem beg_start (n r : List UInt8) (h : Simple n) : beg (60 :: (n ++ r)) = 3 := by
  obtain ⟨⟨c, t, rfl, h1, h2⟩, hs⟩ := h
  have hc := hs c (List.mem_cons_self ..)
  have k33 := beq_eq_false_iff_ne.1 (small_ne hc 33 (by decide))
  have k63 := beq_eq_false_iff_ne.1 (small_ne hc 63 (by decide))
  rw [beg_lt]
  show beg1 (c :: (t ++ r)) = 3
  unfold beg1
  simp only
  rw [if_neg (by simp [List.isPrefixOf, Ne.symm k33]), if_neg (by simp [k33, k63]), if_pos (isLet_small h1 h2)]
theorem beg_end (n r : List UInt8) (h : Simple n) : beg (60 :: 47 :: (n ++ r)) = 3 := by
  obtain ⟨⟨c, t, rfl, h1, h2⟩, hs⟩ := h
  rw [beg_lt]
  show beg1 (47 :: c :: (t ++ r)) = 3
  unfold beg1
  simp only
  rw [if_neg (by simp [List.isPrefixOf]), if_neg (by decide), if_neg (by decide), if_neg (by decide)]
  show beg2 (c :: (t ++ r)) = 3
  unfold beg2
  simp only
  rw [if_pos (isLet_small h1 h2)]
theorem getD_start (n r : List UInt8) (h : Simple n) : (60 :: (n ++ r)).getD 1 0 ≠ 47 := by
  obtain ⟨⟨c, t, rfl, h1, h2⟩, hs⟩ := h
  exact beq_eq_false_iff_ne.1 (small_ne (hs c (List.mem_cons_self ..)) 47 (by decide))
theorem nm_all {n : List UInt8} (h : Simple n) : ∀ c ∈ n, (!isNm c) = true := fun c hc => by rw [(small_facts (h.2 c hc)).1]; rfl

theorem tagOf_start (n r : List UInt8) (h : Simple n) : tagOf (60 :: (n ++ 62 :: r)) = some (⟨2, n, [], false, []⟩, r) := by
  have hb : tagBody (60 :: (n ++ 62 :: r)) = n ++ 62 :: r := by
    unfold tagBody
    rw [if_neg (getD_start n _ h)]
    rfl
  have ht := take_until (p := fun x => !isNm x) (d := 62) (by decide) r n (nm_all h)
  unfold tagOf
  rw [hb, ht.2, attrsOf_end [] (62 :: r) r (by rfl)]
  simp only
  rw [if_neg (getD_start n _ h), ht.1, lower_simple n h.2]
  rfl
theorem tagOf_stop (n r : List UInt8) (h : Simple n) : tagOf (60 :: 47 :: (n ++ 62 :: r)) = some (⟨3, n, [], false, []⟩, r) := by
  have hb : tagBody (60 :: 47 :: (n ++ 62 :: r)) = n ++ 62 :: r := by
    unfold tagBody
    rw [if_pos (by rfl)]
    rfl
  have ht := take_until (p := fun x => !isNm x) (d := 62) (by decide) r n (nm_all h)
  unfold tagOf
  rw [hb, ht.2, attrsOf_end [] (62 :: r) r (by rfl)]
  simp only
  rw [if_pos (by rfl), ht.1, lower_simple n h.2]

theorem toks_start (n r : List UInt8) (h : Simple n) : toks (60 :: (n ++ 62 :: r)) = ⟨2, n, [], false, []⟩ :: ((withRaw ⟨2, n, [], false, []⟩ r).1 ++ toks (withRaw ⟨2, n, [], false, []⟩ r).2) :=
  toks_tag _ r _ (beg_start n _ h) (tagOf_start n r h)
theorem withRaw_none (a : List (List UInt8 × List UInt8)) (cl : Bool) (x n r : List UInt8) (h : rawOf n = none) : withRaw ⟨2, n, a, cl, x⟩ r = ([], r) := by
  unfold withRaw
  rw [if_pos rfl, h]
theorem toks_begin (n r : List UInt8) (h : Simple n) (hr : rawOf n = none) : toks (60 :: (n ++ 62 :: r)) = ⟨2, n, [], false, []⟩ :: toks r := by
  rw [toks_start n r h, withRaw_none _ _ _ _ _ hr]
  rfl
theorem toks_stop (n r : List UInt8) (h : Simple n) : toks (60 :: 47 :: (n ++ 62 :: r)) = ⟨3, n, [], false, []⟩ :: toks r := by
  rw [toks_tag _ r _ (beg_end n _ h) (tagOf_stop n r h)]
  have : withRaw ⟨3, n, [], false, []⟩ r = ([], r) := by
    unfold withRaw
    rw [if_neg (by simp)]
  rw [this]
  rfl

/-- TokJoins. -/
theorem toks_joins (a n b : List UInt8) (ha : ∀ c ∈ a, c ≠ 60) (h : Simple n) (hr : rawOf n = none) : toks (a ++ 60 :: (n ++ 62 :: b)) = toks (a ++ 60 :: (n ++ [62])) ++ toks b := by
  have k : ∀ x : List UInt8, toks (a ++ 60 :: (n ++ 62 :: x)) = (if a = [] then [] else [⟨1, [], [], false, res a⟩]) ++ ⟨2, n, [], false, []⟩ :: toks x := by
    intro x
    by_cases he : a = []
    · subst he
      rw [if_pos rfl, List.nil_append, List.nil_append, toks_begin n x h hr]
    · rw [if_neg he, toks_ahead a _ (by rw [beg_start n _ h]; decide) he ha, toks_begin n x h hr]
      rfl
  rw [k b, show n ++ [62] = n ++ 62 :: [] from rfl, k [], toks_nil]
  simp

/-- TokTag. -/
theorem toks_attr (n a v r : List UInt8) (h : Simple n) (hr : rawOf n = none) (ha : Simple a) (hv : ∀ c ∈ v, c ≠ 34) : toks (60 :: (n ++ 32 :: (a ++ 61 :: 34 :: (v ++ 34 :: 62 :: r)))) = ⟨2, n, [(a, res v)], false, []⟩ :: toks r := by
  have hb : tagBody (60 :: (n ++ 32 :: (a ++ 61 :: 34 :: (v ++ 34 :: 62 :: r)))) = n ++ 32 :: (a ++ 61 :: 34 :: (v ++ 34 :: 62 :: r)) := by
    unfold tagBody
    rw [if_neg (getD_start n _ h)]
    rfl
  have ht := take_until (p := fun x => !isNm x) (d := 32) (by decide) (a ++ 61 :: 34 :: (v ++ 34 :: 62 :: r)) n (nm_all h)
  obtain ⟨⟨c, t, rfl, h1, h2⟩, hs⟩ := ha
  have hc := small_facts (hs c (List.mem_cons_self ..))
  have hta : ∀ x ∈ t, (!isAt x) = true := fun x hx => by rw [(small_facts (hs x (List.mem_cons_of_mem _ hx))).2.1]; rfl
  have h3 := take_until (p := fun x => !isAt x) (d := 61) (by decide) (34 :: (v ++ 34 :: 62 :: r)) t hta
  have h4 := take_until (p := fun x => x != (34 : UInt8)) (d := 34) (by decide) (62 :: r) v (fun x hx => by simpa using hv x hx)
  have h5 : oneAt c (t ++ 61 :: 34 :: (v ++ 34 :: 62 :: r)) = some (c :: t, v, 62 :: r) := by
    unfold oneAt
    rw [h3.2, h3.1]
    simp only [show (61 :: 34 :: (v ++ 34 :: 62 :: r)).dropWhile isBl = 61 :: 34 :: (v ++ 34 :: 62 :: r) from rfl, show (34 :: (v ++ 34 :: 62 :: r)).dropWhile isBl = 34 :: (v ++ 34 :: 62 :: r) from rfl, true_or, if_true]
    rw [h4.1, h4.2]
  have h6 : attrsOf [] (32 :: ((c :: t) ++ 61 :: 34 :: (v ++ 34 :: 62 :: r))) = some ([(c :: t, res v)], false, r) := by
    rw [attrsOf_one [] _ (t ++ 61 :: 34 :: (v ++ 34 :: 62 :: r)) c _ _ _ (by
      show List.dropWhile isGap (32 :: c :: _) = _
      rw [List.dropWhile_cons, if_pos (by decide), List.dropWhile_cons, if_neg (by rw [hc.2.2.1]; decide)]
      rfl) hc.2.2.2.2.2 h5]
    rw [attrsOf_end _ (62 :: r) r (by rfl), lower_simple _ hs]
    rfl
  have hk : tagOf (60 :: (n ++ 32 :: ((c :: t) ++ 61 :: 34 :: (v ++ 34 :: 62 :: r)))) = some (⟨2, n, [(c :: t, res v)], false, []⟩, r) := by
    unfold tagOf
    rw [hb, ht.2, h6]
    simp only
    rw [if_neg (getD_start n _ h), ht.1, lower_simple n h.2]
  rw [toks_tag _ r _ (beg_start n _ h) hk, withRaw_none _ _ _ _ _ hr]
  rfl

theorem toks_tagged (n a v t : List UInt8) (hn : Simple n) (ha : Simple a) (hr : rawOf n = none) : toks (60 :: (n ++ 32 :: (a ++ 61 :: 34 :: (esc true v ++ 34 :: 62 :: (esc false t ++ 60 :: 47 :: (n ++ [62])))))) =
    ⟨2, n, [(a, v)], false, []⟩ :: ((if t = [] then [] else [⟨1, [], [], false, t⟩]) ++ [⟨3, n, [], false, []⟩]) := by
  have he : toks (60 :: 47 :: (n ++ [62])) = [⟨3, n, [], false, []⟩] := by
    have := toks_stop n [] hn
    rw [toks_nil] at this
    exact this
  rw [toks_attr n a (esc true v) _ hn hr ha (fun c hc => (esc_bytes true v c hc).2.2 rfl), res_esc]
  by_cases h : t = []
  · subst h
    rw [if_pos rfl, esc_nil, List.nil_append, he]
    rfl
  · rw [if_neg h, toks_ahead _ _ (by rw [beg_end n _ hn]; decide) (esc_ne _ _ h) (fun c hc => (esc_bytes false t c hc).1), res_esc, he]
    rfl

/-- TokWithin. -/
theorem rawStop_app (n r : List UInt8) (hr : rawEnds n r = true) (hne : r ≠ []) : ∀ s : List UInt8, (∀ c ∈ s, c ≠ 60) → rawStop n (s ++ r) = s.length
  | [], _ => by
    cases r with
    | nil => exact absurd rfl hne
    | cons c t =>
      show rawStop n (c :: t) = 0
      unfold rawStop
      rw [if_pos hr]
  | c :: t, h => by
    have hc : c ≠ 60 := h c (List.mem_cons_self ..)
    show rawStop n (c :: (t ++ r)) = _
    unfold rawStop
    have : rawEnds n (c :: (t ++ r)) = false := by
      unfold rawEnds
      have : [60, 47].isPrefixOf (c :: (t ++ r)) = false := by simp [List.isPrefixOf, Ne.symm hc]
      rw [this]
      rfl
    rw [if_neg (by rw [this]; decide), rawStop_app n r hr hne t (fun x hx => h x (List.mem_cons_of_mem _ hx))]
    rfl
theorem rawEnds_stop (n r : List UInt8) (h : ∀ c ∈ n, SmallB c) : rawEnds n (60 :: 47 :: (n ++ 62 :: r)) = true := by
  unfold rawEnds
  have e1 : [60, 47].isPrefixOf (60 :: 47 :: (n ++ 62 :: r)) = true := by simp [List.isPrefixOf]
  have e2 : ((60 :: 47 :: (n ++ 62 :: r)).drop 2).take n.length = n := List.take_left
  have e3 : (60 :: 47 :: (n ++ 62 :: r)).getD (2 + n.length) 0 = 62 := by
    rw [show 2 + n.length = n.length + 1 + 1 by omega, List.getD_cons_succ, List.getD_cons_succ, List.getD_eq_getElem?_getD, List.getElem?_append_right (Nat.le_refl _), Nat.sub_self]
    rfl
  rw [e1, e2, e3, lower_simple n h]
  simp
  exact ⟨by omega, by decide⟩
theorem raws_simple : ∀ p ∈ raws, Simple p.1 := by
  have k : ∀ n : List UInt8, (match n with | [] => false | c :: _ => decide (97 ≤ c.toNat ∧ c.toNat ≤ 122)) = true → n.all (fun c => decide ((97 ≤ c.toNat ∧ c.toNat ≤ 122) ∨ (48 ≤ c.toNat ∧ c.toNat ≤ 57))) = true → Simple n := by
    intro n h1 h2
    refine ⟨?_, fun c hc => by
      have h3 := List.all_eq_true.1 h2 c hc
      unfold SmallB
      simpa using h3⟩
    cases n with
    | nil => cases h1
    | cons c t => exact ⟨c, t, rfl, by simpa using h1⟩
  intro p hp
  have : (raws.all fun p => (match p.1 with | [] => false | c :: _ => decide (97 ≤ c.toNat ∧ c.toNat ≤ 122)) && p.1.all (fun c => decide ((97 ≤ c.toNat ∧ c.toNat ≤ 122) ∨ (48 ≤ c.toNat ∧ c.toNat ≤ 57)))) = true := by decide
  have := List.all_eq_true.1 this p hp
  rw [Bool.and_eq_true] at this
  exact k _ this.1 this.2
theorem lookR_mem : ∀ (t : List (List UInt8 × Bool)) (l : List UInt8) (b : Bool), lookR t l = some b → (l, b) ∈ t
  | [], _, _, h => by cases h
  | p :: t, l, b, h => by
    unfold lookR at h
    split at h
    · rename_i e
      cases h
      subst e
      exact List.mem_cons_self ..
    · exact List.mem_cons_of_mem _ (lookR_mem t l b h)
theorem raw_simple {n : List UInt8} {b : Bool} (h : rawOf n = some b) : Simple n := raws_simple _ (lookR_mem _ _ _ h)
theorem simple_b : Simple [98] := ⟨⟨98, [], rfl, by decide, by decide⟩, fun c hc => by
  have : c = 98 := by simpa using hc
  subst this
  exact .inl ⟨by decide, by decide⟩⟩
theorem toks_within (n s : List UInt8) (b : Bool) (h : rawOf n = some b) (hp : n ≠ plainText) (hs : s ≠ []) (h60 : ∀ c ∈ s, c ≠ 60) : toks (60 :: (n ++ 62 :: (s ++ 60 :: 47 :: (n ++ 62 :: [60, 98, 62])))) = [⟨2, n, [], false, []⟩, ⟨1, [], [], false, if b then res s else s⟩, ⟨3, n, [], false, []⟩, ⟨2, [98], [], false, []⟩] := by
  have hn := raw_simple h
  have hl : rawLen n (s ++ 60 :: 47 :: (n ++ 62 :: [60, 98, 62])) = s.length := by
    unfold rawLen
    rw [if_neg hp, rawStop_app n _ (rawEnds_stop n _ hn.2) (by simp) s h60]
  have hw : withRaw ⟨2, n, [], false, []⟩ (s ++ 60 :: 47 :: (n ++ 62 :: [60, 98, 62])) = ([⟨1, [], [], false, if b then res s else s⟩], 60 :: 47 :: (n ++ 62 :: [60, 98, 62])) := by
    unfold withRaw
    rw [if_pos rfl]
    simp only [h]
    rw [hl, if_neg (by intro e; exact hs (List.length_eq_zero_iff.1 e)), List.take_left, List.drop_left]
  have hb : toks [60, 98, 62] = [⟨2, [98], [], false, []⟩] := by
    have := toks_begin [98] [] simple_b (by decide)
    rw [toks_nil] at this
    exact this
  rw [toks_start n _ hn, hw, toks_stop n _ hn, hb]
  rfl
end Utf1
