/-
  Policies: how a text's lines are read one behind the other, in the words of the plain mathematics.
-/
import Derived.Test.YteglmpaapcgfbaaDoorPM
import Derived.Lib.AtoiAll
import Derived.Lib.ItoaNum
namespace Pol8
open Go

/-- A text, parted at the first byte c. -/
def cutB (c : UInt8) : L → Option (L × L)
  | [] => none
  | b :: l => if b = c then some ([], l) else (cutB c l).map fun x => (b :: x.1, x.2)
theorem cutB_none (c : UInt8) : ∀ (p : L), c ∉ p → cutB c p = none
  | [], _ => rfl
  | b :: p, h => by
    have hb : b ≠ c := fun e => h (by simp [e])
    have hp : c ∉ p := fun e => h (by simp [e])
    rw [cutB, if_neg hb, cutB_none c p hp]
    rfl
theorem cutB_some (c : UInt8) : ∀ (a b : L), c ∉ a → cutB c (a ++ c :: b) = some (a, b)
  | [], b, _ => by simp [cutB]
  | d :: a, b, h => by
    have hb : d ≠ c := fun e => h (by simp [e])
    have hp : c ∉ a := fun e => h (by simp [e])
    rw [List.cons_append, cutB, if_neg hb, cutB_some c a b hp]
    rfl
/-- Does a text begin with a word and a blank? -/
def starts (k s : L) : Bool := decide (s.take (k.length + 1) = k ++ [32])
/-- What stands behind a word and a blank in the first line, and what stands behind that line. -/
def cutL (k s : L) : Option (L × L) := if starts k s = true then cutB 10 (s.drop (k.length + 1)) else none
theorem starts_ln (k x : L) : starts k (k ++ 32 :: x) = true := by
  unfold starts
  apply decide_eq_true
  rw [show k ++ 32 :: x = (k ++ [32]) ++ x by simp, List.take_append_of_le_length (by simp)]
  rw [List.take_of_length_le (by simp)]
theorem drop_ln (k x : L) : (k ++ 32 :: x).drop (k.length + 1) = x := by
  rw [show k ++ 32 :: x = (k ++ [32]) ++ x by simp, List.drop_append_of_le_length (by simp)]
  rw [List.drop_eq_nil_of_le (by simp)]
  rfl
theorem starts_is {k s : L} (h : starts k s = true) : s = k ++ 32 :: s.drop (k.length + 1) := by
  have h := of_decide_eq_true h
  conv => lhs; rw [← List.take_append_drop (k.length + 1) s, h]
  simp
theorem cutL_ln (k x r : L) (hx : (10 : UInt8) ∉ x) : cutL k (ln k x ++ r) = some (x, r) := by
  have e : ln k x ++ r = k ++ 32 :: (x ++ 10 :: r) := by simp [ln]
  unfold cutL
  rw [e, if_pos (starts_ln _ _), drop_ln, cutB_some 10 x r hx]
theorem starts_two {k s : L} (hk : 2 ≤ k.length) (h : starts k s = true) : s.take 2 = k.take 2 := by
  rw [starts_is h, List.take_append_of_le_length hk]
/-- The lines of a word with which a text begins, at most n. -/
def cutN : Nat → L → L → List L × L
  | 0, _, s => ([], s)
  | n + 1, k, s => match cutL k s with
    | none => ([], s)
    | some x => (x.1 :: (cutN n k x.2).1, (cutN n k x.2).2)
theorem cutN_none {k s : L} (n : Nat) (h : starts k s = false) : cutN n k s = ([], s) := by
  cases n with
  | zero => rfl
  | succ n =>
    have : cutL k s = none := by
      unfold cutL
      rw [if_neg (by rw [h]; decide)]
    rw [cutN, this]
theorem cutN_lns (k r : L) (hr : starts k r = false) : ∀ (l : List L) (n : Nat), l.length ≤ n → (∀ x ∈ l, (10 : UInt8) ∉ x) → cutN n k (lns k l ++ r) = (l, r)
  | [], n, _, _ => cutN_none n hr
  | x :: l, 0, h, _ => by simp at h
  | x :: l, n + 1, h, hx => by
    have h1 : cutL k (lns k (x :: l) ++ r) = some (x, lns k l ++ r) := by
      rw [lns, List.append_assoc, cutL_ln k x _ (hx x (by simp))]
    rw [cutN, h1]
    have h2 := cutN_lns k r hr l n (by simpa using h) (fun y hy => hx y (by simp [hy]))
    show (x :: (cutN n k (lns k l ++ r)).1, (cutN n k (lns k l ++ r)).2) = _
    rw [h2]
theorem cutB_len {c : UInt8} : ∀ {s : L} {x : L × L}, cutB c s = some x → x.1.length + 1 + x.2.length = s.length
  | [], x, h => by simp [cutB] at h
  | b :: l, x, h => by
    rw [cutB] at h
    split at h
    · cases h
      simp
      omega
    · cases hp : cutB c l with
      | none => rw [hp] at h; simp at h
      | some y =>
        rw [hp] at h
        simp at h
        subst h
        have := cutB_len hp
        simp
        omega
theorem cutL_len {k s : L} {x : L × L} (h : cutL k s = some x) : k.length + 1 + x.1.length + 1 + x.2.length = s.length := by
  unfold cutL at h
  split at h
  · rename_i hs
    have h1 := cutB_len h
    have h2 := congrArg List.length (starts_is hs)
    rw [List.length_append, List.length_cons] at h2
    omega
  · cases h
theorem cutN_len : ∀ (n : Nat) (k s : L), (cutN n k s).1.length ≤ n ∧ (∀ x ∈ (cutN n k s).1, x.length ≤ s.length) ∧ (cutN n k s).2.length ≤ s.length
  | 0, k, s => ⟨Nat.le_refl _, fun x h => (by cases h), Nat.le_refl _⟩
  | n + 1, k, s => by
    rw [cutN]
    cases hc : cutL k s with
    | none => exact ⟨Nat.zero_le _, fun x h => (by cases h), Nat.le_refl _⟩
    | some y =>
      have h0 := cutL_len hc
      obtain ⟨h1, h2, h3⟩ := cutN_len n k y.2
      refine ⟨by simp; exact h1, fun x hx => ?_, ?_⟩
      · rcases List.mem_cons.1 hx with e | hx
        · rw [e]; omega
        · have := h2 x hx; omega
      · show (cutN n k y.2).2.length ≤ _
        omega

/-- The number of digits; else 0. -/
def numA (l : L) : Int := match Lib.atoiAll l with
  | .ok v => v
  | _ => 0
theorem numTo_ge : ∀ (l : L) (n : Nat), n ≤ numTo n l
  | [], n => Nat.le_refl _
  | c :: l, n => by
    rw [numTo_cons]
    have := numTo_ge l (stepN n c)
    unfold stepN at this ⊢
    omega
theorem parse_ok : ∀ (l : L) (acc : Nat), l.all dig = true → numTo acc l < 1000000000000000000 → Lib.parseUint10 acc l = .ok (numTo acc l)
  | [], acc, _, _ => rfl
  | c :: r, acc, h, hb => by
    rw [List.all_cons, Bool.and_eq_true] at h
    have hd := of_decide_eq_true h.1
    rw [numTo_cons] at hb ⊢
    have hge := numTo_ge r (stepN acc c)
    have he : stepN acc c = acc * 10 + (c.toNat - 48) := rfl
    rw [Lib.parseUint10, if_pos hd, if_neg (by omega), if_neg (by omega), ← he]
    exact parse_ok r _ h.2 hb
theorem dec_ne (n : Nat) : dec n ≠ [] := by
  by_cases h : n < 10
  · rw [dec_small n h]; simp
  · rw [dec_big n h]; simp
theorem numA_dec (n : Nat) (h : n ≤ 1000000) : numA (dec n) = (n : Int) := by
  obtain ⟨h1, h2⟩ := dec_facts n
  have hp := parse_ok (dec n) 0 h1 (by omega)
  rw [h2] at hp
  have hne := dec_ne n
  unfold numA
  have key : Lib.atoiAll (dec n) = .ok (n : Int) := by
    cases hl : dec n with
    | nil => exact absurd hl hne
    | cons c r =>
      rw [hl] at hp h1
      rw [List.all_cons, Bool.and_eq_true] at h1
      have hd := of_decide_eq_true h1.1
      unfold Lib.atoiAll Lib.parseMag
      simp only
      rw [if_neg (show ¬ (c.toNat = 43 ∨ c.toNat = 45) by omega), if_neg (by simp), hp]
      simp only
      rw [if_neg (by omega), if_neg (by omega), if_neg (by omega)]
  rw [key]
theorem numA_bounds (l : L) : -9223372036854775808 ≤ numA l ∧ numA l ≤ 9223372036854775807 := by
  unfold numA
  cases h : Lib.atoiAll l with
  | ok v =>
    show _ ≤ v ∧ v ≤ _
    unfold Lib.atoiAll at h
    cases l with
    | nil => cases h
    | cons c r =>
      simp only at h
      split at h
      · cases h
      · cases h
      · rename_i u hu
        split at h
        · cases h
        · split at h
          · cases h
          · injection h with h
            subst h
            split <;> omega
  | «syntax» => exact ⟨by decide, by decide⟩
  | range => exact ⟨by decide, by decide⟩
theorem dec_digits (n : Nat) : Lib.decDigits n = dec n := by
  induction n using Nat.strongRecOn with
  | ind n ih =>
    rw [Lib.decDigits]
    split
    · rename_i h; rw [dec_small n h]
    · rename_i h; rw [dec_big n h, ih (n / 10) (by omega)]
theorem itoa_dec (n : Int) (h : 0 ≤ n) : Lib.itoa n = dec n.toNat := by
  unfold Lib.itoa
  rw [if_neg (by omega), dec_digits]

/-- The first part ahead of a byte, and what stands behind it. -/
def fst' (c : UInt8) (s : L) : L := ((cutB c s).getD (s, [])).1
def snd' (c : UInt8) (s : L) : L := ((cutB c s).getD (s, [])).2
theorem fst_some (c : UInt8) (a b : L) (h : c ∉ a) : fst' c (a ++ c :: b) = a ∧ snd' c (a ++ c :: b) = b := by
  unfold fst' snd'
  rw [cutB_some c a b h]
  exact ⟨rfl, rfl⟩
theorem fst_none (c : UInt8) (a : L) (h : c ∉ a) : fst' c a = a ∧ snd' c a = [] := by
  unfold fst' snd'
  rw [cutB_none c a h]
  exact ⟨rfl, rfl⟩
/-- A line's rest, and what stands behind the line; none and all of the text. -/
def lineOf (k s : L) : L := ((cutL k s).getD ([], s)).1
def restOf (k s : L) : L := ((cutL k s).getD ([], s)).2
theorem line_ln (k x r : L) (hx : (10 : UInt8) ∉ x) : lineOf k (ln k x ++ r) = x ∧ restOf k (ln k x ++ r) = r := by
  unfold lineOf restOf
  rw [cutL_ln k x r hx]
  exact ⟨rfl, rfl⟩
/-- The policy of a text, if there is one; else any. -/
def readL (s : L) : Pol :=
  let s1 := restOf kEpoch s
  let a := cutN 65 kElem s1
  let b := cutN 65 kAttr a.2
  let c := cutN 65 kScheme b.2
  let d := cutN 65 kClass c.2
  let e := cutN 65 kProp d.2
  let n := lineOf kCaps e.2
  ⟨numA (lineOf kEpoch s), a.1, b.1, c.1, d.1, e.1, numA (fst' 32 n), numA (fst' 32 (snd' 32 n)), numA (snd' 32 (snd' 32 n))⟩
theorem starts_lns {k k' r : L} (l : List L) (hk : 2 ≤ k.length) (hk' : 2 ≤ k'.length) (hne : k'.take 2 ≠ k.take 2) (hr : starts k r = false) : starts k (lns k' l ++ r) = false := by
  cases l with
  | nil => exact hr
  | cons x l =>
    cases h : starts k (lns k' (x :: l) ++ r) with
    | false => rfl
    | true =>
      have h2 := starts_two hk h
      rw [lns, ln, List.append_assoc, List.append_assoc, List.append_assoc, List.append_assoc, List.take_append_of_le_length hk'] at h2
      exact absurd h2 hne
theorem starts_other {k k' r : L} (hk : 2 ≤ k.length) (hk' : 2 ≤ k'.length) (hne : k'.take 2 ≠ k.take 2) : starts k (k' ++ r) = false := by
  cases h : starts k (k' ++ r) with
  | false => rfl
  | true =>
    have h2 := starts_two hk h
    rw [List.take_append_of_le_length hk'] at h2
    exact absurd h2 hne
theorem words_len {l : List L} (h : words l = true) : l.length ≤ 65 := by
  unfold words rises at h
  rw [Bool.and_eq_true, Bool.and_eq_true, decide_eq_true_eq] at h
  omega
theorem rises_len {l : List L} (h : rises l = true) : l.length ≤ 65 := by
  unfold rises at h
  rw [Bool.and_eq_true, decide_eq_true_eq] at h
  omega
theorem readL_text {p : Pol} (h : Right p) : readL (text p) = p := by
  have w10 : ∀ l : List L, words l = true → ∀ x ∈ l, (10 : UInt8) ∉ x := fun l hl x hx => wc_no 10 (by decide) (words_all hl x hx)
  have a10 : ∀ x ∈ p.at_, (10 : UInt8) ∉ x := fun x hx => attr_no 10 (by decide) (by decide) (by decide) (words_all h.el) (h.ao x hx)
  obtain ⟨h1, h2, h3, h4⟩ := h.c
  have d := fun n => dec_no n 10 (by decide)
  have d32 := fun n => dec_no n 32 (by decide)
  obtain ⟨N, hN⟩ : ∃ N, N = dec p.dp.toNat ++ 32 :: (dec p.nd.toNat ++ 32 :: dec p.bt.toNat) := ⟨_, rfl⟩
  have n10 : (10 : UInt8) ∉ N := by
    rw [hN]
    simp only [List.mem_append, List.mem_cons]
    rintro (hm | hm | hm | hm | hm)
    · exact d _ hm
    · revert hm; decide
    · exact d _ hm
    · revert hm; decide
    · exact d _ hm
  have e : text p = ln kEpoch (dec p.ep.toNat) ++ (lns kElem p.el ++ (lns kAttr p.at_ ++ (lns kScheme p.sc ++ (lns kClass p.cl ++ (lns kProp p.pr ++ (ln kCaps N ++ [])))))) := by
    rw [hN]
    simp [text, ln]
  have r6 : ∀ k : L, 2 ≤ k.length → kCaps.take 2 ≠ k.take 2 → starts k (ln kCaps N ++ []) = false := fun k hk hne => by
    have e : ln kCaps N ++ [] = kCaps ++ ([32] ++ N ++ [10]) := by simp [ln]
    rw [e]
    exact starts_other hk (by decide) hne
  have s5 : starts kProp (ln kCaps N ++ []) = false := r6 _ (by decide) (by decide)
  have s4 : starts kClass (lns kProp p.pr ++ (ln kCaps N ++ [])) = false := starts_lns _ (by decide) (by decide) (by decide) (r6 _ (by decide) (by decide))
  have s3 : starts kScheme (lns kClass p.cl ++ (lns kProp p.pr ++ (ln kCaps N ++ []))) = false := starts_lns _ (by decide) (by decide) (by decide) (starts_lns _ (by decide) (by decide) (by decide) (r6 _ (by decide) (by decide)))
  have s2 : starts kAttr (lns kScheme p.sc ++ (lns kClass p.cl ++ (lns kProp p.pr ++ (ln kCaps N ++ [])))) = false := starts_lns _ (by decide) (by decide) (by decide) (starts_lns _ (by decide) (by decide) (by decide) (starts_lns _ (by decide) (by decide) (by decide) (r6 _ (by decide) (by decide))))
  have s1 : starts kElem (lns kAttr p.at_ ++ (lns kScheme p.sc ++ (lns kClass p.cl ++ (lns kProp p.pr ++ (ln kCaps N ++ []))))) = false := starts_lns _ (by decide) (by decide) (by decide) (starts_lns _ (by decide) (by decide) (by decide) (starts_lns _ (by decide) (by decide) (by decide) (starts_lns _ (by decide) (by decide) (by decide) (r6 _ (by decide) (by decide)))))
  unfold readL
  simp only
  rw [e, (line_ln kEpoch _ _ (d _)).1, (line_ln kEpoch _ _ (d _)).2]
  rw [cutN_lns kElem _ s1 p.el 65 (words_len h.el) (w10 _ h.el)]
  simp only
  rw [cutN_lns kAttr _ s2 p.at_ 65 (rises_len h.at_) a10]
  simp only
  rw [cutN_lns kScheme _ s3 p.sc 65 (words_len h.sc) (w10 _ h.sc)]
  simp only
  rw [cutN_lns kClass _ s4 p.cl 65 (words_len h.cl) (w10 _ h.cl)]
  simp only
  rw [cutN_lns kProp _ s5 p.pr 65 (words_len h.pr) (w10 _ h.pr)]
  simp only
  rw [(line_ln kCaps N [] n10).1, hN]
  rw [(fst_some 32 _ _ (d32 p.dp.toNat)).1, (fst_some 32 _ _ (d32 p.dp.toNat)).2, (fst_some 32 _ _ (d32 p.nd.toNat)).1, (fst_some 32 _ _ (d32 p.nd.toNat)).2]
  rw [numA_dec _ (by omega), numA_dec _ (by omega), numA_dec _ (by omega), numA_dec _ (by omega)]
  rw [Int.toNat_of_nonneg (by omega), Int.toNat_of_nonneg (by omega), Int.toNat_of_nonneg (by omega), Int.toNat_of_nonneg (by omega)]
/-- What is read line by line is the policy of which the text is the text, if there is one. -/
theorem readP_is (s : L) : readP s = if right (readL s) = true ∧ text (readL s) = s then some (readL s) else none := by
  split
  · rename_i h
    have := read_text ((right_iff _).1 h.1)
    rw [h.2] at this
    exact this
  · rename_i h
    cases hp : readP s with
    | none => rfl
    | some q =>
      obtain ⟨h1, h2⟩ := read_some hp
      have := readL_text h1
      rw [h2] at this
      exact absurd ⟨by rw [this]; exact (right_iff _).2 h1, by rw [this]; exact h2⟩ h
theorem restOf_len (k s : L) : (restOf k s).length ≤ s.length ∧ (lineOf k s).length ≤ s.length := by
  unfold restOf lineOf
  cases h : cutL k s with
  | none => exact ⟨Nat.le_refl _, Nat.zero_le _⟩
  | some x =>
    have := cutL_len h
    exact ⟨by show x.2.length ≤ _; omega, by show x.1.length ≤ _; omega⟩
theorem fst_len (c : UInt8) (s : L) : (fst' c s).length ≤ s.length ∧ (snd' c s).length ≤ s.length := by
  unfold fst' snd'
  cases h : cutB c s with
  | none => exact ⟨Nat.le_refl _, Nat.zero_le _⟩
  | some x =>
    have := cutB_len h
    exact ⟨by show x.1.length ≤ _; omega, by show x.2.length ≤ _; omega⟩
end Pol8
