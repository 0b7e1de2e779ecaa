/-
  Plain mathematics of references: what a name and a number stand for, a text resolved, a text escaped.
-/
import Derived.Test.YtbcadeikdmlpoaaGreatDoorMath
namespace Utf1
open Go

theorem encode_er (r : Nat) (hs : Scalar r) : Utf8.encode (r : Int) = ⟨(er r).toArray⟩ := by
  have hv := (valid_iff r).2 hs
  unfold Scalar at hs
  have e : ∀ (a : ByteArray) (l : List UInt8), a.data.toList = l → a = ⟨l.toArray⟩ := by
    intro a l h
    subst h
    rfl
  refine e _ _ ?_
  by_cases h1 : r ≤ 127
  · have c1 : r < 128 := by omega
    rw [er1 h1]
    simp [Utf8.encode, hv, c1]
  · have c1 : ¬ r < 128 := by omega
    by_cases h2 : r ≤ 2047
    · have c2 : r < 2048 := by omega
      rw [er2 (by omega) h2]
      simp [Utf8.encode, hv, c1, c2]
    · have c2 : ¬ r < 2048 := by omega
      by_cases h3 : r ≤ 65535
      · have c3 : r < 65536 := by omega
        rw [er3 (by omega)]
        simp [Utf8.encode, hv, c1, c2, c3]
      · have c3 : ¬ r < 65536 := by omega
        rw [er4 (by omega) (by omega)]
        simp [Utf8.encode, hv, c1, c2, c3]

/-- The names, and their characters. -/
def names : List (List UInt8 × Nat) := [([97, 109, 112], 38), ([108, 116], 60), ([103, 116], 62), ([113, 117, 111, 116], 34), ([97, 112, 111, 115], 39), ([110, 98, 115, 112], 160), ([99, 111, 112, 121], 169), ([114, 101, 103], 174), ([100, 101, 103], 176), ([109, 105, 100, 100, 111, 116], 183), ([108, 97, 113, 117, 111], 171), ([114, 97, 113, 117, 111], 187), ([116, 105, 109, 101, 115], 215), ([101, 97, 99, 117, 116, 101], 233), ([110, 100, 97, 115, 104], 8211), ([109, 100, 97, 115, 104], 8212), ([108, 115, 113, 117, 111], 8216), ([114, 115, 113, 117, 111], 8217), ([108, 100, 113, 117, 111], 8220), ([114, 100, 113, 117, 111], 8221), ([104, 101, 108, 108, 105, 112], 8230), ([101, 117, 114, 111], 8364)]
def lookN : List (List UInt8 × Nat) → List UInt8 → Option Nat
  | [], _ => none
  | p :: r, l => if p.1 = l then some p.2 else lookN r l
def named (l : List UInt8) : Option Nat := lookN names l

theorem lookN_mem : ∀ (t : List (List UInt8 × Nat)) (l : List UInt8) (r : Nat), lookN t l = some r → (l, r) ∈ t
  | [], _, _, h => by cases h
  | p :: t, l, r, h => by
    unfold lookN at h
    split at h
    · rename_i e
      cases h
      subst e
      exact List.mem_cons_self ..
    · exact List.mem_cons_of_mem _ (lookN_mem t l r h)

theorem names_facts : ∀ p ∈ names, 2 ≤ p.1.length ∧ p.1.length ≤ 6 ∧ p.2 < 55296 ∧ p.2 ≠ 0 ∧ p.2 ≠ 13 := by decide
theorem named_facts {l : List UInt8} {r : Nat} (h : named l = some r) : 2 ≤ l.length ∧ l.length ≤ 6 ∧ Scalar r := by
  have := names_facts _ (lookN_mem _ _ _ h)
  exact ⟨this.1, this.2.1, .inl this.2.2.1⟩

/-- A digit's worth; 99: none. -/
def dig (c : Nat) : Nat := if 48 ≤ c ∧ c ≤ 57 then c - 48 else if 97 ≤ c ∧ c ≤ 102 then c - 87 else if 65 ≤ c ∧ c ≤ 70 then c - 55 else 99
/-- The number that digits of a base spell, behind what stands ahead of them. -/
def num (b acc : Nat) : List UInt8 → Option Nat
  | [] => some acc
  | c :: t => if dig c.toNat < b then num b (acc * b + dig c.toNat) t else none
/-- The character of a number. -/
def chN (n : Nat) : Nat := if n = 0 ∨ n = 13 ∨ (55296 ≤ n ∧ n ≤ 57343) ∨ 1114111 < n then 65533 else n
theorem chN_scalar (n : Nat) : Scalar (chN n) := by
  unfold chN Scalar
  split <;> omega

/-- Digits that are there. -/
def numS (b : Nat) (l : List UInt8) : Option Nat := if l = [] then none else (num b 0 l).map chN
/-- What stands behind a '#'. -/
def sfN (t : List UInt8) : Option Nat :=
  match t with
  | [] => none
  | x :: d => if x = 120 ∨ x = 88 then (if 6 < d.length then none else numS 16 d) else (if 6 < d.length then none else numS 10 (x :: d))
/-- What stands between '&' and ';' for a character. -/
def sf (l : List UInt8) : Option Nat :=
  match l with
  | [] => none
  | c :: t => if c = 35 then sfN t else named (c :: t)

theorem numS_scalar {b : Nat} {l : List UInt8} {r : Nat} (h : numS b l = some r) : Scalar r := by
  unfold numS at h
  split at h
  · cases h
  · cases hn : num b 0 l with
    | none => rw [hn] at h; cases h
    | some n => rw [hn] at h; cases h; exact chN_scalar n
theorem numS_ne {b : Nat} {l : List UInt8} {r : Nat} (h : numS b l = some r) : 1 ≤ l.length := by
  unfold numS at h
  split at h
  · cases h
  · rename_i e
    have : l.length ≠ 0 := by simpa using e
    omega

theorem sf_facts {l : List UInt8} {r : Nat} (h : sf l = some r) : 2 ≤ l.length ∧ l.length ≤ 8 ∧ Scalar r := by
  cases l with
  | nil => cases h
  | cons c t =>
    unfold sf at h
    simp only at h
    split at h
    · cases t with
      | nil => cases h
      | cons x d =>
        unfold sfN at h
        simp only at h
        split at h
        · split at h
          · cases h
          · have h1 := numS_scalar h
            have h2 := numS_ne h
            simp only [List.length_cons]
            exact ⟨by omega, by omega, h1⟩
        · split at h
          · cases h
          · have h1 := numS_scalar h
            simp only [List.length_cons]
            exact ⟨by omega, by omega, h1⟩
    · have := named_facts h
      exact ⟨this.1, by omega, this.2.2⟩

theorem dig_low' (c : Nat) : dig (lowN c) = dig c := by
  unfold lowN
  by_cases h : 65 ≤ c ∧ c ≤ 90
  · rw [if_pos h]
    unfold dig
    by_cases h2 : c ≤ 70
    · rw [if_neg (by omega), if_pos (by omega), if_neg (by omega), if_neg (by omega), if_pos (by omega)]
      omega
    · rw [if_neg (by omega), if_neg (by omega), if_neg (by omega), if_neg (by omega), if_neg (by omega), if_neg (by omega)]
  · rw [if_neg h]
theorem num_lower (b : Nat) : ∀ (l : List UInt8) (acc : Nat), num b acc (lower l) = num b acc l
  | [], _ => rfl
  | c :: t, acc => by
    show num b acc (low8 c :: lower t) = _
    unfold num
    rw [low8_toNat, dig_low', num_lower b t]
theorem numS_lower (b : Nat) (l : List UInt8) : numS b (lower l) = numS b l := by
  unfold numS
  rw [num_lower]
  cases l <;> simp [lower]

theorem dig_lt (b c : Nat) (hb : b ≤ 16) (h : dig c < b) : dig c < 16 := by omega
theorem num_bound (b : Nat) : ∀ (l : List UInt8) (acc n : Nat), num b acc l = some n → n < (acc + 1) * b ^ l.length
  | [], acc, n, h => by
    simp only [num] at h
    cases h
    simp
  | c :: t, acc, n, h => by
    unfold num at h
    split at h
    · rename_i hd
      have := num_bound b t _ n h
      have h2 : (acc * b + dig c.toNat + 1) ≤ (acc + 1) * b := by
        rw [Nat.add_mul, Nat.one_mul]
        omega
      refine Nat.lt_of_lt_of_le this ?_
      rw [List.length_cons, Nat.pow_succ, Nat.mul_comm (b ^ t.length) b, ← Nat.mul_assoc]
      exact Nat.mul_le_mul_right _ h2
    · cases h

/-- A reference behind its '&': its character, and how many bytes it has there. -/
def refAt (t : List UInt8) : Option (Nat × Nat) :=
  if t.findIdx (· == 59) < t.length ∧ t.findIdx (· == 59) ≤ 8 then (sf (t.take (t.findIdx (· == 59)))).map fun r => (r, t.findIdx (· == 59) + 1) else none
theorem refAt_facts {t : List UInt8} {r k : Nat} (h : refAt t = some (r, k)) : 3 ≤ k ∧ k ≤ 9 ∧ k ≤ t.length ∧ Scalar r := by
  unfold refAt at h
  split at h
  · rename_i hc
    cases hs : sf (t.take (t.findIdx (· == 59))) with
    | none => rw [hs] at h; cases h
    | some q =>
      rw [hs] at h
      cases h
      have := sf_facts hs
      rw [List.length_take] at this
      refine ⟨by omega, by omega, by omega, this.2.2⟩
  · cases h

def resF : Nat → List UInt8 → List UInt8
  | 0, _ => []
  | _ + 1, [] => []
  | n + 1, c :: t => match (if c = 38 then refAt t else none) with
    | some (r, k) => er r ++ resF n (t.drop k)
    | none => c :: resF n t
/-- A text with what its references stand for. -/
def res (l : List UInt8) : List UInt8 := resF l.length l

theorem resF_more : ∀ (n m : Nat) (l : List UInt8), l.length ≤ n → l.length ≤ m → resF n l = resF m l
  | 0, m, l, hn, _ => by
    have : l = [] := List.length_eq_zero_iff.1 (by omega)
    subst this
    cases m <;> rfl
  | n + 1, 0, l, _, hm => by
    have : l = [] := List.length_eq_zero_iff.1 (by omega)
    subst this
    rfl
  | n + 1, m + 1, [], _, _ => rfl
  | n + 1, m + 1, c :: t, hn, hm => by
    simp only [List.length_cons] at hn hm
    unfold resF
    cases (if c = 38 then refAt t else none) with
    | none => simp only; rw [resF_more n m t (by omega) (by omega)]
    | some p =>
      obtain ⟨r, k⟩ := p
      simp only
      rw [resF_more n m (t.drop k) (by rw [List.length_drop]; omega) (by rw [List.length_drop]; omega)]
theorem res_nil : res [] = [] := rfl
theorem res_plain (c : UInt8) (t : List UInt8) (h : c ≠ 38) : res (c :: t) = c :: res t := by
  unfold res
  rw [List.length_cons, resF, if_neg h]
theorem res_none (t : List UInt8) (h : refAt t = none) : res (38 :: t) = 38 :: res t := by
  unfold res
  rw [List.length_cons, resF, if_pos rfl, h]
theorem res_some (t : List UInt8) (r k : Nat) (h : refAt t = some (r, k)) : res (38 :: t) = er r ++ res (t.drop k) := by
  unfold res
  rw [List.length_cons, resF, if_pos rfl, h]
  simp only
  rw [resF_more t.length (t.drop k).length (t.drop k) (by rw [List.length_drop]; omega) (Nat.le_refl _)]

/-- The reference to a character that may not stand for itself. -/
def refOf (q : Bool) (r : Nat) : List UInt8 :=
  if r = 38 then [38, 97, 109, 112, 59] else if r = 60 then [38, 108, 116, 59] else if r = 62 then [38, 103, 116, 59] else if r = 160 then [38, 110, 98, 115, 112, 59]
  else if r = 34 ∧ q = true then [38, 113, 117, 111, 116, 59] else []
/-- A text's first character, escaped. -/
def esc1 (q : Bool) (l : List UInt8) : List UInt8 := if refOf q (dl l).1 = [] then l.take (dl l).2 else refOf q (dl l).1
def escF (q : Bool) : Nat → List UInt8 → List UInt8
  | 0, _ => []
  | n + 1, l => if l = [] then [] else esc1 q l ++ escF q n (l.drop (dl l).2)
def esc (q : Bool) (l : List UInt8) : List UInt8 := escF q l.length l
theorem escF_more (q : Bool) : ∀ (n m : Nat) (l : List UInt8), l.length ≤ n → l.length ≤ m → escF q n l = escF q m l
  | 0, m, l, hn, _ => by
    have : l = [] := List.length_eq_zero_iff.1 (by omega)
    subst this
    cases m <;> rfl
  | n + 1, 0, l, _, hm => by
    have : l = [] := List.length_eq_zero_iff.1 (by omega)
    subst this
    rfl
  | n + 1, m + 1, l, hn, hm => by
    unfold escF
    by_cases hl : l = []
    · rw [if_pos hl, if_pos hl]
    · have hw := dl_width l hl
      rw [if_neg hl, if_neg hl, escF_more q n m _ (by rw [List.length_drop]; omega) (by rw [List.length_drop]; omega)]
theorem esc_nil (q : Bool) : esc q [] = [] := rfl
theorem esc_step (q : Bool) (l : List UInt8) (hl : l ≠ []) : esc q l = esc1 q l ++ esc q (l.drop (dl l).2) := by
  have hw := dl_width l hl
  unfold esc
  obtain ⟨k, hk⟩ : ∃ k, l.length = k + 1 := ⟨l.length - 1, by omega⟩
  rw [hk, escF, if_neg hl, escF_more q k (l.drop (dl l).2).length _ (by rw [List.length_drop]; omega) (Nat.le_refl _)]
/-- Where a character is escaped, its bytes are its own. -/
theorem refOf_width (q : Bool) (l : List UInt8) (hl : l ≠ []) (h : refOf q (dl l).1 ≠ []) : (dl l).2 = (er (dl l).1).length ∧ l = er (dl l).1 ++ l.drop (dl l).2 := by
  rcases dl_cases l hl with ⟨_, hd⟩ | ⟨r, t, hr, he, hd, _⟩
  · rw [hd] at h
    exact absurd (by cases q <;> rfl) h
  · rw [hd]
    refine ⟨rfl, ?_⟩
    simp only
    rw [he, List.drop_left]
end Utf1
