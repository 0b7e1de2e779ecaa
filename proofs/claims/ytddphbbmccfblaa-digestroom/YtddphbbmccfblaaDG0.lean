/-
  Lists of texts that rise: a text put in its place, what has the same members is the same; the longest beginning whose sizes are no more than a number.
-/
import Derived.Test.YtddphbbmccfblaaPM
namespace Dg16
open Go
open Pol8

theorem lt_tot : ∀ a b : L, a ≠ b → lt a b = false → lt b a = true
  | [], [], h, _ => absurd rfl h
  | [], y :: b, _, h => by unfold lt at h; simp [Op.bytesLess] at h
  | x :: a, [], _, _ => by unfold lt; simp [Op.bytesLess]
  | x :: a, y :: b, hne, h => by
    have ih := lt_tot a b
    unfold lt at h ih ⊢
    simp only [Op.bytesLess, Bool.or_eq_false_iff, decide_eq_false_iff_not, Bool.and_eq_false_iff, Bool.or_eq_true, decide_eq_true_eq, Bool.and_eq_true, beq_iff_eq] at h ⊢
    by_cases hxy : x = y
    · subst hxy
      right
      refine ⟨rfl, ih (fun e => hne (by rw [e])) ?_⟩
      rcases h.2 with h2 | h2
      · simp at h2
      · exact h2
    · left
      have h1 := h.1
      rcases UInt8.lt_or_lt_of_ne hxy with h2 | h2
      · exact absurd h2 h1
      · exact h2
theorem lt_asymm {a b : L} (h : lt a b = true) : lt b a = false := by
  cases hb : lt b a with
  | false => rfl
  | true =>
    have := lt_trans a b a h hb
    rw [lt_irr] at this
    cases this
/-- A text, in its place in a list that rises; unless it is there. -/
def putR : List L → L → List L
  | [], x => [x]
  | a :: r, x => if lt a x = true then a :: putR r x else if a = x then a :: r else x :: a :: r
theorem mem_put : ∀ (l : List L) (x y : L), y ∈ putR l x ↔ y = x ∨ y ∈ l
  | [], x, y => by simp [putR]
  | a :: r, x, y => by
    have ih := mem_put r x y
    unfold putR
    by_cases h : lt a x = true
    · rw [if_pos h, List.mem_cons, ih, List.mem_cons]
      constructor
      · rintro (h | h | h)
        · exact .inr (.inl h)
        · exact .inl h
        · exact .inr (.inr h)
      · rintro (h | h | h)
        · exact .inr (.inl h)
        · exact .inl h
        · exact .inr (.inr h)
    · rw [if_neg h]
      by_cases e : a = x
      · rw [if_pos e]
        subst e
        constructor
        · exact .inr
        · rintro (rfl | h)
          · exact List.mem_cons_self
          · exact h
      · rw [if_neg e, List.mem_cons]
theorem chain_put : ∀ (l : List L) (x : L), chain l = true → chain (putR l x) = true
  | [], x, _ => rfl
  | a :: r, x, h => by
    unfold putR
    by_cases hl : lt a x = true
    · rw [if_pos hl]
      refine chain_mk _ a (fun y hy => ?_) (chain_put r x (chain_tail h))
      rcases (mem_put r x y).1 hy with rfl | hy
      · exact hl
      · exact chain_all r a h y hy
    · rw [if_neg hl]
      by_cases e : a = x
      · rw [if_pos e]
        exact h
      · rw [if_neg e]
        have hf : lt a x = false := by simpa using hl
        have hxa := lt_tot a x e hf
        refine chain_mk _ x (fun y hy => ?_) h
        rcases List.mem_cons.1 hy with rfl | hy
        · exact hxa
        · exact lt_trans x a y hxa (chain_all r a h y hy)
/-- How a text is put, by the place that is found. -/
theorem put_walk : ∀ (l : List L) (x : L) (at_ : Nat), at_ ≤ l.length → (∀ i a, i < at_ → l[i]? = some a → lt a x = true) → (∀ a, l[at_]? = some a → lt a x = false) → putR l x = if l[at_]? = some x then l else l.take at_ ++ x :: l.drop at_
  | [], x, at_, hle, _, _ => by
    have : at_ = 0 := by simpa using hle
    subst this
    simp [putR]
  | a :: r, x, 0, _, _, h3 => by
    have h := h3 a rfl
    unfold putR
    rw [if_neg (by rw [h]; decide)]
    by_cases e : a = x
    · subst e
      rw [if_pos rfl]
      simp
    · rw [if_neg e]
      have hn : ¬ ((a :: r)[0]? = some x) := fun he => e (by simpa using he)
      rw [if_neg hn]
      rfl
  | a :: r, x, at_ + 1, hle, h2, h3 => by
    have ih := put_walk r x at_ (by simpa using hle) (fun i b hi hb => h2 (i + 1) b (by omega) hb) (fun b hb => h3 b hb)
    have h := h2 0 a (by omega) rfl
    unfold putR
    rw [if_pos h, ih]
    show a :: (if r[at_]? = some x then r else _) = if r[at_]? = some x then a :: r else _
    by_cases e : r[at_]? = some x
    · rw [if_pos e, if_pos e]
    · rw [if_neg e, if_neg e]
      rfl
theorem chain_ext : ∀ (a b : List L), chain a = true → chain b = true → (∀ x, x ∈ a ↔ x ∈ b) → a = b
  | [], [], _, _, _ => rfl
  | [], y :: b, _, _, h => by have := (h y).2 List.mem_cons_self; cases this
  | x :: a, [], _, _, h => by have := (h x).1 List.mem_cons_self; cases this
  | x :: a, y :: b, ha, hb, h => by
    have hxy : x = y := by
      rcases List.mem_cons.1 ((h x).1 List.mem_cons_self) with e | hx
      · exact e
      · rcases List.mem_cons.1 ((h y).2 List.mem_cons_self) with e | hy
        · exact e.symm
        · have h1 := chain_all b y hb x hx
          have h2 := chain_all a x ha y hy
          rw [lt_asymm h1] at h2
          cases h2
    subst hxy
    have ih := chain_ext a b (chain_tail ha) (chain_tail hb) (fun z => ?_)
    · rw [ih]
    · constructor
      · intro hz
        rcases List.mem_cons.1 ((h z).1 (List.mem_cons_of_mem _ hz)) with rfl | hz'
        · have := chain_all a z ha z hz
          rw [lt_irr] at this
          cases this
        · exact hz'
      · intro hz
        rcases List.mem_cons.1 ((h z).2 (List.mem_cons_of_mem _ hz)) with rfl | hz'
        · have := chain_all b z hb z hz
          rw [lt_irr] at this
          cases this
        · exact hz'
/-- Rising, of just these members. -/
structure Ri (R : List L) (P : L → Prop) : Prop where
  ch : chain R = true
  mem : ∀ x, x ∈ R ↔ P x
theorem Ri.one {R R' : List L} {P P' : L → Prop} (h : Ri R P) (h' : Ri R' P') (e : ∀ x, P x ↔ P' x) : R = R' :=
  chain_ext R R' h.ch h'.ch (fun x => (h.mem x).trans ((e x).trans (h'.mem x).symm))
theorem Ri.put {R : List L} {P : L → Prop} (h : Ri R P) (x : L) : Ri (putR R x) (fun y => y = x ∨ P y) :=
  ⟨chain_put R x h.ch, fun y => (mem_put R x y).trans (or_congr Iff.rfl (h.mem y))⟩
theorem Ri.nil : Ri [] (fun _ => False) := ⟨rfl, fun x => by simp⟩
theorem Ri.to {R : List L} {P P' : L → Prop} (h : Ri R P) (e : ∀ x, P x ↔ P' x) : Ri R P' := ⟨h.ch, fun x => (h.mem x).trans (e x)⟩
theorem chain_at : ∀ (l : List L) (i : Nat) (a b : L), chain l = true → l[i]? = some a → l[i + 1]? = some b → lt a b = true
  | [], i, a, b, _, h, _ => by simp at h
  | x :: r, 0, a, b, hc, h1, h2 => by
    injection h1 with h1
    subst h1
    exact chain_all r _ hc b (List.mem_of_getElem? h2)
  | x :: r, i + 1, a, b, hc, h1, h2 => chain_at r i a b (chain_tail hc) h1 h2
theorem chain_len {R S : List L} (h : chain R = true) (hs : ∀ x, x ∈ R → x ∈ S) : R.length ≤ S.length := by
  induction R generalizing S with
  | nil => exact Nat.zero_le _
  | cons a r ih =>
    have hm := hs a List.mem_cons_self
    have h2 : ∀ x, x ∈ r → x ∈ S.erase a := fun x hx => by
      have hne : x ≠ a := fun e => by
        subst e
        have := chain_all r x h x hx
        rw [lt_irr] at this
        cases this
      exact (List.mem_erase_of_ne hne).2 (hs x (List.mem_cons_of_mem _ hx))
    have := ih (chain_tail h) h2
    rw [List.length_erase_of_mem hm] at this
    have := List.length_pos_of_mem hm
    show r.length + 1 ≤ _
    omega

/-- The number at a place; 0: none, or below 0. -/
def sz (zs : List Int) (i : Nat) : Int := max (zs.getD i 0) 0
def sumTo (zs : List Int) : Nat → Int
  | 0 => 0
  | n + 1 => sumTo zs n + sz zs n
theorem sz_pos (zs : List Int) (i : Nat) : 0 ≤ sz zs i := by unfold sz; omega
theorem sum_pos (zs : List Int) : ∀ n, 0 ≤ sumTo zs n
  | 0 => by show (0 : Int) ≤ 0; omega
  | n + 1 => by
    have := sum_pos zs n
    have := sz_pos zs n
    show 0 ≤ sumTo zs n + sz zs n
    omega
theorem sum_mono (zs : List Int) (n : Nat) : ∀ m, sumTo zs n ≤ sumTo zs (n + m)
  | 0 => Int.le_refl _
  | m + 1 => by
    have := sum_mono zs n m
    have := sz_pos zs (n + m)
    show _ ≤ sumTo zs (n + m) + sz zs (n + m)
    omega
theorem sz_small {zs : List Int} (h : ∀ z ∈ zs, z ≤ 1000000) (i : Nat) : sz zs i ≤ 1000000 := by
  unfold sz
  rw [List.getD_eq_getElem?_getD]
  cases hi : zs[i]? with
  | none => simp
  | some z =>
    have := h z (List.mem_of_getElem? hi)
    show max z 0 ≤ 1000000
    omega
theorem sum_small {zs : List Int} (h : ∀ z ∈ zs, z ≤ 1000000) : ∀ n : Nat, sumTo zs n ≤ (n : Int) * 1000000
  | 0 => by show (0 : Int) ≤ _; omega
  | n + 1 => by
    have := sum_small h n
    have := sz_small h n
    show sumTo zs n + sz zs n ≤ _
    omega
/-- How many of n there is room for. -/
def Sh (n : Nat) (zs : List Int) (most : Int) (k : Nat) : Prop := k ≤ n ∧ (∀ i, 0 < i → i < k → sumTo zs (i + 1) ≤ most) ∧ (k = n ∨ (0 < k ∧ most < sumTo zs (k + 1)))
theorem Sh.one {n : Nat} {zs : List Int} {most : Int} {k k' : Nat} (h : Sh n zs most k) (h' : Sh n zs most k') : k = k' := by
  obtain ⟨a1, a2, a3⟩ := h
  obtain ⟨b1, b2, b3⟩ := h'
  by_cases hlt : k < k'
  · rcases a3 with rfl | ⟨c1, c2⟩
    · omega
    · have := b2 k c1 hlt
      omega
  · by_cases hgt : k' < k
    · rcases b3 with rfl | ⟨c1, c2⟩
      · omega
      · have := a2 k' c1 hgt
        omega
    · omega
end Dg16
