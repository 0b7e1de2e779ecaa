/-
  Chains of policies, in the words of the plain mathematics: what is wrong with the policy of a number, the first that is wrong, beginnings, and what may stand behind.
-/
import Derived.Test.YtlabdbkmlkmnkaaPM
namespace Pol8

/-- What is wrong with the policy of a number; 0: nothing. -/
def wr (ps : List Pol) (i : Nat) : Int := match ps[i]? with
  | none => 0
  | some p => if right p = true then (if p.ep = (i : Int) + 1 then (if 0 < i ∧ stricter p (ps[i - 1]?.getD Pol.zero) = false then 6 else 0) else 7) else 2
/-- The error and the number that are told of policies. -/
def Chk (ps : List Pol) (E n : Int) : Prop := (E = 0 ∧ n = -1 ∧ ∀ i, i < ps.length → wr ps i = 0) ∨ ∃ i : Nat, i < ps.length ∧ n = (i : Int) ∧ E = wr ps i ∧ E ≠ 0 ∧ ∀ j, j < i → wr ps j = 0
theorem chk_unique {ps : List Pol} {E n F m : Int} (h1 : Chk ps E n) (h2 : Chk ps F m) : E = F ∧ n = m := by
  rcases h1 with ⟨rfl, rfl, a⟩ | ⟨i, hi, rfl, rfl, hE, hj⟩
  · rcases h2 with ⟨rfl, rfl, -⟩ | ⟨k, hk, rfl, rfl, hF, -⟩
    · exact ⟨rfl, rfl⟩
    · exact absurd (a k hk) hF
  · rcases h2 with ⟨rfl, rfl, a⟩ | ⟨k, hk, rfl, rfl, hF, hl⟩
    · exact absurd (a i hi) hE
    · by_cases h : i < k
      · exact absurd (hl i h) hE
      · by_cases h' : k < i
        · exact absurd (hj k h') hF
        · have e : i = k := by omega
          subst e
          exact ⟨rfl, rfl⟩
theorem wr_same {ps qs : List Pol} {i : Nat} (h : ∀ j, j ≤ i → ps[j]? = qs[j]?) : wr ps i = wr qs i := by
  unfold wr
  rw [h i (Nat.le_refl _), h (i - 1) (by omega)]
theorem wr_take (ps : List Pol) {k i : Nat} (h : i < k) : wr (ps.take k) i = wr ps i := wr_same fun j hj => by
  rw [List.getElem?_take, if_pos (by omega)]
theorem wr_app (ps qs : List Pol) {i : Nat} (h : i < ps.length) : wr (ps ++ qs) i = wr ps i := wr_same fun j hj => List.getElem?_append_left (by omega)
theorem wr_past (ps : List Pol) {i : Nat} (h : ps.length ≤ i) : wr ps i = 0 := by
  unfold wr
  rw [List.getElem?_eq_none h]
theorem chk_zero {ps : List Pol} {n : Int} (h : Chk ps 0 n) : n = -1 ∧ ∀ i, wr ps i = 0 := by
  rcases h with ⟨-, e, a⟩ | ⟨i, _, _, _, hE, _⟩
  · refine ⟨e, fun i => ?_⟩
    by_cases hi : i < ps.length
    · exact a i hi
    · exact wr_past ps (by omega)
  · exact absurd rfl hE
theorem chk_wrong {ps : List Pol} {E n : Int} (h : Chk ps E n) (hE : E ≠ 0) : ∃ i : Nat, i < ps.length ∧ n = (i : Int) ∧ E = wr ps i ∧ ∀ j, j < i → wr ps j = 0 := by
  rcases h with ⟨e, -, -⟩ | ⟨i, h1, h2, h3, h4, h5⟩
  · exact absurd e hE
  · exact ⟨i, h1, h2, h3, h5⟩
theorem chk_app {ps qs : List Pol} {E n F m : Int} (h1 : Chk ps E n) (h2 : Chk (ps ++ qs) F m) (hE : E ≠ 0) : F = E := by
  obtain ⟨i, hi, rfl, rfl, hj⟩ := chk_wrong h1 hE
  have h3 : Chk (ps ++ qs) (wr ps i) (i : Int) := .inr ⟨i, by rw [List.length_append]; omega, rfl, (wr_app ps qs hi).symm, hE, fun j hji => by rw [wr_app ps qs (by omega)]; exact hj j hji⟩
  exact (chk_unique h2 h3).1
theorem chk_of_all {ps : List Pol} {E n : Int} (h : Chk ps E n) (ha : ∀ i, i < ps.length → wr ps i = 0) : E = 0 ∧ n = -1 := chk_unique h (.inl ⟨rfl, rfl, ha⟩)
theorem chk_of_first {ps : List Pol} {E n : Int} (h : Chk ps E n) {i : Nat} (hi : i < ps.length) (hw : wr ps i ≠ 0) (ha : ∀ j, j < i → wr ps j = 0) : E = wr ps i ∧ n = (i : Int) := chk_unique h (.inr ⟨i, hi, rfl, rfl, hw, ha⟩)
/-- A beginning is wrong just if the first that is wrong stands in it. -/
theorem chk_begin {ps : List Pol} {E n F m : Int} {k : Nat} (hk : k ≤ ps.length) (h1 : Chk ps E n) (h2 : Chk (ps.take k) F m) : (E = 0 → F = 0 ∧ m = -1) ∧ (E ≠ 0 → ∃ i : Nat, i < ps.length ∧ n = (i : Int) ∧ (F = 0 ↔ k ≤ i)) := by
  have hlen : (ps.take k).length = k := by rw [List.length_take]; omega
  constructor
  · intro e
    subst e
    have ha := (chk_zero h1).2
    exact chk_of_all h2 (fun i hi => by rw [wr_take ps (by omega)]; exact ha i)
  · intro hE
    obtain ⟨i, hi, rfl, rfl, hj⟩ := chk_wrong h1 hE
    refine ⟨i, hi, rfl, ?_⟩
    by_cases h : k ≤ i
    · have := chk_of_all h2 (fun j hj' => by rw [wr_take ps (by omega)]; exact hj j (by omega))
      exact ⟨fun _ => h, fun _ => this.1⟩
    · have e : wr (ps.take k) i = wr ps i := wr_take ps (by omega)
      have := chk_of_first h2 (i := i) (by omega) (by rw [e]; exact hE) (fun j hj' => by rw [wr_take ps (by omega)]; exact hj j hj')
      constructor
      · intro hF
        rw [hF, e] at this
        exact absurd this.1.symm hE
      · intro h'
        exact absurd h' h
/-- What is known of a policy with which nothing is wrong. -/
theorem wr_zero {ps : List Pol} {i : Nat} {p : Pol} (h : wr ps i = 0) (hp : ps[i]? = some p) : right p = true ∧ p.ep = (i : Int) + 1 ∧ (0 < i → ∀ q, ps[i - 1]? = some q → stricter p q = true) := by
  unfold wr at h
  rw [hp] at h
  simp only [] at h
  by_cases h1 : right p = true
  · rw [if_pos h1] at h
    by_cases h2 : p.ep = (i : Int) + 1
    · rw [if_pos h2] at h
      refine ⟨h1, h2, fun h0 q hq => ?_⟩
      rw [hq] at h
      cases hs : stricter p q with
      | true => rfl
      | false =>
        rw [if_pos ⟨h0, by exact hs⟩] at h
        omega
    · rw [if_neg h2] at h
      omega
  · rw [if_neg h1] at h
    omega
/-- In a chain each policy is stricter than all ahead. -/
theorem chain_str {ps : List Pol} (h : ∀ i, wr ps i = 0) : ∀ (d k : Nat) (p q : Pol), ps[k + d]? = some p → ps[k]? = some q → Str p q
  | 0, k, p, q, hp, hq => by
    rw [Nat.add_zero, hq] at hp
    cases hp
    exact str_refl _
  | d + 1, k, p, q, hp, hq => by
    have hl : k + d < ps.length := by have := (List.getElem?_eq_some_iff.1 hp).1; omega
    obtain ⟨x, hx⟩ : ∃ x, ps[k + d]? = some x := ⟨_, List.getElem?_eq_getElem hl⟩
    have h1 := (wr_zero (h (k + (d + 1))) hp).2.2 (by omega) x (by rw [show k + (d + 1) - 1 = k + d by omega]; exact hx)
    exact str_trans ((str_iff p x).1 h1) (chain_str h d k x q hx hq)
theorem chain_stricter {ps : List Pol} (h : ∀ i, wr ps i = 0) {i k : Nat} {p q : Pol} (hk : k < i) (hp : ps[i]? = some p) (hq : ps[k]? = some q) : stricter p q = true :=
  (str_iff p q).2 (chain_str h (i - k) k p q (by rw [show k + (i - k) = i by omega]; exact hp) hq)

/-! A policy again and again. -/
def again (p : Pol) (n : Nat) : List Pol := (List.range n).map fun (i : Nat) => ({ p with ep := (i : Int) + 1 } : Pol)
theorem again_len (p : Pol) (n : Nat) : (again p n).length = n := by simp [again]
theorem again_at (p : Pol) {n i : Nat} (h : i < n) : (again p n)[i]? = some { p with ep := (i : Int) + 1 } := by
  unfold again
  rw [List.getElem?_map, List.getElem?_range h]
  rfl
theorem again_succ (p : Pol) (n : Nat) : again p (n + 1) = again p n ++ [{ p with ep := (n : Int) + 1 }] := by
  unfold again
  rw [List.range_succ, List.map_append]
  rfl
theorem right_ep {p : Pol} (h : right p = true) (k : Nat) (h1 : k < 1000000) : right { p with ep := (k : Int) + 1 } = true := by
  have h := (right_iff p).1 h
  refine (right_iff _).2 ⟨⟨by show (1 : Int) ≤ (k : Int) + 1 ∧ (k : Int) + 1 ≤ 1000000; omega, h.c.2⟩, h.el, h.at_, h.sc, h.cl, h.pr, h.nv, h.ao, h.ll, h.ss⟩
theorem again_str (p : Pol) (a b : Int) : stricter { p with ep := a } { p with ep := b } = true := by
  have := (str_iff p p).2 (str_refl p)
  exact this
theorem again_wr {p : Pol} (h : right p = true) {n : Nat} (hn : n ≤ 1000) (i : Nat) (hi : i < n) : wr (again p n) i = 0 := by
  unfold wr
  rw [again_at p hi]
  simp only []
  rw [if_pos (right_ep h i (by omega)), if_pos trivial]
  by_cases h0 : 0 < i
  · rw [again_at p (show i - 1 < n by omega)]
    rw [if_neg]
    rintro ⟨-, h2⟩
    have := again_str p ((i : Int) + 1) (((i - 1 : Nat) : Int) + 1)
    rw [Option.getD_some, this] at h2
    cases h2
  · rw [if_neg (fun h => h0 h.1)]
theorem again_chk {p : Pol} (h : right p = true) {n : Nat} (hn : n ≤ 1000) {E m : Int} (hc : Chk (again p n) E m) : E = 0 :=
  (chk_of_all hc fun i hi => again_wr h hn i (by rw [again_len] at hi; exact hi)).1
/-- With one scheme more, greater than all, it may not stand behind. -/
theorem more_chk {p : Pol} (h : right p = true) {n : Nat} (h0 : 0 < n) (hn : n ≤ 1000) (z : L) {E m : Int} (hc : Chk (again p n ++ [{ p with ep := (n : Int) + 1, sc := p.sc ++ [z] }]) E m) :
    E = if right { p with ep := (n : Int) + 1, sc := p.sc ++ [z] } = true then 6 else 2 := by
  obtain ⟨q, hq⟩ : ∃ q, q = ({ p with ep := (n : Int) + 1, sc := p.sc ++ [z] } : Pol) := ⟨_, rfl⟩
  rw [← hq] at hc ⊢
  have hn1 : (again p n ++ [q])[n]? = some q := by
    rw [List.getElem?_append_right (by rw [again_len]; exact Nat.le_refl _), again_len, Nat.sub_self]
    rfl
  have hn0 : (again p n ++ [q])[n - 1]? = some { p with ep := ((n - 1 : Nat) : Int) + 1 } := by
    rw [List.getElem?_append_left (by rw [again_len]; omega), again_at p (by omega)]
  have hw : wr (again p n ++ [q]) n = if right q = true then 6 else 2 := by
    unfold wr
    rw [hn1, hn0]
    simp only []
    by_cases hr : right q = true
    · rw [if_pos hr, if_pos hr, if_pos (by rw [hq])]
      rw [if_pos]
      refine ⟨h0, ?_⟩
      rw [Option.getD_some]
      cases hs : stricter q { p with ep := ((n - 1 : Nat) : Int) + 1 } with
      | false => rfl
      | true =>
        exfalso
        have hS := (str_iff _ _).1 hs
        have hm : z ∈ p.sc := hS.sc z (by rw [hq]; show z ∈ p.sc ++ [z]; simp)
        have hch := words_chain ((right_iff q).1 hr).sc
        have hk : q.sc[p.sc.length]? = some z := by
          rw [hq]
          show (p.sc ++ [z])[p.sc.length]? = some z
          simp
        have hne := chain_gone q.sc p.sc.length z hch hk
        apply hne
        rw [hq]
        show z ∈ (p.sc ++ [z]).eraseIdx p.sc.length
        rw [List.eraseIdx_append_of_length_le (Nat.le_refl _)]
        simp [hm]
    · rw [if_neg hr, if_neg hr]
  have hne : wr (again p n ++ [q]) n ≠ 0 := by
    rw [hw]
    split <;> decide
  have := chk_of_first hc (i := n) (by rw [List.length_append, again_len]; simp) hne (fun j hj => by
    rw [wr_app _ _ (by rw [again_len]; exact hj)]
    exact again_wr h hn j hj)
  rw [this.1, hw]
end Pol8
