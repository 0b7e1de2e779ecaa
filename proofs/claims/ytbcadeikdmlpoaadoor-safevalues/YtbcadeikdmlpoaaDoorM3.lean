/-
  Plain mathematics of references: an escaped text resolved, texts one behind the other, and lengths.
-/
import Derived.Test.YtbcadeikdmlpoaaDoorM2
namespace Utf1
open Go

theorem refAt_at (t : List UInt8) (i : Nat) (hi : i < t.length) (h8 : i ≤ 8) (hno : ∀ j (hj : j < i), t[j]'(by omega) ≠ 59) (h : t[i] = 59) : refAt t = (sf (t.take i)).map fun r => (r, i + 1) := by
  have e : t.findIdx (· == 59) = i := by
    rw [List.findIdx_eq hi]
    refine ⟨by rw [h]; rfl, fun j hj => ?_⟩
    have := hno j hj
    simpa using this
  unfold refAt
  rw [e, if_pos ⟨hi, h8⟩]

theorem res_app (a b : List UInt8) (h : ∀ c ∈ a, c ≠ 38) : res (a ++ b) = a ++ res b := by
  induction a with
  | nil => rfl
  | cons c a ih =>
    rw [List.cons_append, res_plain c _ (h c (List.mem_cons_self ..)), ih (fun x hx => h x (List.mem_cons_of_mem _ hx))]
    rfl
theorem res_self (a : List UInt8) (h : ∀ c ∈ a, c ≠ 38) : res a = a := by
  have := res_app a [] h
  rwa [List.append_nil, res_nil, List.append_nil] at this

theorem res_len (l : List UInt8) : (res l).length ≤ l.length := by
  induction h : l.length using Nat.strongRecOn generalizing l with
  | ind n ih =>
    cases l with
    | nil => rw [res_nil]; simp
    | cons c t =>
      simp only [List.length_cons] at h
      by_cases hc : c = 38
      · subst hc
        cases hr : refAt t with
        | none =>
          rw [res_none t hr]
          have := ih t.length (by omega) t rfl
          simp only [List.length_cons]
          omega
        | some p =>
          obtain ⟨r, k⟩ := p
          have hf := refAt_facts hr
          have := ih (t.drop k).length (by rw [List.length_drop]; omega) (t.drop k) rfl
          rw [List.length_drop] at this
          have he := er_len r
          rw [res_some t r k hr, List.length_append]
          omega
      · rw [res_plain c t hc]
        have := ih t.length (by omega) t rfl
        simp only [List.length_cons]
        omega

theorem res_body (b : List UInt8) (n : Nat) (x : List UInt8) (hb : b.length ≤ 8) (hno : ∀ c ∈ b, c ≠ 59) (hs : sf b = some n) : res (38 :: (b ++ 59 :: x)) = er n ++ res x := by
  have hr : refAt (b ++ 59 :: x) = some (n, b.length + 1) := by
    rw [refAt_at (b ++ 59 :: x) b.length (by simp) hb (fun j hj => ?_) (by simp)]
    · rw [List.take_left, hs]
      rfl
    · rw [List.getElem_append_left hj]
      exact hno _ (List.getElem_mem ..)
  rw [res_some _ _ _ hr]
  have hd : (b ++ 59 :: x).drop (b.length + 1) = x := by
    rw [show b ++ 59 :: x = (b ++ [59]) ++ x by simp, List.drop_left' (by simp)]
  rw [hd]

theorem res_ref (q : Bool) (r : Nat) (h : refOf q r ≠ []) (x : List UInt8) : res (refOf q r ++ x) = er r ++ res x := by
  unfold refOf at h ⊢
  have key : ∀ (b : List UInt8) (n : Nat), b.length ≤ 8 → (∀ c ∈ b, c ≠ 59) → sf b = some n → res (38 :: (b ++ 59 :: x)) = er n ++ res x := fun b n hb hno hs => res_body b n x hb hno hs
  split at h <;> rename_i h1
  · subst h1; rw [if_pos rfl]; exact key [97, 109, 112] 38 (by decide) (by decide) (by decide)
  · rw [if_neg h1]
    split at h <;> rename_i h2
    · subst h2; rw [if_pos rfl]; exact key [108, 116] 60 (by decide) (by decide) (by decide)
    · rw [if_neg h2]
      split at h <;> rename_i h3
      · subst h3; rw [if_pos rfl]; exact key [103, 116] 62 (by decide) (by decide) (by decide)
      · rw [if_neg h3]
        split at h <;> rename_i h4
        · subst h4; rw [if_pos rfl]; exact key [110, 98, 115, 112] 160 (by decide) (by decide) (by decide)
        · rw [if_neg h4]
          split at h <;> rename_i h5
          · rw [if_pos h5]
            obtain ⟨rfl, _⟩ := h5
            exact key [113, 117, 111, 116] 34 (by decide) (by decide) (by decide)
          · exact absurd rfl h

theorem refOf_bytes (q : Bool) (r : Nat) : ∀ x ∈ refOf q r, x ≠ 60 ∧ x ≠ 62 ∧ x ≠ 34 := by
  unfold refOf
  split
  · decide
  · split
    · decide
    · split
      · decide
      · split
        · decide
        · split
          · decide
          · decide
theorem refOf_lens (q : Bool) (r : Nat) (h : refOf q r ≠ []) : 4 ≤ (refOf q r).length ∧ (refOf q r).length ≤ 6 := by
  unfold refOf at h ⊢
  split at h <;> rename_i h1
  · rw [if_pos h1]; decide
  · rw [if_neg h1]
    split at h <;> rename_i h2
    · rw [if_pos h2]; decide
    · rw [if_neg h2]
      split at h <;> rename_i h3
      · rw [if_pos h3]; decide
      · rw [if_neg h3]
        split at h <;> rename_i h4
        · rw [if_pos h4]; decide
        · rw [if_neg h4]
          split at h <;> rename_i h5
          · rw [if_pos h5]; decide
          · exact absurd rfl h
theorem refOf_nil (q : Bool) (r : Nat) (h : refOf q r = []) : r ≠ 38 ∧ r ≠ 60 ∧ r ≠ 62 ∧ (q = true → r ≠ 34) := by
  refine ⟨?_, ?_, ?_, ?_⟩
  · rintro rfl; cases q <;> exact absurd h (by decide)
  · rintro rfl; cases q <;> exact absurd h (by decide)
  · rintro rfl; cases q <;> exact absurd h (by decide)
  · rintro rfl rfl; exact absurd h (by decide)

theorem rt_head (l : List UInt8) (hl : l ≠ []) (h : rt l = 0) : 128 ≤ atN l 0 := by
  unfold rt rtN at h
  have : l.length ≠ 0 := by simpa using hl
  rw [if_neg this] at h
  by_cases h1 : atN l 0 < 128
  · rw [if_pos h1] at h; cases h
  · omega

/-- A text's first character, escaped, and what is left. -/
theorem esc_piece (q : Bool) (l : List UInt8) (hl : l ≠ []) : ∃ u t, l = u ++ t ∧ u ≠ [] ∧ esc q l = esc1 q l ++ esc q t ∧ t = l.drop (dl l).2 ∧ u.length ≤ 4 ∧
    ((refOf q (dl l).1 = [] ∧ esc1 q l = u ∧ ∀ x ∈ u, x ≠ 38 ∧ x ≠ 60 ∧ x ≠ 62 ∧ (q = true → x ≠ 34)) ∨ (refOf q (dl l).1 ≠ [] ∧ esc1 q l = refOf q (dl l).1 ∧ u = er (dl l).1)) := by
  have hst := esc_step q l hl
  have hb8 : ∀ (x : UInt8), 128 ≤ x.toNat → x ≠ 38 ∧ x ≠ 60 ∧ x ≠ 62 ∧ (q = true → x ≠ 34) := by
    intro x hx
    refine ⟨?_, ?_, ?_, fun _ => ?_⟩ <;> (rintro rfl; revert hx; decide)
  rcases dl_cases l hl with ⟨h0, hd⟩ | ⟨r, t, hr, he, hd, _⟩
  · cases l with
    | nil => exact absurd rfl hl
    | cons c t =>
      have hh := rt_head _ hl h0
      have hh : 128 ≤ c.toNat := hh
      refine ⟨[c], t, rfl, by simp, ?_, by rw [hd]; rfl, by simp, .inl ⟨by rw [hd]; cases q <;> rfl, ?_, ?_⟩⟩
      · rw [hst, hd]; rfl
      · unfold esc1
        rw [hd]
        simp only
        rw [if_pos (by cases q <;> rfl)]
        rfl
      · intro x hx
        have : x = c := by simpa using hx
        subst this
        exact hb8 _ hh
  · have hel := er_len r
    have hdr : l.drop (dl l).2 = t := by
      rw [hd]
      simp only
      rw [he, List.drop_left]
    refine ⟨er r, t, he, ?_, by rw [hst, hdr], hdr.symm, hel.2, ?_⟩
    · intro e
      rw [e] at hel
      simp at hel
    · by_cases hn : refOf q r = []
      · left
        refine ⟨by rw [hd]; exact hn, ?_, ?_⟩
        · unfold esc1
          rw [hd]
          simp only
          rw [if_pos hn, he, List.take_left]
        · intro x hx
          have hf := refOf_nil q r hn
          rcases er_bytes r hr with ⟨h8, e⟩ | ⟨_, e⟩
          · rw [e] at hx
            have hxe : x = UInt8.ofNat r := by simpa using hx
            have hxn : x.toNat = r := by rw [hxe]; exact toNat_ofNat (by omega)
            have ne : ∀ (k : UInt8), r ≠ k.toNat → x ≠ k := by
              intro k hk e2
              rw [e2] at hxn
              exact hk hxn.symm
            exact ⟨ne 38 hf.1, ne 60 hf.2.1, ne 62 hf.2.2.1, fun hq => ne 34 (hf.2.2.2 hq)⟩
          · exact hb8 x (e x hx)
      · right
        refine ⟨by rw [hd]; exact hn, ?_, by rw [hd]⟩
        unfold esc1
        rw [hd]
        simp only
        rw [if_neg hn]

theorem shorter {l u t : List UInt8} (h : l = u ++ t) (hu : u ≠ []) : t.length < l.length := by
  have : u.length ≠ 0 := by simpa using hu
  rw [h, List.length_append]
  omega

/-- An escaped text is resolved to itself. -/
theorem res_esc (q : Bool) (l : List UInt8) : res (esc q l) = l := by
  induction h : l.length using Nat.strongRecOn generalizing l with
  | ind n ih =>
    by_cases hl : l = []
    · subst hl; rfl
    · obtain ⟨u, t, he, hu, hs, _, _, hp⟩ := esc_piece q l hl
      have hi := ih t.length (by rw [← h]; exact shorter he hu) t rfl
      rw [hs]
      rcases hp with ⟨_, e1, e2⟩ | ⟨e0, e1, e2⟩
      · rw [e1, res_app _ _ (fun c hc => (e2 c hc).1), hi, ← he]
      · rw [e1, res_ref q _ e0, hi, ← e2, ← he]
theorem esc_bytes (q : Bool) (l : List UInt8) : ∀ x ∈ esc q l, x ≠ 60 ∧ x ≠ 62 ∧ (q = true → x ≠ 34) := by
  induction h : l.length using Nat.strongRecOn generalizing l with
  | ind n ih =>
    by_cases hl : l = []
    · subst hl
      intro x hx
      rw [esc_nil] at hx
      cases hx
    · obtain ⟨u, t, he, hu, hs, _, _, hp⟩ := esc_piece q l hl
      have hi := ih t.length (by rw [← h]; exact shorter he hu) t rfl
      intro x hx
      rw [hs] at hx
      rcases List.mem_append.1 hx with hx | hx
      · rcases hp with ⟨_, e1, e2⟩ | ⟨_, e1, _⟩
        · rw [e1] at hx
          exact (e2 x hx).2
        · rw [e1] at hx
          have := refOf_bytes q _ x hx
          exact ⟨this.1, this.2.1, fun _ => this.2.2⟩
      · exact hi x hx
theorem esc_lens (q : Bool) (l : List UInt8) : l.length ≤ (esc q l).length ∧ (esc q l).length ≤ 6 * l.length := by
  induction h : l.length using Nat.strongRecOn generalizing l with
  | ind n ih =>
    by_cases hl : l = []
    · subst hl
      simp only [List.length_nil] at h
      subst h
      rw [esc_nil]
      simp
    · obtain ⟨u, t, he, hu, hs, _, h4, hp⟩ := esc_piece q l hl
      have hi := ih t.length (by rw [← h]; exact shorter he hu) t rfl
      have hlen : l.length = u.length + t.length := by
        have := congrArg List.length he
        rwa [List.length_append] at this
      have hu0 : u.length ≠ 0 := by simpa using hu
      rw [hs, List.length_append]
      rcases hp with ⟨_, e1, _⟩ | ⟨e0, e1, _⟩
      · rw [e1]; omega
      · have := refOf_lens q _ e0
        rw [e1]; omega
theorem esc_more (l : List UInt8) : (esc false l).length ≤ (esc true l).length := by
  induction h : l.length using Nat.strongRecOn generalizing l with
  | ind n ih =>
    by_cases hl : l = []
    · subst hl; simp [esc_nil]
    · obtain ⟨u, t, he, hu, hs, ht, h4, hp⟩ := esc_piece false l hl
      obtain ⟨u', t', he', hu', hs', ht', h4', hp'⟩ := esc_piece true l hl
      have htt : t' = t := by rw [ht', ht]
      subst htt
      have huu : u' = u := List.append_cancel_right (he'.symm.trans he)
      subst huu
      have hi := ih t'.length (by rw [← h]; exact shorter he hu) t' rfl
      rw [hs, hs', List.length_append, List.length_append]
      have : (esc1 false l).length ≤ (esc1 true l).length := by
        rcases hp with ⟨e0, e1, _⟩ | ⟨e0, e1, e2⟩
        · rw [e1]
          rcases hp' with ⟨_, e1', _⟩ | ⟨e0', e1', _⟩
          · rw [e1']; omega
          · have := refOf_lens true _ e0'
            rw [e1']; omega
        · have hsame : refOf true (dl l).1 = refOf false (dl l).1 := by
            unfold refOf at e0 ⊢
            split
            · rfl
            · split
              · rfl
              · split
                · rfl
                · split
                  · rfl
                  · rename_i h1 h2 h3 h4
                    rw [if_neg h1, if_neg h2, if_neg h3, if_neg h4] at e0
                    simp at e0
          rcases hp' with ⟨e0', _, _⟩ | ⟨e0', e1', _⟩
          · rw [hsame] at e0'; exact absurd e0' e0
          · rw [e1, e1', hsame]; omega
      omega

/-- What stands behind with a byte below 128 does not turn the first character. -/
theorem dl_app (l b : List UInt8) (hl : l ≠ []) (hb : b = [] ∨ atN b 0 < 128) : dl (l ++ b) = dl l := by
  rcases dl_cases l hl with ⟨h0, hd⟩ | ⟨r, t, hr, he, hd, _⟩
  · have hlb : l ++ b ≠ [] := by
      intro e
      exact hl (List.append_eq_nil_iff.1 e).1
    rcases dl_cases (l ++ b) hlb with ⟨_, hd2⟩ | ⟨r, t, hr, he, hd2, hrt⟩
    · rw [hd, hd2]
    · exfalso
      have hel := er_len r
      by_cases hle : (er r).length ≤ l.length
      · obtain ⟨v, hv⟩ : ∃ v, l = er r ++ v := by
          refine ⟨l.drop (er r).length, ?_⟩
          have h1 : (l ++ b).take (er r).length = er r := by rw [he, List.take_left]
          rw [List.take_append_of_le_length hle] at h1
          have h2 := List.take_append_drop (er r).length l
          rw [h1] at h2
          exact h2.symm
        rw [hv, rt_er r hr] at h0
        omega
      · have hl0 : l.length ≠ 0 := by simpa using hl
        rcases er_bytes r hr with ⟨_, e⟩ | ⟨_, e⟩
        · have : (er r).length = 1 := by rw [e]; rfl
          omega
        · rcases hb with hb | hb
          · subst hb
            rw [List.append_nil] at he
            have := congrArg List.length he
            rw [List.length_append] at this
            omega
          · cases b with
            | nil =>
              rw [List.append_nil] at he
              have := congrArg List.length he
              rw [List.length_append] at this
              omega
            | cons x b =>
              have hx : x ∈ er r := by
                have h1 : (l ++ x :: b)[l.length]? = some x := by simp
                rw [he, List.getElem?_append_left (by omega)] at h1
                exact List.mem_of_getElem? h1
              have := e x hx
              have hb : x.toNat < 128 := hb
              omega
  · rw [hd]
    have : l ++ b = er r ++ (t ++ b) := by rw [he, List.append_assoc]
    rw [this, dl_er r hr]

/-- Two texts, escaped one behind the other. -/
theorem esc_app (q : Bool) (a b : List UInt8) (hb : b = [] ∨ atN b 0 < 128) : esc q (a ++ b) = esc q a ++ esc q b := by
  induction h : a.length using Nat.strongRecOn generalizing a with
  | ind n ih =>
    by_cases hl : a = []
    · subst hl; rw [esc_nil]; rfl
    · have hw := dl_width a hl
      have hlb : a ++ b ≠ [] := by
        intro e
        exact hl (List.append_eq_nil_iff.1 e).1
      have hda := dl_app a b hl hb
      rw [esc_step q _ hlb, esc_step q a hl, hda, List.append_assoc]
      have h1 : esc1 q (a ++ b) = esc1 q a := by
        unfold esc1
        rw [hda, List.take_append_of_le_length hw.2.2]
      rw [h1, List.drop_append_of_le_length hw.2.2, ih (a.drop (dl a).2).length (by rw [List.length_drop]; omega) _ rfl]
end Utf1
