/-
  Plain mathematics of tokens' parts: names, texts and attributes of what is read.
-/
import Derived.Test.YtjmgcdeinjamiaaDoorM5
namespace Utf1
open Go

/-- A byte that may stand in a name that was read. -/
def NameB (c : UInt8) : Prop := isNm c = false ∧ ¬ (65 ≤ c.toNat ∧ c.toNat ≤ 90)
/-- A token as one that was read. -/
structure TkOk (t : Tk) : Prop where
  kind : 1 ≤ t.kind ∧ t.kind ≤ 4
  tag : (t.kind = 2 ∨ t.kind = 3) ↔ t.name ≠ []
  text : (t.kind = 2 ∨ t.kind = 3) → t.text = []
  only : t.kind ≠ 2 → t.closed = false ∧ t.attrs = []
  nm : ∀ c ∈ t.name, NameB c
  nodup : (t.attrs.map Prod.fst).Nodup

theorem tk_plain (k : Nat) (x : List UInt8) (h : k = 1 ∨ k = 4) : TkOk ⟨k, [], [], false, x⟩ := by
  refine ⟨?_, ?_, ?_, ?_, ?_, ?_⟩
  · show 1 ≤ k ∧ k ≤ 4
    omega
  · refine ⟨fun h' => ?_, fun h' => absurd rfl h'⟩
    simp only at h'
    omega
  · intro h'
    simp only at h'
    omega
  · exact fun _ => ⟨rfl, rfl⟩
  · intro c hc
    cases hc
  · exact List.nodup_nil

theorem addAt_nodup (acc : List (List UInt8 × List UInt8)) (n v : List UInt8) (h : (acc.map Prod.fst).Nodup) : ((addAt acc n v).map Prod.fst).Nodup := by
  unfold addAt
  split
  · exact h
  · rename_i hn
    rw [List.map_append, List.nodup_append]
    refine ⟨h, by simp, ?_⟩
    intro a ha b hb
    have : b = n := by simpa using hb
    subst this
    intro e
    subst e
    exact hn ha
theorem attrsF_nodup : ∀ (n : Nat) (acc : List (List UInt8 × List UInt8)) (s : List UInt8) (a : List (List UInt8 × List UInt8)) (cl : Bool) (r : List UInt8), (acc.map Prod.fst).Nodup → attrsF n acc s = some (a, cl, r) → (a.map Prod.fst).Nodup
  | 0, _, _, _, _, _, _, h => by cases h
  | n + 1, acc, s, a, cl, r, hn, h => by
    unfold attrsF at h
    split at h
    · cases h
    · split at h
      · cases h
        exact hn
      · split at h
        · cases h
        · exact attrsF_nodup n _ _ _ _ _ (addAt_nodup _ _ _ hn) h

theorem let_nm {c : UInt8} (h : isLet c = true) : isNm c = false ∧ c ≠ 47 := by
  have hc : (97 ≤ c.toNat ∧ c.toNat ≤ 122) ∨ (65 ≤ c.toNat ∧ c.toNat ≤ 90) := by
    unfold isLet at h
    simp only [Bool.or_eq_true, Bool.and_eq_true, decide_eq_true_eq, UInt8.le_iff_toNat_le] at h
    exact h
  have k : ∀ k : UInt8, k.toNat < 65 → (c == k) = false := by
    intro k hk
    refine beq_eq_false_iff_ne.2 ?_
    rintro rfl
    omega
  refine ⟨?_, beq_eq_false_iff_ne.1 (k 47 (by decide))⟩
  unfold isNm isBl
  rw [k 9 (by decide), k 10 (by decide), k 12 (by decide), k 13 (by decide), k 32 (by decide), k 47 (by decide), k 62 (by decide)]
  rfl
theorem beg_body {l : List UInt8} (h : beg l = 3) : ∃ c t, tagBody l = c :: t ∧ isLet c = true := by
  cases l with
  | nil => cases h
  | cons a t =>
    by_cases ha : a = 60
    · subst ha
      rw [beg_lt] at h
      cases t with
      | nil => cases h
      | cons c u =>
        unfold beg1 at h
        simp only at h
        split at h
        · cases h
        · split at h
          · cases h
          · split at h
            · rename_i hc
              refine ⟨c, u, ?_, hc⟩
              unfold tagBody
              rw [if_neg (show (60 :: c :: u).getD 1 0 ≠ 47 from (let_nm hc).2)]
              rfl
            · split at h
              · cases h
              · rename_i h47
                have h47 : c = 47 := by simpa using h47
                subst h47
                cases u with
                | nil => cases h
                | cons d v =>
                  unfold beg2 at h
                  simp only at h
                  split at h
                  · rename_i hd
                    refine ⟨d, v, ?_, hd⟩
                    unfold tagBody
                    rw [if_pos (by rfl)]
                    rfl
                  · cases h
    · rw [beg_ne t ha] at h
      cases h

theorem takeWhile_all {p : UInt8 → Bool} : ∀ (l : List UInt8), ∀ c ∈ l.takeWhile p, p c = true
  | [], c, h => by cases h
  | a :: t, c, h => by
    rw [List.takeWhile_cons] at h
    split at h
    · rename_i ha
      rcases List.mem_cons.1 h with rfl | h
      · exact ha
      · exact takeWhile_all t c h
    · cases h
theorem low_nm (d : UInt8) (h : isNm d = false) : isNm (low8 d) = false := by
  unfold low8
  split
  · rename_i hd
    have hs : SmallB (UInt8.ofNat (d.toNat + 32)) := .inl (by rw [toNat_ofNat (by omega)]; omega)
    exact (small_facts hs).1
  · exact h
theorem name_bytes (s : List UInt8) : ∀ c ∈ lower (s.takeWhile (fun x => !isNm x)), NameB c := by
  intro c hc
  refine ⟨?_, lower_no _ c hc⟩
  unfold lower at hc
  obtain ⟨d, hd, rfl⟩ := List.mem_map.1 hc
  have := takeWhile_all s d hd
  exact low_nm d (by simpa using this)

theorem tagOf_ok {l r : List UInt8} {k : Tk} (hb : beg l = 3) (h : tagOf l = some (k, r)) : TkOk k := by
  obtain ⟨c, t, hbody, hc⟩ := beg_body hb
  have hne : lower ((tagBody l).takeWhile (fun x => !isNm x)) ≠ [] := by
    rw [hbody, List.takeWhile_cons, if_pos (by rw [(let_nm hc).1]; rfl)]
    simp [lower]
  unfold tagOf at h
  split at h
  · cases h
  · rename_i a cl q he
    have hn := attrsF_nodup _ _ _ _ _ _ (by simp) he
    cases h
    split
    · refine ⟨by simp, ?_, fun _ => rfl, fun _ => ⟨rfl, rfl⟩, name_bytes _, by simp⟩
      exact ⟨fun _ => hne, fun _ => .inr rfl⟩
    · refine ⟨by simp, ?_, fun _ => rfl, fun h => absurd rfl h, name_bytes _, hn⟩
      exact ⟨fun _ => hne, fun _ => .inl rfl⟩

theorem toksF_ok : ∀ (n : Nat) (l : List UInt8), ∀ t ∈ toksF n l, TkOk t
  | 0, _, t, h => by cases h
  | _ + 1, [], t, h => by cases h
  | n + 1, c :: u, t, h => by
    unfold toksF at h
    split at h
    · rcases List.mem_cons.1 h with rfl | h
      · exact tk_plain _ _ (.inr rfl)
      · exact toksF_ok n _ t h
    · split at h
      · exact toksF_ok n _ t h
      · split at h
        · rename_i h3
          split at h
          · cases h
          · rename_i k r hk
            rcases List.mem_cons.1 h with rfl | h
            · exact tagOf_ok h3 hk
            · rcases List.mem_append.1 h with h | h
              · unfold withRaw at h
                split at h
                · split at h
                  · cases h
                  · split at h
                    · cases h
                    · rw [List.mem_singleton.1 h]
                      exact tk_plain _ _ (.inl rfl)
                · cases h
              · exact toksF_ok n _ t h
        · rcases List.mem_cons.1 h with rfl | h
          · exact tk_plain _ _ (.inl rfl)
          · exact toksF_ok n _ t h
theorem takeWhile_le (p : UInt8 → Bool) (l : List UInt8) : (l.takeWhile p).length ≤ l.length := by
  have := congrArg List.length (List.takeWhile_append_dropWhile (p := p) (l := l))
  rw [List.length_append] at this
  omega
theorem tagOf_name {l r : List UInt8} {k : Tk} (h : tagOf l = some (k, r)) : k.name.length ≤ l.length := by
  have h2 := takeWhile_le (fun x => !isNm x) (tagBody l)
  have h3 : (tagBody l).length ≤ l.length := by
    unfold tagBody
    split <;> (rw [List.length_drop]; omega)
  unfold tagOf at h
  split at h
  · cases h
  · cases h
    split <;> (simp only [lower, List.length_map]; omega)
theorem toksF_name : ∀ (n : Nat) (l : List UInt8), ∀ t ∈ toksF n l, t.name.length ≤ l.length
  | 0, _, t, h => by cases h
  | _ + 1, [], t, h => by cases h
  | n + 1, c :: u, t, h => by
    unfold toksF at h
    split at h
    · rcases List.mem_cons.1 h with rfl | h
      · exact Nat.zero_le _
      · have h1 := cut_len ((c :: u).drop 4) [45, 45, 62] (by decide)
        have h2 := toksF_name n _ t h
        rw [List.length_drop] at h1
        omega
    · split at h
      · have h1 := cut_len (c :: u) [62] (by decide)
        have h2 := toksF_name n _ t h
        omega
      · split at h
        · split at h
          · cases h
          · rename_i k r hk
            have h4 := tagOf_len hk
            have h5 := withRaw_len k r
            rcases List.mem_cons.1 h with rfl | h
            · exact tagOf_name hk
            · rcases List.mem_append.1 h with h | h
              · unfold withRaw at h
                split at h
                · split at h
                  · cases h
                  · split at h
                    · cases h
                    · rw [List.mem_singleton.1 h]
                      exact Nat.zero_le _
                · cases h
              · have := toksF_name n _ t h
                omega
        · rcases List.mem_cons.1 h with rfl | h
          · exact Nat.zero_le _
          · have h2 := toksF_name n _ t h
            rw [List.length_drop] at h2
            omega
theorem toks_name (l : List UInt8) : ∀ t ∈ toks l, t.name.length ≤ l.length := toksF_name _ _
theorem withRaw_cnt (t : Tk) (r : List UInt8) : (withRaw t r).1.length + (withRaw t r).2.length ≤ r.length := by
  unfold withRaw
  split
  · split
    · simp
    · split
      · simp
      · rename_i h
        have := rawLen_le t.name r
        simp
        omega
  · simp
theorem toksF_many : ∀ (n : Nat) (l : List UInt8), (toksF n l).length ≤ l.length
  | 0, _ => Nat.zero_le _
  | _ + 1, [] => Nat.zero_le _
  | n + 1, c :: u => by
    unfold toksF
    split
    · have h1 := cut_len ((c :: u).drop 4) [45, 45, 62] (by decide)
      have h2 := toksF_many n (Lib.cut ((c :: u).drop 4) [45, 45, 62]).2.1
      rw [List.length_drop] at h1
      simp only [List.length_cons] at h1 ⊢
      omega
    · split
      · have h1 := cut_len (c :: u) [62] (by decide)
        have h2 := toksF_many n (Lib.cut (c :: u) [62]).2.1
        omega
      · split
        · split
          · exact Nat.zero_le _
          · rename_i k r hk
            have h4 := tagOf_len hk
            have h5 := withRaw_cnt k r
            have h6 := toksF_many n (withRaw k r).2
            simp only [List.length_cons, List.length_append] at h4 ⊢
            omega
        · rename_i h1 h2 h3
          have h0 : beg (c :: u) = 0 := by have := beg_le (c :: u); omega
          have h6 := stop_pos c u h0
          have h7 := toksF_many n ((c :: u).drop (stop (c :: u)))
          rw [List.length_drop] at h7
          simp only [List.length_cons] at h7 ⊢
          omega
theorem toks_many (l : List UInt8) : (toks l).length ≤ l.length := toksF_many _ _
theorem toks_ok (l : List UInt8) : ∀ t ∈ toks l, TkOk t := toksF_ok _ _
end Utf1
