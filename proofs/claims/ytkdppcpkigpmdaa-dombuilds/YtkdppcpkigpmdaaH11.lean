/-
  The document's builder and the program's: texts, and what is too much.
-/
import Derived.Test.YtkdppcpkigpmdaaH10
namespace Go.Proofs.Ytkdppcpkigpmdaa
open Go.RowKit
open Utf1

theorem osT_cons (nd : Nd) (q : List Nd) (t : List UInt8) : osT (nd :: q) t = q.reverse ++ [textIn nd t] := rfl
/-- A text that begins. -/
theorem rel_new {r : List Nd} {fl : List Fl} {op : List Nat} (h : Rel r [] fl op) (hr : r ≠ []) (x : List UInt8) (hx : x ≠ []) : Rel r x (fl ++ [⟨[], [], x, hereF op, none, 0, 0⟩]) op := by
  obtain ⟨nd, q, rfl⟩ := List.exists_cons_of_ne_nil hr
  refine ⟨?_, h.op⟩
  have hfl : fl.map Fl.fa = flS (q.reverse ++ [nd]) (-1) 0 := by
    rw [h.fl, osT_cons, textIn_nil]
  have hhere : hereF op = hereS (q.reverse ++ [nd]) (-1) 0 := by rw [h.op, List.reverse_cons, here_eq]
  have e : textIn nd x = addKid nd (.mk [] [] x []) := by unfold textIn; rw [if_neg hx]
  rw [List.map_append, hfl, osT_cons, e, flS_add, flatN_eq, ← hhere]
  show _ ++ [_] = _ ++ (_ :: flatL [] _ _)
  rw [flatL]
  rfl
/-- A text that goes on. -/
theorem rel_more {r : List Nd} {t : List UInt8} {fl : List Fl} {op : List Nat} (h : Rel r t fl op) (hr : r ≠ []) (ht : t ≠ []) (x : List UInt8) : ∃ i f, fl = i ++ [f] ∧ f.up = hereF op ∧ f.name = [] ∧ f.text = t ∧ Rel r (t ++ x) (moreF i f x) op := by
  obtain ⟨nd, q, rfl⟩ := List.exists_cons_of_ne_nil hr
  have hhere : hereF op = hereS (q.reverse ++ [nd]) (-1) 0 := by rw [h.op, List.reverse_cons, here_eq]
  have e : ∀ y : List UInt8, y ≠ [] → flS (osT (nd :: q) y) (-1) 0 = flS (q.reverse ++ [nd]) (-1) 0 ++ [⟨[], [], y, hereF op⟩] := by
    intro y hy
    have e : textIn nd y = addKid nd (.mk [] [] y []) := by unfold textIn; rw [if_neg hy]
    rw [osT_cons, e, flS_add, flatN_eq, ← hhere]
    show _ ++ (_ :: flatL [] _ _) = _
    rw [flatL]
    rfl
  have hfl := h.fl
  rw [e t ht] at hfl
  obtain ⟨i, l2, hil, h1, h2⟩ := List.map_eq_append_iff.1 hfl
  obtain ⟨f, rfl⟩ : ∃ f, l2 = [f] := by
    refine List.length_eq_one_iff.1 ?_
    have := congrArg List.length h2
    simpa using this
  subst hil
  · skip
    have hf : f.fa = ⟨[], [], t, hereF op⟩ := by simpa using h2
    have f1 : f.name = [] := congrArg Fa.name hf
    have f2 : f.attrs = [] := congrArg Fa.attrs hf
    have f3 : f.text = t := congrArg Fa.text hf
    have f4 : f.up = hereF op := congrArg Fa.up hf
    refine ⟨i, f, rfl, f4, f1, f3, ?_, h.op⟩
    unfold moreF
    rw [List.map_append, h1, e (t ++ x) (by simp [ht])]
    show _ ++ [(⟨f.name, f.attrs, f.text ++ x, f.up⟩ : Fa)] = _
    rw [f1, f2, f3, f4]

/-- Each stands within what stands ahead of it. -/
theorem flatL_lt : ∀ (l : List Nd) (u : Int) (s : Nat), u < (s : Int) → ∀ (j : Nat) (f : Fa), (flatL l u s)[j]? = some f → f.up < ((s + j : Nat) : Int)
  | [], _, _, _, j, f, h => by
    rw [flatL] at h
    simp at h
  | .mk n a t k :: r, u, s, hu, j, f, h => by
    rw [flatL] at h
    by_cases hj : j < cntN (.mk n a t k)
    · rw [List.getElem?_append_left (by rw [flatN_len]; exact hj), flatN] at h
      cases j with
      | zero =>
        have : f.up = u := by
          have := congrArg (Option.map Fa.up) h
          simpa using this.symm
        omega
      | succ j =>
        rw [List.getElem?_cons_succ] at h
        have := flatL_lt k (s : Int) (s + 1) (by omega) j f h
        omega
    · rw [List.getElem?_append_right (by rw [flatN_len]; omega), flatN_len] at h
      have := flatL_lt r u (s + cntN (.mk n a t k)) (by omega) _ f h
      omega
theorem flS_lt : ∀ (os : List Nd) (u : Int) (s : Nat), u < (s : Int) → ∀ (j : Nat) (f : Fa), (flS os u s)[j]? = some f → f.up < ((s + j : Nat) : Int)
  | [], _, _, _, j, f, h => by simp [flS] at h
  | [nd], u, s, hu, j, f, h => flatL_lt nd.kids u s hu j f h
  | nd :: ch :: rest, u, s, hu, j, f, h => by
    rw [flS] at h
    by_cases hj : j < cntL nd.kids
    · rw [List.getElem?_append_left (by rw [flatL_len]; exact hj)] at h
      exact flatL_lt nd.kids u s hu j f h
    · rw [List.getElem?_append_right (by rw [flatL_len]; omega), flatL_len] at h
      cases hx : j - cntL nd.kids with
      | zero =>
        rw [hx] at h
        have : f.up = u := by
          have := congrArg (Option.map Fa.up) h
          simpa [Nd.fa] using this.symm
        omega
      | succ m =>
        rw [hx, List.getElem?_cons_succ] at h
        have := flS_lt (ch :: rest) ((s + cntL nd.kids : Nat) : Int) (s + cntL nd.kids + 1) (by omega) m f h
        omega
/-- What the innermost one has stands behind all others. -/
theorem flS_split : ∀ (i : List Nd) (nd : Nd) (u : Int) (s : Nat), u < (s : Int) → ∃ pre s', flS (i ++ [nd]) u s = pre ++ flatL nd.kids (hereS (i ++ [nd]) u s) s' ∧ (∀ f ∈ pre, f.up < hereS (i ++ [nd]) u s) ∧ hereS (i ++ [nd]) u s < (s' : Int) ∧ u ≤ hereS (i ++ [nd]) u s
  | [], nd, u, s, hu => ⟨[], s, rfl, (fun f hf => by cases hf), hu, Int.le_refl _⟩
  | [a], nd, u, s, hu => by
    refine ⟨flatL a.kids u s ++ [nd.fa u], s + cntL a.kids + 1, ?_, ?_, ?_, ?_⟩
    · show flatL a.kids u s ++ nd.fa u :: flatL nd.kids _ _ = _
      rw [List.append_assoc]
      rfl
    · intro f hf
      show f.up < ((s + cntL a.kids : Nat) : Int)
      rcases List.mem_append.1 hf with hf | hf
      · obtain ⟨j, hj⟩ := List.getElem?_of_mem hf
        have h1 := flatL_lt a.kids u s hu j f hj
        have h2 := (List.getElem?_eq_some_iff.1 hj).1
        rw [flatL_len] at h2
        omega
      · have : f = nd.fa u := by simpa using hf
        rw [this]
        show u < _
        omega
    · show ((s + cntL a.kids : Nat) : Int) < _
      omega
    · show u ≤ ((s + cntL a.kids : Nat) : Int)
      omega
  | a :: b :: i, nd, u, s, hu => by
    obtain ⟨pre, s', h1, h2, h3, h4⟩ := flS_split (b :: i) nd ((s + cntL a.kids : Nat) : Int) (s + cntL a.kids + 1) (by omega)
    have hh : hereS (a :: b :: i ++ [nd]) u s = hereS (b :: i ++ [nd]) ((s + cntL a.kids : Nat) : Int) (s + cntL a.kids + 1) := rfl
    rw [hh]
    refine ⟨flatL a.kids u s ++ b.fa u :: pre, s', ?_, ?_, h3, by omega⟩
    · show flatL a.kids u s ++ b.fa u :: flS (b :: i ++ [nd]) _ _ = _
      rw [h1, List.append_assoc]
      rfl
    · intro f hf
      rcases List.mem_append.1 hf with hf | hf
      · obtain ⟨j, hj⟩ := List.getElem?_of_mem hf
        have k1 := flatL_lt a.kids u s hu j f hj
        have k2 := (List.getElem?_eq_some_iff.1 hj).1
        rw [flatL_len] at k2
        omega
      · rcases List.mem_cons.1 hf with rfl | hf
        · show u < _
          omega
        · exact h2 f hf
theorem lastF_none (fl : List Fl) (u : Int) : ∀ n, (∀ j f, j < n → fl[j]? = some f → f.up ≠ u) → lastF fl u n = -1
  | 0, _ => rfl
  | j + 1, h => by
    unfold lastF
    rw [if_neg]
    · exact lastF_none fl u j (fun i f hi => h i f (by omega))
    · intro e
      cases hf : fl[j]? with
      | none => rw [hf] at e; cases e
      | some f =>
        rw [hf] at e
        exact h j f (by omega) hf (by simpa using e)
theorem lastF_at (fl : List Fl) (u : Int) (k : Nat) (f : Fl) (hk : fl[k]? = some f) (hu : f.up = u) : ∀ n, k < n → (∀ j g, k < j → j < n → fl[j]? = some g → g.up ≠ u) → lastF fl u n = (k : Int)
  | 0, h, _ => by omega
  | j + 1, h, hn => by
    unfold lastF
    by_cases e : j = k
    · subst e
      rw [if_pos (by rw [hk]; simp [hu])]
    · rw [if_neg]
      · exact lastF_at fl u k f hk hu j (by omega) (fun i g h1 h2 => hn i g h1 (by omega))
      · intro e2
        cases hf : fl[j]? with
        | none => rw [hf] at e2; cases e2
        | some g =>
          rw [hf] at e2
          exact hn j g (by omega) (by omega) hf (by simpa using e2)
/-- Where no text waits, none stands last. -/
theorem rel_last {K : Nat} {r : List Nd} {fl : List Fl} {op : List Nat} (h : Rel r [] fl op) (hr : r ≠ []) (hfi : Fi K r) : lastF fl (hereF op) fl.length = -1 ∨ ∃ (k : Nat) (f : Fl), lastF fl (hereF op) fl.length = (k : Int) ∧ fl[k]? = some f ∧ f.name ≠ [] := by
  obtain ⟨nd, q, rfl⟩ := List.exists_cons_of_ne_nil hr
  have hlk := hfi.lk nd q rfl
  have hfl : fl.map Fl.fa = flS (q.reverse ++ [nd]) (-1) 0 := by
    rw [h.fl, osT_cons, textIn_nil]
  have hhere : hereF op = hereS (q.reverse ++ [nd]) (-1) 0 := by rw [h.op, List.reverse_cons, here_eq]
  obtain ⟨pre, s', h1, h2, h3, _⟩ := flS_split q.reverse nd (-1) 0 (by decide)
  rw [← hhere] at h1 h2 h3
  rw [h1] at hfl
  have hget : ∀ (j : Nat) (f : Fl), fl[j]? = some f → (pre ++ flatL nd.kids (hereF op) s')[j]? = some f.fa := by
    intro j f hj
    rw [← hfl, List.getElem?_map, hj]
    rfl
  rcases List.eq_nil_or_concat nd.kids with hk | ⟨k0, x, hk⟩
  · left
    refine lastF_none fl _ _ ?_
    intro j f _ hj e
    have := hget j f hj
    rw [hk, flatL, List.append_nil] at this
    have h5 := h2 _ (List.mem_of_getElem? this)
    have e6 : f.fa.up = f.up := rfl
    omega
  · right
    rw [List.concat_eq_append] at hk
    have hxn : x.name ≠ [] := by
      rw [hk, lastT_snoc] at hlk
      simpa using hlk
    rw [hk, flatL_app, flatL_one, flatN_eq, ← List.append_assoc] at hfl hget
    obtain ⟨A, hA⟩ : ∃ A, A = pre ++ flatL k0 (hereF op) s' := ⟨_, rfl⟩
    rw [← hA] at hfl hget
    have hlen : A.length < fl.length := by
      have := congrArg List.length hfl
      rw [List.length_map, List.length_append, List.length_cons] at this
      omega
    have hgk : fl[A.length]? = some fl[A.length] := List.getElem?_eq_getElem hlen
    generalize fl[A.length] = f at hgk
    have hf := hget A.length f hgk
    rw [List.getElem?_append_right (Nat.le_refl _), Nat.sub_self] at hf
    have hf : x.fa (hereF op) = f.fa := by simpa using hf
    have f1 : f.name = x.name := (congrArg Fa.name hf).symm
    have f2 : f.up = hereF op := (congrArg Fa.up hf).symm
    refine ⟨A.length, f, ?_, hgk, by rw [f1]; exact hxn⟩
    refine lastF_at fl _ A.length f hgk f2 _ hlen ?_
    intro j g hj _ hgj e
    have hg2 := hget j g hgj
    rw [List.getElem?_append_right (by omega)] at hg2
    cases hx : j - A.length with
    | zero => omega
    | succ m =>
      rw [hx, List.getElem?_cons_succ] at hg2
      rcases flatL_up x.kids _ _ _ (List.mem_of_getElem? hg2) with h6 | h6
      · have e6 : g.fa.up = g.up := rfl
        omega
      · have e6 : g.fa.up = g.up := rfl
        omega
end Go.Proofs.Ytkdppcpkigpmdaa
