/-
  What is built nests as it may: the builder's states.
-/
import Derived.Test.YtkdppcpkigpmdaaH6
namespace Go.Proofs.Ytkdppcpkigpmdaa
open Go.RowKit
open Utf1

theorem FineN_iff {bs vs : List (List UInt8)} (x : Nd) (p li pr : Bool) : FineN bs vs x p li pr ↔ (x.name = [] → x.text ≠ [] ∧ x.kids = [] ∧ x.attrs = [] ∧ pr = false) ∧ (x.name ≠ [] → x.text = [] ∧ ¬ (p = true ∧ x.name ∈ bs) ∧ ¬ (li = true ∧ x.name = [108, 105]) ∧ (x.name ∈ vs → x.kids = []) ∧ FineL bs vs x.kids (p || decide (x.name = [112])) ((li && decide (x.name ≠ [117, 108]) && decide (x.name ≠ [111, 108])) || decide (x.name = [108, 105])) false) := by
  cases x
  rw [FineN]
  exact Iff.rfl
theorem fine_textIn {bs vs : List (List UInt8)} (nd : Nd) (t : List UInt8) (p li : Bool) (h : FineL bs vs nd.kids p li false) (hl : lastT nd.kids false = false) : FineL bs vs (textIn nd t).kids p li false := by
  unfold textIn
  split
  · exact h
  · rename_i ht
    show FineL bs vs (nd.kids ++ [.mk [] [] t []]) p li false
    refine fine_app nd.kids _ p li false h ?_
    rw [FineN_iff]
    exact ⟨fun _ => ⟨ht, rfl, rfl, hl⟩, fun hn => absurd rfl hn⟩
theorem deep_textIn (nd : Nd) (t : List UInt8) : deepL (textIn nd t).kids = deepL nd.kids := by
  unfold textIn
  split
  · rfl
  · show deepL (nd.kids ++ [.mk [] [] t []]) = _
    rw [deepL_app]
    have : deepL [.mk [] [] t []] = 0 := rfl
    omega
theorem kids_add (p x : Nd) : (addKid p x).kids = p.kids ++ [x] := by
  cases p
  rfl

/-- The context within the innermost of open nodes. -/
def ctxR (r : List Nd) : Bool × Bool := ctxN (r.map Nd.name)
def okR : List Nd → Prop
  | [] => True
  | nd :: rest => (rest ≠ [] → nd.name ≠ [] ∧ nd.text = [] ∧ nd.name ∉ voids) ∧ FineL blocks voids nd.kids (ctxR (nd :: rest)).1 (ctxR (nd :: rest)).2 false ∧ okR rest
def dpR : List Nd → Prop
  | [] => True
  | nd :: rest => rest.length + deepL nd.kids ≤ 65 ∧ dpR rest
structure Fi (K : Nat) (r : List Nd) : Prop where
  ok : okR r
  nm : okN (r.map Nd.name)
  lk : ∀ nd q, r = nd :: q → lastT nd.kids false = false
  dp : dpR r
  len : r.length ≤ K
theorem ctx_same {a b : Nd} (r : List Nd) (h : a.name = b.name) : ctxR (a :: r) = ctxR (b :: r) := by
  unfold ctxR
  rw [List.map_cons, List.map_cons, h]
theorem names_same {a b : Nd} (r : List Nd) (h : a.name = b.name) : (a :: r).map Nd.name = (b :: r).map Nd.name := by rw [List.map_cons, List.map_cons, h]
theorem ctx_in (nd p : Nd) (r : List Nd) : ctxR (nd :: p :: r) = ((ctxR (p :: r)).1 || decide (nd.name = [112]), ((ctxR (p :: r)).2 && decide (nd.name ≠ [117, 108]) && decide (nd.name ≠ [111, 108])) || decide (nd.name = [108, 105])) := by
  unfold ctxR
  rw [List.map_cons]
  rw [ctxN, if_neg (by simp)]

theorem close_fi (K : Nat) : ∀ nd p r, Fi K (nd :: p :: r) → ∀ t, Fi K (addKid p (textIn nd t) :: r) := by
  intro nd p r h t
  obtain ⟨⟨o1, o2, o3⟩, ⟨n1, n2⟩, lk, ⟨d1, d2⟩, len⟩ := h
  obtain ⟨e1, e2, e3⟩ := o1 (by simp)
  have hlk := lk nd (p :: r) rfl
  have hn := n1 (by simp)
  have hX : FineN blocks voids (textIn nd t) (ctxR (p :: r)).1 (ctxR (p :: r)).2 (lastT p.kids false) := by
    rw [FineN_iff, textIn_name, textIn_text]
    refine ⟨fun e => absurd e e1, fun _ => ⟨e2, hn.1, hn.2, fun e => absurd e e3, ?_⟩⟩
    refine fine_textIn nd t _ _ ?_ hlk
    rw [ctx_in] at o2
    exact o2
  obtain ⟨q1, q2, q3⟩ := o3
  refine ⟨⟨?_, ?_, q3⟩, ?_, ?_, ⟨?_, d2.2⟩, ?_⟩
  · intro hr
    rw [addKid_name, addKid_text]
    exact q1 hr
  · rw [ctx_same r (addKid_name p (textIn nd t)), kids_add]
    exact fine_app _ _ _ _ _ q2 hX
  · rw [names_same r (addKid_name p (textIn nd t))]
    exact n2
  · intro a q e
    cases e
    rw [kids_add, lastT_snoc, textIn_name]
    exact decide_eq_false e1
  · rw [kids_add, deepL_app]
    have h1 : deepL [textIn nd t] = deepL nd.kids + 1 := by
      rw [deepL, deepL, deepN_kids, textIn_name, if_neg e1, deep_textIn]
      omega
    have h2 := d2.1
    simp only [List.length_cons] at d1
    omega
  · simp only [List.length_cons] at len ⊢
    omega

theorem start_fi {s : Bs} (hg : Good s) (name : List UInt8) (at' : List (List UInt8 × List UInt8)) (h : Fi (s.o + 1) s.r) (ho : s.o ≤ 64) : Fi ((startB name at' s).o + 1) (startB name at' s).r := by
  have hw := wayR_ind (Pr := fun r _ => Fi (s.o + 1) r) (fun nd p r t h => close_fi _ nd p r h t) name s.r s.t h
  have hctx := way_ctx name s.r s.t hg.ne h.nm hg.root
  unfold startB startR
  by_cases hn : name = []
  · rw [if_pos hn]
    exact h
  · rw [if_neg hn]
    cases hh : (wayR name s.r s.t).1 with
    | nil => exact h
    | cons nd q =>
      rw [hh] at hw hctx
      obtain ⟨⟨o1, o2, o3⟩, n2, lk, ⟨d1, d2⟩, len⟩ := hw
      have hlk := lk nd q rfl
      simp only []
      generalize (wayR name s.r s.t).2 = t1
      have hk := fine_textIn nd t1 _ _ o2 hlk
      have hdt := deep_textIn nd t1
      simp only [List.length_cons] at len
      have hX : ∀ pr, FineN blocks voids (.mk name at' [] []) (ctxR (nd :: q)).1 (ctxR (nd :: q)).2 pr := by
        intro pr
        rw [FineN_iff]
        refine ⟨fun e => absurd e hn, fun _ => ⟨rfl, ?_, ?_, fun _ => rfl, ?_⟩⟩
        · rintro ⟨e1, e2⟩
          have := hctx.1 e2
          unfold ctxR at e1
          rw [this] at e1
          cases e1
        · rintro ⟨e1, e2⟩
          have := hctx.2 e2
          unfold ctxR at e1
          rw [this] at e1
          cases e1
        · show FineL blocks voids [] _ _ _
          rw [FineL]
          trivial
      by_cases hv : name ∈ voids
      · rw [if_pos hv]
        show Fi (s.o + 1) (addKid (textIn nd t1) (.mk name at' [] []) :: q)
        have hnm : (addKid (textIn nd t1) (.mk name at' [] [])).name = nd.name := by rw [addKid_name, textIn_name]
        refine ⟨⟨?_, ?_, o3⟩, ?_, ?_, ⟨?_, d2⟩, by simp only [List.length_cons]; exact len⟩
        · intro hq
          rw [hnm, addKid_text, textIn_text]
          exact o1 hq
        · rw [ctx_same q hnm, kids_add]
          exact fine_app _ _ _ _ _ hk (hX _)
        · rw [names_same q hnm]
          exact n2
        · intro a b e
          cases e
          rw [kids_add, lastT_snoc]
          exact decide_eq_false hn
        · rw [kids_add, deepL_app, hdt]
          have h1 : deepL [.mk name at' [] []] = 1 := by
            rw [deepL, deepL, deepN, deepL, if_neg hn]
            rfl
          omega
      · rw [if_neg hv]
        show Fi (max s.o (q.length + 1) + 1) (.mk name at' [] [] :: textIn nd t1 :: q)
        have hnm := textIn_name nd t1
        refine ⟨⟨fun _ => ⟨hn, rfl, hv⟩, ?_, ?_, ?_, o3⟩, ⟨fun _ => ?_, ?_⟩, ?_, ⟨?_, ?_, d2⟩, ?_⟩
        · show FineL blocks voids [] _ _ _
          rw [FineL]
          trivial
        · intro hq
          rw [hnm, textIn_text]
          exact o1 hq
        · rw [ctx_same q hnm]
          exact hk
        · have hx := ((FineN_iff _ _ _ _).1 (hX false)).2 hn
          have e : ctxN ((textIn nd t1 :: q).map Nd.name) = ctxR (nd :: q) := by
            unfold ctxR
            rw [names_same q hnm]
          show ¬((ctxN ((textIn nd t1 :: q).map Nd.name)).1 = true ∧ name ∈ blocks) ∧ ¬((ctxN ((textIn nd t1 :: q).map Nd.name)).2 = true ∧ name = [108, 105])
          rw [e]
          exact ⟨hx.2.1, hx.2.2.1⟩
        · show okN ((textIn nd t1 :: q).map Nd.name)
          rw [names_same q hnm]
          exact n2
        · intro a b e
          cases e
          rfl
        · show (textIn nd t1 :: q).length + deepL [] ≤ 65
          simp only [List.length_cons, deepL]
          omega
        · rw [hdt]
          exact d1
        · simp only [List.length_cons]
          omega
theorem shut_fi {K : Nat} (a : Nat) (s : Bs) (h : Fi K s.r) : Fi K (shutB a s).r :=
  closeR_ind (Pr := fun r _ => Fi K r) (fun nd p r t h => close_fi _ nd p r h t) _ s.r s.t h
theorem end_fi {s : Bs} (hg : Good s) (name : List UInt8) (h : Fi (s.o + 1) s.r) (ho : s.o ≤ 64) : Fi ((endB name s).o + 1) (endB name s).r := by
  unfold endB
  split
  · exact shut_fi _ s h
  · split
    · exact shut_fi _ _ (start_fi hg [112] [] h ho)
    · split
      · exact start_fi hg [98, 114] [] h ho
      · exact h
theorem take_fi {s : Bs} (hg : Good s) (k : Tk) (h : Fi (s.o + 1) s.r) (ho : s.o ≤ 64) : Fi ((takeB k s).o + 1) (takeB k s).r := by
  unfold takeB
  split
  · exact h
  · split
    · exact start_fi hg _ _ h ho
    · split
      · exact end_fi hg _ h ho
      · exact h
theorem run_fi : ∀ (l : List Tk) (s u : Bs), Good s → Fi (s.o + 1) s.r → s.o ≤ 64 → runB l s = some u → Fi (u.o + 1) u.r
  | [], s, u, _, h, _, e => by
    cases e
    exact h
  | k :: l, s, u, hg, h, ho, e => by
    unfold runB at e
    split at e
    · rename_i hc
      exact run_fi l _ u (take_good hg k).1 (take_fi hg k h ho) hc.1 e
    · cases e
theorem fi0 : Fi (bs0.o + 1) bs0.r := ⟨⟨fun h => absurd rfl h, by show FineL blocks voids [] _ _ _; rw [FineL]; trivial, trivial⟩, ⟨fun h => absurd rfl h, trivial⟩, fun nd q e => by cases e; rfl, ⟨by decide, trivial⟩, by decide⟩
theorem build_fine {l : List Tk} {ns : List Nd} (h : buildB l = some ns) : FineL blocks voids ns false false false ∧ deepL ns ≤ 65 := by
  unfold buildB at h
  cases hr : runB l bs0 with
  | none => rw [hr] at h; cases h
  | some u =>
    rw [hr] at h
    cases h
    have g := (runB_good l bs0 u good0 (by decide) (by decide) hr).1
    have hf := shut_fi 1 u (run_fi l bs0 u good0 fi0 (by decide) hr)
    have gs := shut_good g (Nat.le_refl 1) (List.length_pos_iff.2 g.ne)
    obtain ⟨nd, hnd⟩ := List.length_eq_one_iff.1 gs.2.2
    unfold treeB
    rw [hnd] at hf ⊢
    obtain ⟨⟨_, o2, _⟩, _, lk, ⟨d1, _⟩, _⟩ := hf
    show FineL blocks voids (textIn nd (shutB 1 u).t).kids false false false ∧ deepL (textIn nd (shutB 1 u).t).kids ≤ 65
    refine ⟨fine_textIn nd _ _ _ o2 (lk nd [] rfl), ?_⟩
    rw [deep_textIn]
    simpa using d1
end Go.Proofs.Ytkdppcpkigpmdaa
