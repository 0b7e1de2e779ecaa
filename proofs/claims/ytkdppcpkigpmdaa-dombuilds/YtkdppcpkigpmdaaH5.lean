/-
  The tree's text is all texts of the tokens.
-/
import Derived.Test.YtkdppcpkigpmdaaH2
namespace Go.Proofs.Ytkdppcpkigpmdaa
open Go.RowKit
open Utf1

/-- What one closing keeps, all closings keep. -/
theorem closeR_ind {Pr : List Nd → List UInt8 → Prop} (h1 : ∀ nd p r t, Pr (nd :: p :: r) t → Pr (addKid p (textIn nd t) :: r) []) : ∀ n r t, Pr r t → Pr (closeR n r t).1 (closeR n r t).2
  | 0, r, t, h => by
    have : closeR 0 r t = (r, t) := by cases r <;> rfl
    rw [this]
    exact h
  | n + 1, [], t, h => h
  | n + 1, [a], t, h => h
  | n + 1, nd :: p :: r, t, h => closeR_ind h1 n _ _ (h1 nd p r t h)
theorem closeIn_ind {Pr : List Nd → List UInt8 → Prop} (h1 : ∀ nd p r t, Pr (nd :: p :: r) t → Pr (addKid p (textIn nd t) :: r) []) (ns : List (List UInt8)) (r : List Nd) (t : List UInt8) (h : Pr r t) : Pr (closeIn ns r t).1 (closeIn ns r t).2 := by
  unfold closeIn
  split
  · exact closeR_ind h1 _ _ _ h
  · exact h
theorem wayR_ind {Pr : List Nd → List UInt8 → Prop} (h1 : ∀ nd p r t, Pr (nd :: p :: r) t → Pr (addKid p (textIn nd t) :: r) []) (name : List UInt8) (r : List Nd) (t : List UInt8) (h : Pr r t) : Pr (wayR name r t).1 (wayR name r t).2 := by
  have c := closeIn_ind h1 [[112]] r t h
  unfold wayR
  split
  · split
    · split
      · exact closeR_ind h1 _ _ _ c
      · exact c
    · exact c
  · exact h

theorem txt_add (p x : Nd) : txtN (addKid p x) = txtN p ++ txtN x := by
  rw [txtN_kids, txtN_kids p]
  show p.text ++ txtL (p.kids ++ [x]) = _
  rw [txtL_app]
  simp [txtL]
theorem txt_textIn (p : Nd) (t : List UInt8) : txtN (textIn p t) = txtN p ++ t := by
  unfold textIn
  split
  · rename_i h
    rw [h, List.append_nil]
  · rw [txt_add]
    simp [txtN, txtL]
/-- All text so far. -/
def txtR (r : List Nd) (t : List UInt8) : List UInt8 := txtL r.reverse ++ t
def rootT (r : List Nd) : Prop := r.getLast?.map Nd.text = some []
theorem addKid_text (p x : Nd) : (addKid p x).text = p.text := by
  cases p
  rfl
theorem textIn_text (p : Nd) (t : List UInt8) : (textIn p t).text = p.text := by
  unfold textIn
  split
  · rfl
  · exact addKid_text _ _
theorem last_text {a b : Nd} {q : List Nd} (h : a.text = b.text) : (a :: q).getLast?.map Nd.text = (b :: q).getLast?.map Nd.text := by
  cases q with
  | nil => simp [h]
  | cons x y => simp
theorem close_txt (X : List UInt8) : ∀ nd p r t, (txtR (nd :: p :: r) t = X ∧ rootT (nd :: p :: r)) → (txtR (addKid p (textIn nd t) :: r) [] = X ∧ rootT (addKid p (textIn nd t) :: r)) := by
  intro nd p r t ⟨h, hr⟩
  constructor
  · rw [← h]
    unfold txtR
    simp only [List.reverse_cons]
    rw [txtL_app, txtL_app, txtL_app]
    simp only [txtL, List.append_nil]
    rw [txt_add, txt_textIn]
    simp
  · unfold rootT at hr ⊢
    rw [List.getLast?_cons_cons] at hr
    rw [last_text (addKid_text p _)]
    exact hr
theorem start_txt {X : List UInt8} (name : List UInt8) (at' : List (List UInt8 × List UInt8)) (s : Bs) (h : txtR s.r s.t = X ∧ rootT s.r) : txtR (startB name at' s).r (startB name at' s).t = X ∧ rootT (startB name at' s).r := by
  have hw := wayR_ind (Pr := fun r t => txtR r t = X ∧ rootT r) (close_txt X) name s.r s.t h
  unfold startB startR
  by_cases hn : name = []
  · rw [if_pos hn]
    exact h
  · rw [if_neg hn]
    cases hh : (wayR name s.r s.t).1 with
    | nil => exact h
    | cons nd q =>
      rw [hh] at hw
      obtain ⟨h1, h2⟩ := hw
      simp only []
      have e : ∀ x : Nd, txtN x = [] → txtL (q.reverse ++ [textIn nd (wayR name s.r s.t).2]) ++ txtN x = X := by
        intro x hx
        rw [hx, List.append_nil, ← h1]
        unfold txtR
        simp only [List.reverse_cons]
        rw [txtL_app, txtL_app]
        simp only [txtL, List.append_nil]
        rw [txt_textIn]
        simp
      have h2' : rootT (textIn nd (wayR name s.r s.t).2 :: q) := by
        unfold rootT at h2 ⊢
        rw [last_text (textIn_text nd _)]
        exact h2
      have hx : txtN (.mk name at' [] []) = [] := rfl
      split
      · refine ⟨?_, ?_⟩
        · show txtR (addKid (textIn nd (wayR name s.r s.t).2) (.mk name at' [] []) :: q) [] = X
          rw [← e _ hx]
          unfold txtR
          simp only [List.reverse_cons, List.append_nil]
          rw [txtL_app, txtL_app]
          simp only [txtL, List.append_nil]
          rw [txt_add, List.append_assoc]
        · show rootT (addKid (textIn nd (wayR name s.r s.t).2) (.mk name at' [] []) :: q)
          unfold rootT at h2' ⊢
          rw [last_text (addKid_text _ _)]
          exact h2'
      · refine ⟨?_, ?_⟩
        · show txtR (.mk name at' [] [] :: textIn nd (wayR name s.r s.t).2 :: q) [] = X
          rw [← e _ hx]
          unfold txtR
          simp only [List.reverse_cons, List.append_nil]
          rw [txtL_app]
          simp only [txtL, List.append_nil]
        · show rootT (.mk name at' [] [] :: textIn nd (wayR name s.r s.t).2 :: q)
          unfold rootT at h2' ⊢
          rw [List.getLast?_cons_cons]
          exact h2'
theorem shut_txt {X : List UInt8} (a : Nat) (s : Bs) (h : txtR s.r s.t = X ∧ rootT s.r) : txtR (shutB a s).r (shutB a s).t = X ∧ rootT (shutB a s).r :=
  closeR_ind (Pr := fun r t => txtR r t = X ∧ rootT r) (close_txt X) _ s.r s.t h
theorem end_txt {X : List UInt8} (name : List UInt8) (s : Bs) (h : txtR s.r s.t = X ∧ rootT s.r) : txtR (endB name s).r (endB name s).t = X ∧ rootT (endB name s).r := by
  unfold endB
  split
  · exact shut_txt _ s h
  · split
    · exact shut_txt _ _ (start_txt [112] [] s h)
    · split
      · exact start_txt [98, 114] [] s h
      · exact h
/-- A token's text. -/
def tkTxt (k : Tk) : List UInt8 := if k.kind = 1 then k.text else []
def tksTxt : List Tk → List UInt8
  | [] => []
  | k :: r => tkTxt k ++ tksTxt r
theorem tksTxt_app : ∀ a b, tksTxt (a ++ b) = tksTxt a ++ tksTxt b
  | [], b => rfl
  | k :: a, b => by rw [List.cons_append, tksTxt, tksTxt, tksTxt_app a b, List.append_assoc]
theorem take_txt {X : List UInt8} (k : Tk) (s : Bs) (h : txtR s.r s.t = X ∧ rootT s.r) : txtR (takeB k s).r (takeB k s).t = X ++ tkTxt k ∧ rootT (takeB k s).r := by
  unfold takeB tkTxt
  by_cases h1 : k.kind = 1
  · rw [if_pos h1, if_pos h1]
    refine ⟨?_, h.2⟩
    show txtR s.r (s.t ++ k.text) = _
    rw [← h.1]
    unfold txtR
    rw [List.append_assoc]
  · rw [if_neg h1, if_neg h1, List.append_nil]
    split
    · exact start_txt _ _ s h
    · split
      · exact end_txt _ s h
      · exact h
theorem run_txt : ∀ (l : List Tk) (s u : Bs) (X : List UInt8), txtR s.r s.t = X ∧ rootT s.r → runB l s = some u → txtR u.r u.t = X ++ tksTxt l ∧ rootT u.r
  | [], s, u, X, h, e => by
    cases e
    rw [tksTxt, List.append_nil]
    exact h
  | k :: l, s, u, X, h, e => by
    unfold runB at e
    split at e
    · have := run_txt l _ u _ (take_txt k s h) e
      rw [tksTxt, ← List.append_assoc]
      exact this
    · cases e
theorem build_txt {l : List Tk} {ns : List Nd} (h : buildB l = some ns) : txtL ns = tksTxt l := by
  unfold buildB at h
  cases hr : runB l bs0 with
  | none => rw [hr] at h; cases h
  | some u =>
    rw [hr] at h
    cases h
    have g := (runB_good l bs0 u good0 (by decide) (by decide) hr).1
    have ht := shut_txt 1 u (run_txt l bs0 u [] ⟨rfl, rfl⟩ hr)
    have gs := shut_good g (Nat.le_refl 1) (List.length_pos_iff.2 g.ne)
    obtain ⟨nd, hnd⟩ := List.length_eq_one_iff.1 gs.2.2
    unfold treeB
    rw [hnd] at ht ⊢
    obtain ⟨h1, h2⟩ := ht
    have h2 : nd.text = [] := by simpa [rootT] using h2
    show txtL (textIn nd (shutB 1 u).t).kids = _
    have h3 := txtN_kids (textIn nd (shutB 1 u).t)
    rw [textIn_text, h2, List.nil_append, txt_textIn] at h3
    rw [← h3]
    rw [List.nil_append] at h1
    rw [← h1]
    simp [txtR, txtL]
theorem tks_len : ∀ l : List Te, (tksTxt (l.map Prod.fst)).length ≤ textSum l
  | [] => Nat.le_refl _
  | e :: r => by
    rw [List.map_cons, tksTxt, List.length_append, textSum]
    have := tks_len r
    unfold tkTxt
    split
    · omega
    · simp; omega
end Go.Proofs.Ytkdppcpkigpmdaa
