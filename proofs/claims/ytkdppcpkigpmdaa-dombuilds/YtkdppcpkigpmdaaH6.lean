/-
  What is built nests as it may.
-/
import Derived.Test.YtkdppcpkigpmdaaH5
namespace Utf1
mutual
/-- A node is as one that was built: within a p, within a li, behind a text. -/
def FineN (bs vs : List (List UInt8)) : Nd → Bool → Bool → Bool → Prop
  | .mk n a t k, p, li, pr => (n = [] → t ≠ [] ∧ k = [] ∧ a = [] ∧ pr = false) ∧ (n ≠ [] → t = [] ∧ ¬ (p = true ∧ n ∈ bs) ∧ ¬ (li = true ∧ n = [108, 105]) ∧ (n ∈ vs → k = []) ∧ FineL bs vs k (p || decide (n = [112])) ((li && decide (n ≠ [117, 108]) && decide (n ≠ [111, 108])) || decide (n = [108, 105])) false)
def FineL (bs vs : List (List UInt8)) : List Nd → Bool → Bool → Bool → Prop
  | [], _, _, _ => True
  | nd :: r, p, li, pr => FineN bs vs nd p li pr ∧ FineL bs vs r p li (decide (nd.name = []))
end
end Utf1
namespace Go.Proofs.Ytkdppcpkigpmdaa
open Go.RowKit
open Utf1

/-- Whether a text stands last. -/
def lastT (l : List Nd) (pr : Bool) : Bool := match l.getLast? with | none => pr | some y => decide (y.name = [])
theorem lastT_cons (x : Nd) (l : List Nd) (pr : Bool) : lastT (x :: l) pr = lastT l (decide (x.name = [])) := by
  unfold lastT
  cases l with
  | nil => rfl
  | cons a b =>
    rw [List.getLast?_cons_cons]
    obtain ⟨y, hy⟩ : ∃ y, (a :: b).getLast? = some y := ⟨_, List.getLast?_eq_some_getLast (by simp)⟩
    rw [hy]
theorem lastT_snoc (l : List Nd) (x : Nd) (pr : Bool) : lastT (l ++ [x]) pr = decide (x.name = []) := by
  unfold lastT
  rw [List.getLast?_concat]
theorem fine_app {bs vs : List (List UInt8)} : ∀ (a : List Nd) (x : Nd) (p li pr : Bool), FineL bs vs a p li pr → FineN bs vs x p li (lastT a pr) → FineL bs vs (a ++ [x]) p li pr
  | [], x, p, li, pr, _, h => by
    show FineL bs vs [x] p li pr
    rw [FineL]
    exact ⟨h, by rw [FineL]; trivial⟩
  | y :: a, x, p, li, pr, h1, h2 => by
    rw [List.cons_append, FineL]
    rw [FineL] at h1
    rw [lastT_cons] at h2
    exact ⟨h1.1, fine_app a x p li _ h1.2 h2⟩

/-- What stands around: within a p; the innermost of li, ul, ol is a li. Of names, the innermost first, the root last. -/
def ctxN : List (List UInt8) → Bool × Bool
  | [] => (false, false)
  | a :: rest => if rest = [] then (false, false) else ((ctxN rest).1 || decide (a = [112]), ((ctxN rest).2 && decide (a ≠ [117, 108]) && decide (a ≠ [111, 108])) || decide (a = [108, 105]))
def okN : List (List UInt8) → Prop
  | [] => True
  | a :: rest => (rest ≠ [] → ¬ ((ctxN rest).1 = true ∧ a ∈ blocks) ∧ ¬ ((ctxN rest).2 = true ∧ a = [108, 105])) ∧ okN rest
def innerN (ns : List (List UInt8)) : List (List UInt8) → Nat
  | [] => 0
  | a :: rest => if rest = [] then 0 else if a ∈ ns then rest.length else innerN ns rest
theorem inner_names (ns : List (List UInt8)) : ∀ r : List Nd, innerR ns r = innerN ns (r.map Nd.name)
  | [] => rfl
  | nd :: rest => by
    rw [List.map_cons]
    unfold innerR innerN
    by_cases h : rest = []
    · rw [if_pos h, if_pos (by rw [h]; rfl)]
    · have h' : rest.map Nd.name ≠ [] := by simpa using h
      rw [if_neg h, if_neg h', List.length_map, inner_names ns rest]
theorem close_names : ∀ (n : Nat) (r : List Nd) (t : List UInt8), n < r.length → (closeR n r t).1.map Nd.name = (r.map Nd.name).drop n
  | 0, r, t, _ => by
    have : closeR 0 r t = (r, t) := by cases r <;> rfl
    rw [this]
    rfl
  | n + 1, [], t, h => by simp at h
  | n + 1, [_], t, h => by simp at h
  | n + 1, nd :: p :: r, t, h => by
    have ih := close_names n (addKid p (textIn nd t) :: r) [] (by simp only [List.length_cons] at h ⊢; omega)
    show (closeR n (addKid p (textIn nd t) :: r) []).1.map Nd.name = _
    rw [ih]
    simp only [List.map_cons, addKid_name, List.drop_succ_cons]
theorem innerN_lt (ns : List (List UInt8)) : ∀ L : List (List UInt8), L ≠ [] → innerN ns L < L.length
  | [], h => absurd rfl h
  | a :: rest, _ => by
    unfold innerN
    split
    · simp
    · rename_i hr
      split
      · simp
      · have := innerN_lt ns rest hr
        simp only [List.length_cons]
        omega
theorem okN_drop : ∀ (n : Nat) (L : List (List UInt8)), okN L → okN (L.drop n)
  | 0, _, h => h
  | _ + 1, [], h => h
  | n + 1, _ :: rest, h => okN_drop n rest h.2
theorem ctx_drop : ∀ (n : Nat) (L : List (List UInt8)), (ctxN L).1 = false → (ctxN (L.drop n)).1 = false
  | 0, L, h => h
  | n + 1, [], h => h
  | n + 1, a :: rest, h => by
    refine ctx_drop n rest ?_
    unfold ctxN at h
    split at h
    · rename_i hr
      rw [hr]
      rfl
    · simp only [Bool.or_eq_false_iff] at h
      exact h.1
/-- Names that are left where the innermost of some names is closed. -/
def shutN (ns : List (List UInt8)) (L : List (List UInt8)) : List (List UInt8) := if 0 < innerN ns L then L.drop (L.length - innerN ns L) else L
theorem p_closed : ∀ L : List (List UInt8), okN L → (ctxN (shutN [[112]] L)).1 = false
  | [], _ => rfl
  | a :: rest, h => by
    by_cases hr : rest = []
    · subst hr
      rfl
    · have ih := p_closed rest h.2
      have hpos : 0 < rest.length := List.length_pos_iff.2 hr
      unfold shutN innerN
      rw [if_neg hr]
      by_cases ha : a ∈ [[112]]
      · rw [if_pos ha, if_pos hpos, List.length_cons, Nat.add_sub_cancel_left]
        have ha' : a = [112] := by simpa using ha
        have := (h.1 hr).1
        show (ctxN rest).1 = false
        cases hc : (ctxN rest).1 with
        | false => rfl
        | true => exact absurd ⟨hc, by rw [ha']; decide⟩ this
      · rw [if_neg ha]
        unfold shutN at ih
        have hlt := innerN_lt [[112]] rest hr
        by_cases hi : 0 < innerN [[112]] rest
        · rw [if_pos hi] at ih ⊢
          rw [List.length_cons, show rest.length + 1 - innerN [[112]] rest = (rest.length - innerN [[112]] rest) + 1 by omega, List.drop_succ_cons]
          exact ih
        · rw [if_neg hi] at ih ⊢
          unfold ctxN
          rw [if_neg hr]
          have : decide (a = [112]) = false := decide_eq_false (by simpa using ha)
          show ((ctxN rest).1 || decide (a = [112])) = false
          rw [ih, this]
          rfl
theorem li_closed : ∀ L : List (List UInt8), okN L → (L.reverse[innerN [[108, 105], [117, 108], [111, 108]] L]? = some [108, 105] → (ctxN (L.drop (L.length - innerN [[108, 105], [117, 108], [111, 108]] L))).2 = false) ∧ (L.reverse[innerN [[108, 105], [117, 108], [111, 108]] L]? ≠ some [108, 105] → (ctxN L).2 = false)
  | [], _ => ⟨fun _ => rfl, fun _ => rfl⟩
  | a :: rest, h => by
    by_cases hr : rest = []
    · subst hr
      exact ⟨fun _ => rfl, fun _ => rfl⟩
    · have ih := li_closed rest h.2
      have hpos : 0 < rest.length := List.length_pos_iff.2 hr
      have hlt := innerN_lt [[108, 105], [117, 108], [111, 108]] rest hr
      unfold innerN
      rw [if_neg hr]
      by_cases ha : a ∈ [[108, 105], [117, 108], [111, 108]]
      · rw [if_pos ha, List.length_cons, Nat.add_sub_cancel_left, List.reverse_cons, List.getElem?_append_right (by simp), List.length_reverse, Nat.sub_self]
        constructor
        · intro e
          have ha' : a = [108, 105] := by simpa using e
          have := (h.1 hr).2
          show (ctxN rest).2 = false
          cases hc : (ctxN rest).2 with
          | false => rfl
          | true => exact absurd ⟨hc, ha'⟩ this
        · intro e
          have ha' : a ≠ [108, 105] := by simpa using e
          unfold ctxN
          rw [if_neg hr]
          simp only [List.mem_cons, List.not_mem_nil, or_false] at ha
          rcases ha with rfl | rfl | rfl
          · exact absurd rfl ha'
          · simp
          · simp
      · rw [if_neg ha]
        have hge : (rest.reverse ++ [a])[innerN [[108, 105], [117, 108], [111, 108]] rest]? = rest.reverse[innerN [[108, 105], [117, 108], [111, 108]] rest]? := List.getElem?_append_left (by rw [List.length_reverse]; exact hlt)
        rw [List.reverse_cons, hge]
        simp only [List.mem_cons, List.not_mem_nil, or_false, not_or] at ha
        constructor
        · intro e
          rw [List.length_cons, show rest.length + 1 - innerN [[108, 105], [117, 108], [111, 108]] rest = (rest.length - innerN [[108, 105], [117, 108], [111, 108]] rest) + 1 by omega, List.drop_succ_cons]
          exact ih.1 e
        · intro e
          have := ih.2 e
          unfold ctxN
          rw [if_neg hr]
          show ((ctxN rest).2 && decide (a ≠ [117, 108]) && decide (a ≠ [111, 108]) || decide (a = [108, 105])) = false
          rw [this, decide_eq_false ha.1]
          rfl
/-- Where an element of a name may be put. -/
theorem way_ctx (name : List UInt8) (r : List Nd) (t : List UInt8) (hr : r ≠ []) (hok : okN (r.map Nd.name)) (hroot : r.getLast?.map Nd.name = some []) : (name ∈ blocks → (ctxN ((wayR name r t).1.map Nd.name)).1 = false) ∧ (name = [108, 105] → (ctxN ((wayR name r t).1.map Nd.name)).2 = false) := by
  have hlt := innerR_lt [[112]] r hr
  have hc1 : (closeIn [[112]] r t).1.map Nd.name = shutN [[112]] (r.map Nd.name) := by
    unfold closeIn shutN
    rw [← inner_names, List.length_map]
    split
    · exact close_names _ r t (by omega)
    · rfl
  have hp := p_closed _ hok
  rw [← hc1] at hp
  have hok1 : okN ((closeIn [[112]] r t).1.map Nd.name) := by
    rw [hc1]
    unfold shutN
    split
    · exact okN_drop _ _ hok
    · exact hok
  have hc := closeIn_all [[112]] r t hr
  have hne : (closeIn [[112]] r t).1 ≠ [] := List.length_pos_iff.1 hc.1
  have hroot1 := (closeIn_root [[112]] r t hr).trans hroot
  obtain ⟨r1, t1, e1⟩ : ∃ r1 t1, closeIn [[112]] r t = (r1, t1) := ⟨_, _, rfl⟩
  rw [e1] at hp hok1 hne hroot1
  have hp : (ctxN (r1.map Nd.name)).1 = false := hp
  have hl := li_closed _ hok1
  have hlt2 := innerR_lt [[108, 105], [117, 108], [111, 108]] r1 hne
  unfold wayR
  rw [e1]
  by_cases hb : name ∈ blocks
  · rw [if_pos hb]
    by_cases hli : name = [108, 105]
    · rw [if_pos hli]
      simp only []
      have hget : r1.reverse[innerR [[108, 105], [117, 108], [111, 108]] r1]?.map Nd.name = (r1.map Nd.name).reverse[innerN [[108, 105], [117, 108], [111, 108]] (r1.map Nd.name)]? := by
        rw [← inner_names, ← List.map_reverse, List.getElem?_map]
      by_cases hh : r1.reverse[innerR [[108, 105], [117, 108], [111, 108]] r1]?.map Nd.name = some [108, 105]
      · rw [if_pos hh]
        by_cases h0 : innerR [[108, 105], [117, 108], [111, 108]] r1 = 0
        · exfalso
          rw [h0, ← List.head?_eq_getElem?, List.head?_reverse, hroot1] at hh
          exact absurd hh (by decide)
        · have hcn := close_names (r1.length - innerR [[108, 105], [117, 108], [111, 108]] r1) r1 t1 (by omega)
          refine ⟨fun _ => ?_, fun _ => ?_⟩
          · rw [hcn]
            exact ctx_drop _ _ hp
          · rw [hcn]
            have := hl.1 (by rw [← hget]; exact hh)
            rw [List.length_map, ← inner_names] at this
            exact this
      · rw [if_neg hh]
        exact ⟨fun _ => hp, fun _ => hl.2 (by rw [← hget]; exact hh)⟩
    · rw [if_neg hli]
      exact ⟨fun _ => hp, fun e => absurd e hli⟩
  · rw [if_neg hb]
    exact ⟨fun h => absurd h hb, fun e => absurd (by rw [e]; decide) hb⟩
end Go.Proofs.Ytkdppcpkigpmdaa
