/-
  A stable tree, built of its own tokens, is itself.
-/
import Derived.Test.YtholfdfjapgfbabGreatDoorNB
import Derived.Test.YtholfdfjapgfbabGreatDoorGZ
import Derived.Test.YtholfdfjapgfbabGreatDoorBB

namespace Utf1
mutual
/-- The tokens of a node, as the tree's builder takes them. -/
def tdN : Nd → List Td
  | .mk n a t k => if n = [] then [⟨1, [], [], t⟩] else ⟨2, n, a, []⟩ :: (if n ∈ voids then [] else tdL k ++ [⟨3, n, [], []⟩])
def tdL : List Nd → List Td
  | [] => []
  | n :: r => tdN n ++ tdL r
end
end Utf1
namespace Go.Proofs.YtholfdfjapgfbabGreatDoor.Dm
open Go.RowKit
open Utf1

def addKids (nd : Nd) (l : List Nd) : Nd := .mk nd.name nd.attrs nd.text (nd.kids ++ l)
theorem addKids_nil (nd : Nd) : addKids nd [] = nd := by
  cases nd
  simp [addKids, Nd.name, Nd.attrs, Nd.text, Nd.kids]
theorem addKids_cons (nd x : Nd) (l : List Nd) : addKids (addKid nd x) l = addKids nd (x :: l) := by
  unfold addKids addKid
  simp [Nd.name, Nd.attrs, Nd.text, Nd.kids]
/-- Whether no p is open, and whether the innermost li, ul or ol is a li. -/
def noP : List Nd → Prop
  | [] => True
  | [_] => True
  | nd :: m :: r => nd.name ≠ [112] ∧ noP (m :: r)
def itemR : List Nd → Bool
  | [] => false
  | [_] => false
  | nd :: m :: r => if nd.name = [108, 105] then true else if nd.name = [117, 108] ∨ nd.name = [111, 108] then false else itemR (m :: r)
theorem noP_same {a b : Nd} {q : List Nd} (h : a.name = b.name) : noP (a :: q) ↔ noP (b :: q) := by
  cases q with
  | nil => exact Iff.rfl
  | cons c q => simp only [noP, h]
theorem item_same {a b : Nd} {q : List Nd} (h : a.name = b.name) : itemR (a :: q) = itemR (b :: q) := by
  cases q with
  | nil => rfl
  | cons c q => simp only [itemR, h]
theorem inner_noP : ∀ r : List Nd, noP r → innerR [[112]] r = 0
  | [], _ => rfl
  | [_], _ => by simp [innerR]
  | nd :: m :: r, h => by
    rw [innerR, if_neg (by simp), if_neg (by simpa using h.1)]
    exact inner_noP (m :: r) h.2
theorem inner_item : ∀ r : List Nd, r.getLast?.map Nd.name = some [] → itemR r = false → (r.reverse[innerR [[108, 105], [117, 108], [111, 108]] r]?.map Nd.name) ≠ some [108, 105]
  | [], h, _ => by cases h
  | [x], h, _ => by
    have h : some x.name = some [] := by simpa using h
    have e : innerR [[108, 105], [117, 108], [111, 108]] [x] = 0 := by simp [innerR]
    rw [e]
    show some x.name ≠ _
    rw [h]
    simp
  | nd :: m :: r, h, hi => by
    rw [innerR, if_neg (by simp)]
    rw [itemR] at hi
    by_cases h1 : nd.name ∈ [[108, 105], [117, 108], [111, 108]]
    · rw [if_pos h1, List.reverse_cons, List.getElem?_append_right (by simp)]
      simp only [List.length_reverse, Nat.sub_self, List.getElem?_cons_zero, Option.map_some]
      intro e
      have e : nd.name = [108, 105] := by simpa using e
      rw [if_pos e] at hi
      cases hi
    · rw [if_neg h1, List.reverse_cons]
      have hn1 : nd.name ≠ [108, 105] := fun e => h1 (by rw [e]; decide)
      have hn2 : ¬ (nd.name = [117, 108] ∨ nd.name = [111, 108]) := by
        rintro (e | e)
        · exact h1 (by rw [e]; decide)
        · exact h1 (by rw [e]; decide)
      rw [if_neg hn1, if_neg hn2] at hi
      have hlt : innerR [[108, 105], [117, 108], [111, 108]] (m :: r) < (m :: r).length := innerR_lt _ _ (by simp)
      rw [List.getElem?_append_left (by rw [List.length_reverse]; exact hlt)]
      refine inner_item (m :: r) ?_ hi
      rw [List.getLast?_cons_cons] at h
      exact h
/-- A start that closes nothing. -/
theorem way_none {name : List UInt8} {r : List Nd} {t : List UInt8} (hroot : r.getLast?.map Nd.name = some []) (h1 : name ∈ blocks → noP r) (h2 : name = [108, 105] → itemR r = false) : wayR name r t = (r, t) := by
  unfold wayR
  by_cases hb : name ∈ blocks
  · rw [if_pos hb]
    have hc : closeIn [[112]] r t = (r, t) := by
      unfold closeIn
      rw [inner_noP r (h1 hb), if_neg (by omega)]
    by_cases hl : name = [108, 105]
    · rw [if_pos hl, hc]
      simp only
      rw [if_neg (inner_item r hroot (h2 hl))]
    · rw [if_neg hl, hc]
  · rw [if_neg hb]

theorem end_top (n : List UInt8) (x y : Nd) (q : List Nd) (t : List UInt8) (o m : Nat) (hx : x.name = n) : endB n ⟨x :: y :: q, t, o, m⟩ = ⟨addKid y (textIn x t) :: q, [], o, m⟩ := by
  have hi : innerR [n] (x :: y :: q) = (y :: q).length := by
    rw [innerR, if_neg (by simp), if_pos (by simp [hx])]
  unfold endB
  simp only [hi]
  rw [if_pos (by simp)]
  unfold shutB
  have : (x :: y :: q).length - (y :: q).length = 1 := by simp
  simp only [this]
  rfl

mutual
theorem run_nd : ∀ (x : Nd) (p i b : Bool) (nd : Nd) (q : List Nd) (t : List UInt8) (o m : Nat) (y : List Td), stN p i b x = true → (b = false → t = []) → (nd :: q).getLast?.map Nd.name = some [] → (p = false → noP (nd :: q)) → (i = false → itemR (nd :: q) = false) → o ≤ 64 → m + ncN x ≤ 2000 → q.length + dpN x ≤ 64 →
    ∃ nd' t' o', runB (tdN x ++ y) ⟨nd :: q, t, o, m⟩ = runB y ⟨nd' :: q, t', o', m + ncN x⟩ ∧ o' ≤ 64 ∧ nd'.name = nd.name ∧ textIn nd' t' = addKid (textIn nd t) x ∧ (x.name ≠ [] → t' = [])
  | .mk n a tx k, p, i, b, nd, q, t, o, m, y, h, hbt, hroot, hp, hi, ho, hm, hd => by
    by_cases hn : n = []
    · obtain ⟨h1, h2, h3, h4⟩ := stN_text hn h
      have ht := hbt h2
      subst hn
      subst h3
      subst h4
      subst ht
      have hnc : ncN (.mk [] [] tx []) = 1 := by rw [ncN]; rfl
      rw [hnc] at hm ⊢
      have hk : takeB ⟨1, [], [], tx⟩ ⟨nd :: q, [], o, m⟩ = ⟨nd :: q, tx, o, m + 1⟩ := by
        unfold takeB textB
        rw [if_pos rfl]
        have : newT [] tx = 1 := by unfold newT; rw [if_pos ⟨rfl, h1⟩]
        simp only [this, List.nil_append]
      refine ⟨nd, tx, o, ?_, ho, rfl, ?_, fun e => absurd rfl e⟩
      · rw [tdN, if_pos rfl]
        show runB (⟨1, [], [], tx⟩ :: y) _ = _
        rw [runB, hk, if_pos ⟨ho, hm⟩]
      · unfold textIn
        rw [if_neg h1, if_pos rfl]
    · obtain ⟨h1, h2, h3, h4, h5, h6⟩ := stN_elem hn h
      rw [Bool.or_eq_false_iff, Bool.and_eq_false_iff, Bool.and_eq_false_iff] at h4
      subst h1
      have hw : wayR n (nd :: q) t = (nd :: q, t) := by
        refine way_none hroot (fun hb => ?_) (fun hl => ?_)
        · rcases h4.1 with hp' | hb'
          · exact hp hp'
          · exact absurd hb (of_decide_eq_false hb')
        · rcases h4.2 with hi' | hl'
          · exact hi hi'
          · exact absurd hl (of_decide_eq_false hl')
      have hnc : ncN (.mk n a [] k) = 1 + ncL k := by rw [ncN]
      have hdp : dpN (.mk n a [] k) = dpL k + 1 := by rw [dpN, if_neg hn]
      rw [hdp] at hd
      by_cases hv : n ∈ voids
      · have hk0 := h5 hv
        subst hk0
        have hst : startB n a ⟨nd :: q, t, o, m⟩ = ⟨addKid (textIn nd t) (.mk n a [] []) :: q, [], o, m + 1⟩ := by
          unfold startB startR
          rw [if_neg hn]
          simp only [hw]
          rw [if_pos hv]
        have hk : takeB ⟨2, n, a, []⟩ ⟨nd :: q, t, o, m⟩ = ⟨addKid (textIn nd t) (.mk n a [] []) :: q, [], o, m + 1⟩ := by
          unfold takeB
          rw [if_neg (show ¬ ((2 : Int) = 1) by decide), if_pos rfl]
          exact hst
        have hnc1 : ncN (.mk n a [] []) = 1 := by rw [ncN]; rfl
        rw [hnc1] at hm ⊢
        refine ⟨addKid (textIn nd t) (.mk n a [] []), [], o, ?_, ho, ?_, ?_, fun _ => rfl⟩
        · rw [tdN, if_neg hn, if_pos hv]
          show runB (⟨2, n, a, []⟩ :: y) _ = _
          rw [runB, hk, if_pos ⟨ho, hm⟩]
        · rw [addKid_root, textIn_name]
        · unfold textIn
          rw [if_pos rfl]
      · have hst : startB n a ⟨nd :: q, t, o, m⟩ = ⟨.mk n a [] [] :: textIn nd t :: q, [], max o (q.length + 1), m + 1⟩ := by
          unfold startB startR
          rw [if_neg hn]
          simp only [hw]
          rw [if_neg hv]
        have hk : takeB ⟨2, n, a, []⟩ ⟨nd :: q, t, o, m⟩ = ⟨.mk n a [] [] :: textIn nd t :: q, [], max o (q.length + 1), m + 1⟩ := by
          unfold takeB
          rw [if_neg (show ¬ ((2 : Int) = 1) by decide), if_pos rfl]
          exact hst
        have ho1 : max o (q.length + 1) ≤ 64 := by omega
        rw [hnc] at hm ⊢
        obtain ⟨nd2, t2, o2, e1, e2, e3, e4⟩ := run_nl k (p || decide (n = [112])) (itm i n) false (.mk n a [] []) (textIn nd t :: q) [] (max o (q.length + 1)) (m + 1) (⟨3, n, [], []⟩ :: y) (h6 hv) (fun _ => rfl)
          (by rw [List.getLast?_cons_cons]; rw [last_name (textIn_name nd t)]; exact hroot)
          (by
            intro hp'
            rw [Bool.or_eq_false_iff] at hp'
            exact ⟨of_decide_eq_false hp'.2, (noP_same (textIn_name nd t)).2 (hp hp'.1)⟩)
          (by
            intro hi'
            rw [itemR]
            unfold itm at hi'
            show (if n = [108, 105] then true else if n = [117, 108] ∨ n = [111, 108] then false else itemR (textIn nd t :: q)) = false
            by_cases hl : n = [108, 105]
            · rw [if_pos hl] at hi'
              cases hi'
            · rw [if_neg hl] at hi' ⊢
              by_cases hu : n = [117, 108] ∨ n = [111, 108]
              · rw [if_pos hu]
              · rw [if_neg hu] at hi' ⊢
                rw [item_same (textIn_name nd t)]
                exact hi hi')
          ho1 (by omega) (by rw [List.length_cons]; omega)
        have hx : textIn nd2 t2 = .mk n a [] k := by
          rw [e4]
          unfold textIn
          rw [if_pos rfl]
          rfl
        have hk2 : takeB ⟨3, n, [], []⟩ ⟨nd2 :: textIn nd t :: q, t2, o2, m + 1 + ncL k⟩ = ⟨addKid (textIn nd t) (.mk n a [] k) :: q, [], o2, m + 1 + ncL k⟩ := by
          unfold takeB
          rw [if_neg (show ¬ ((3 : Int) = 1) by decide), if_neg (show ¬ ((3 : Int) = 2) by decide), if_pos rfl, ← hx]
          exact end_top n nd2 (textIn nd t) q t2 o2 _ e3
        refine ⟨addKid (textIn nd t) (.mk n a [] k), [], o2, ?_, e2, ?_, ?_, fun _ => rfl⟩
        · rw [tdN, if_neg hn, if_neg hv]
          have : ⟨2, n, a, []⟩ :: (tdL k ++ [⟨3, n, [], []⟩]) ++ y = ⟨2, n, a, []⟩ :: (tdL k ++ (⟨3, n, [], []⟩ :: y)) := by simp
          rw [this, runB, hk, if_pos ⟨ho1, by show m + 1 ≤ 2000; omega⟩, e1, runB, hk2, if_pos ⟨e2, by show m + 1 + ncL k ≤ 2000; omega⟩]
          rw [show m + 1 + ncL k = m + (1 + ncL k) by omega]
        · rw [addKid_root, textIn_name]
        · unfold textIn
          rw [if_pos rfl]
theorem run_nl : ∀ (l : List Nd) (p i b : Bool) (nd : Nd) (q : List Nd) (t : List UInt8) (o m : Nat) (y : List Td), stL p i b l = true → (b = false → t = []) → (nd :: q).getLast?.map Nd.name = some [] → (p = false → noP (nd :: q)) → (i = false → itemR (nd :: q) = false) → o ≤ 64 → m + ncL l ≤ 2000 → q.length + dpL l ≤ 64 →
    ∃ nd' t' o', runB (tdL l ++ y) ⟨nd :: q, t, o, m⟩ = runB y ⟨nd' :: q, t', o', m + ncL l⟩ ∧ o' ≤ 64 ∧ nd'.name = nd.name ∧ textIn nd' t' = addKids (textIn nd t) l
  | [], p, i, b, nd, q, t, o, m, y, _, _, _, _, _, ho, _, _ => ⟨nd, t, o, by rw [tdL, ncL]; rfl, ho, rfl, by rw [addKids_nil]⟩
  | x :: l, p, i, b, nd, q, t, o, m, y, h, hbt, hroot, hp, hi, ho, hm, hd => by
    obtain ⟨h1, h2⟩ := stL_cons h
    rw [ncL] at hm ⊢
    rw [dpL] at hd
    obtain ⟨nd1, t1, o1, e1, e2, e3, e4, e5⟩ := run_nd x p i b nd q t o m (tdL l ++ y) h1 hbt hroot hp hi ho (by omega) (by omega)
    obtain ⟨nd2, t2, o2, f1, f2, f3, f4⟩ := run_nl l p i (decide (x.name = [])) nd1 q t1 o1 (m + ncN x) y h2 (fun hx => e5 (of_decide_eq_false hx)) (by rw [last_name e3]; exact hroot) (fun hp' => (noP_same e3).2 (hp hp')) (fun hi' => by rw [item_same e3]; exact hi hi') e2 (by omega) (by omega)
    refine ⟨nd2, t2, o2, ?_, f2, f3.trans e3, ?_⟩
    · rw [tdL, List.append_assoc, e1, f1, Nat.add_assoc]
    · rw [f4, e4, addKids_cons]
end
/-- What is built of a stable tree's tokens is it. -/
theorem build_stable {ns : List Nd} (h : stable ns = true) : buildB (tdL ns) = some ns := by
  unfold stable at h
  rw [Bool.and_eq_true, Bool.and_eq_true] at h
  obtain ⟨⟨h1, h2⟩, h3⟩ := h
  have h1 := of_decide_eq_true h1
  have h2 := of_decide_eq_true h2
  obtain ⟨nd', t', o', e1, e2, e3, e4⟩ := run_nl ns false false false (.mk [] [] [] []) [] [] 0 0 [] h3 (fun _ => rfl) rfl (fun _ => trivial) (fun _ => rfl) (by omega) (by omega) (by simpa using h2)
  rw [List.append_nil] at e1
  unfold buildB bs0
  rw [e1, runB]
  show some (treeB _) = _
  unfold treeB shutB
  simp only [List.length_cons, List.length_nil, Nat.zero_add, Nat.sub_self]
  show some (textIn nd' t').kids = _
  rw [e4]
  unfold textIn addKids
  rw [if_pos rfl]
  rfl
end Go.Proofs.YtholfdfjapgfbabGreatDoor.Dm

/-
  A tree that was built is one that can be read alone; tokens that were read are tokens that are taken; what is built of a page.
-/
namespace Utf1
/-- A token, as the tree's builder takes it. -/
def toTd (k : Tk) : Td := ⟨(k.kind : Int), k.name, k.attrs, k.text⟩
mutual
theorem tdN_map : ∀ x : Nd, (tkN x).map toTd = tdN x
  | .mk n a t k => by
    rw [tkN, tdN]
    by_cases hn : n = []
    · rw [if_pos hn, if_pos hn]
      rfl
    · rw [if_neg hn, if_neg hn]
      by_cases hv : n ∈ voids
      · rw [if_pos hv, if_pos hv]
        rfl
      · rw [if_neg hv, if_neg hv, List.map_cons, List.map_append, tdL_map k]
        rfl
theorem tdL_map : ∀ l : List Nd, (tkL l).map toTd = tdL l
  | [] => by rw [tkL, tdL]; rfl
  | x :: l => by rw [tkL, tdL, List.map_append, tdN_map x, tdL_map l]
end
theorem wsL_mem : ∀ {l : List Nd} {i : Nat} {x : Nd}, l[i]? = some x → wsN x ≤ wsL l
  | [], i, x, h => by simp at h
  | y :: l, 0, x, h => by
    have : y = x := by simpa using h
    rw [this, wsL]
    omega
  | y :: l, i + 1, x, h => by
    have := wsL_mem (l := l) (i := i) (x := x) (by simpa using h)
    rw [wsL]
    omega
theorem waL_mem : ∀ {l : List (List UInt8 × List UInt8)} {i : Nat} {x : List UInt8 × List UInt8}, l[i]? = some x → 1 + x.1.length + x.2.length ≤ waL l
  | [], i, x, h => by simp at h
  | y :: l, 0, x, h => by
    have : y = x := by simpa using h
    rw [this, waL]
    omega
  | y :: l, i + 1, x, h => by
    have := waL_mem (l := l) (i := i) (x := x) (by simpa using h)
    rw [waL]
    omega
/-- How much text tokens have. -/
def tdSum : List Td → Nat
  | [] => 0
  | k :: r => k.text.length + tdSum r
theorem tdSum_app : ∀ a b, tdSum (a ++ b) = tdSum a + tdSum b
  | [], b => by simp [tdSum]
  | k :: a, b => by
    rw [List.cons_append, tdSum, tdSum, tdSum_app a b]
    omega
mutual
theorem tdSum_N : ∀ x : Nd, tdSum (tdN x) ≤ wsN x
  | .mk n a t k => by
    rw [tdN, wsN]
    by_cases hn : n = []
    · rw [if_pos hn]
      show t.length + 0 ≤ _
      omega
    · rw [if_neg hn]
      by_cases hv : n ∈ voids
      · rw [if_pos hv]
        show 0 + 0 ≤ _
        omega
      · rw [if_neg hv]
        show 0 + tdSum (tdL k ++ [⟨3, n, [], []⟩]) ≤ _
        rw [tdSum_app]
        have := tdSum_L k
        show 0 + (_ + (0 + 0)) ≤ _
        omega
theorem tdSum_L : ∀ l : List Nd, tdSum (tdL l) ≤ wsL l
  | [] => by rw [tdL]; exact Nat.zero_le _
  | x :: l => by
    rw [tdL, wsL, tdSum_app]
    have := tdSum_N x
    have := tdSum_L l
    omega
end
mutual
theorem tk_N : ∀ (x : Nd), ∀ k ∈ tkN x, waL k.attrs ≤ wsN x ∧ k.name.length ≤ wsN x
  | .mk n a t kk, k, h => by
    rw [tkN] at h
    rw [wsN]
    by_cases hn : n = []
    · rw [if_pos hn] at h
      have : k = ⟨1, [], [], false, t⟩ := by simpa using h
      subst this
      exact ⟨Nat.zero_le _, Nat.zero_le _⟩
    · rw [if_neg hn] at h
      rcases List.mem_cons.1 h with rfl | h
      · exact ⟨by show waL a ≤ _; omega, by show n.length ≤ _; omega⟩
      · by_cases hv : n ∈ voids
        · rw [if_pos hv] at h
          cases h
        · rw [if_neg hv] at h
          rcases List.mem_append.1 h with h | h
          · have := tk_L kk k h
            omega
          · have : k = ⟨3, n, [], false, []⟩ := by simpa using h
            subst this
            exact ⟨Nat.zero_le _, by show n.length ≤ _; omega⟩
theorem tk_L : ∀ (l : List Nd), ∀ k ∈ tkL l, waL k.attrs ≤ wsL l ∧ k.name.length ≤ wsL l
  | [], k, h => by rw [tkL] at h; cases h
  | x :: l, k, h => by
    rw [tkL] at h
    rw [wsL]
    rcases List.mem_append.1 h with h | h
    · have := tk_N x k h
      omega
    · have := tk_L l k h
      omega
end
mutual
theorem tk_lenN : ∀ x : Nd, (tkN x).length ≤ 2 * ncN x
  | .mk n a t k => by
    rw [tkN, ncN]
    by_cases hn : n = []
    · rw [if_pos hn]
      simp
      omega
    · rw [if_neg hn]
      by_cases hv : n ∈ voids
      · rw [if_pos hv]
        simp
        omega
      · rw [if_neg hv]
        have := tk_lenL k
        simp
        omega
theorem tk_lenL : ∀ l : List Nd, (tkL l).length ≤ 2 * ncL l
  | [] => by rw [tkL]; exact Nat.zero_le _
  | x :: l => by
    rw [tkL, ncL, List.length_append]
    have := tk_lenN x
    have := tk_lenL l
    omega
end
end Utf1
namespace Go.Proofs.YtholfdfjapgfbabGreatDoor.Dm
open Go.RowKit
open Utf1

theorem attr_two : ∀ (l : List (List UInt8 × List UInt8)) (i : Nat) (p : List UInt8 × List UInt8), l[i]? = some p → (attrCells l)[i * 2]? = some (.string ⟨p.1.toArray⟩) ∧ (attrCells l)[i * 2 + 1]? = some (.string ⟨p.2.toArray⟩)
  | [], i, p, h => by simp at h
  | q :: r, 0, p, h => by
    have : q = p := by simpa using h
    subst this
    exact ⟨rfl, rfl⟩
  | q :: r, i + 1, p, h => by
    have h' : r[i]? = some p := by simpa using h
    rw [show (i + 1) * 2 = i * 2 + 1 + 1 by omega]
    exact attr_two r i p h'
theorem attr_same : ∀ l, attrCells l = _root_.Go.Proofs.YtholfdfjapgfbabGreatDoor.attrCells l
  | [] => rfl
  | p :: r => by
    show _ :: _ :: attrCells r = _ :: _ :: _root_.Go.Proofs.YtholfdfjapgfbabGreatDoor.attrCells r
    rw [attr_same r]
/-- An owned row of attributes, read alone. -/
theorem arow_own {w : World} {B n : Nat} {v : Value} {a : List (List UInt8 × List UInt8)} (h : w.ownsRow B 24 2 v n (attrCells a)) (hn : n = a.length) (hb : waL a ≤ 1000000) : ∃ p c, v = .slice p n c ∧ ARow w p n a := by
  obtain ⟨p, c, rfl⟩ := own_len h
  refine ⟨p, c, rfl, ⟨hn, own_most h⟩, ?_⟩
  intro i kv hi
  have hil := (List.getElem?_eq_some_iff.1 hi).1
  obtain ⟨g, c', e, hcell⟩ := own_at h (by omega)
  injection e with e1
  have h2 := attr_two a i kv hi
  have hw := waL_mem hi
  refine ⟨g, 0, e1, ?_, ?_, by omega, by omega⟩
  · rw [Nat.zero_add, hcell _ (by omega)]; exact h2.1
  · rw [Nat.zero_add, hcell _ (by omega)]; exact h2.2
/-- What is read of a node of a row that was built. -/
theorem kat_node {w : World} {base : Nat} {v : Value} {ns : List Nd} {fp : List Nat} (h : KAt w base v ns fp) : ∃ p c, v = .slice p ns.length c ∧ ∀ i nd, ns[i]? = some nd → ∃ g av kp km kc f, p = some ⟨g, 0, none⟩ ∧ w.cell? ⟨g, i * 4, none⟩ = some (.string ⟨nd.name.toArray⟩) ∧ w.cell? ⟨g, i * 4 + 1, none⟩ = some av ∧ w.cell? ⟨g, i * 4 + 2, none⟩ = some (.string ⟨nd.text.toArray⟩) ∧ w.cell? ⟨g, i * 4 + 3, none⟩ = some (.slice kp km kc) ∧ KAt w base (.slice kp km kc) nd.kids f ∧ w.ownsRow base 24 2 av nd.attrs.length (attrCells nd.attrs) := by
  obtain ⟨l, f, rfl, rfl, hro, hall⟩ := kat_inv h
  obtain ⟨p, c, rfl⟩ := own_len hro
  refine ⟨p, c, by rw [List.length_map], ?_⟩
  intro i nd hi
  rw [List.getElem?_map] at hi
  cases hp : l[i]? with
  | none => rw [hp] at hi; cases hi
  | some q =>
    rw [hp] at hi
    have e : q.1 = nd := by simpa using hi
    have hil : i < l.length := (List.getElem?_eq_some_iff.1 hp).1
    obtain ⟨g, cap, e2, hcell⟩ := own_at hro (by omega)
    cases e2
    have hd : l = l.take i ++ q :: l.drop (i + 1) := by
      have h1 := List.take_append_drop i l
      rw [← List.getElem_cons_drop hil, (List.getElem?_eq_some_iff.1 hp).2] at h1
      exact h1.symm
    rw [hd] at hall
    obtain ⟨fa, fb, _, _, h2⟩ := kall_split hall
    obtain ⟨nd', av, kv⟩ := q
    subst e
    generalize hz : (nd', av, kv) :: l.drop (i + 1) = z at h2
    cases h2 with
    | nil => cases hz
    | cons n2 av2 kv2 l2 f2 fps2 ha2 hk2 hl2 =>
      cases hz
      obtain ⟨k, fk, _, _, hrk, _⟩ := kat_inv hk2
      obtain ⟨kp, km, kc, rfl⟩ := own_slice hrk
      have hat := fun j hj => (hcell (i * 4 + j) (by omega)).trans (ndCells_at l i _ hp j hj)
      exact ⟨g, av, kp, km, kc, f2, rfl, hat 0 (by decide), hat 1 (by decide), hat 2 (by decide), hat 3 (by decide), hk2, ha2⟩
theorem kat_nat {w : World} {base : Nat} : ∀ (M : Nat) (v : Value) (ns : List Nd) (fp : List Nat), ncL ns ≤ M → wsL ns ≤ 1000000 → KAt w base v ns fp → NAtD w (M + 1) v ns := by
  intro M
  induction M using Nat.strongRecOn with
  | _ M ih =>
  intro v ns fp hM hw hk
  obtain ⟨p, c, rfl, hn⟩ := kat_node hk
  refine ⟨p, c, rfl, by have := nc_len ns; have := ncL_ws ns; omega, ?_⟩
  intro i nd hi
  obtain ⟨g, av, kp, km, kc, f, hp, x0, x1, x2, x3, hkk, hat⟩ := hn i nd hi
  have hws := wsL_mem hi
  rw [wsN_kids] at hws
  obtain ⟨ap, ac, rfl, har⟩ := arow_own hat rfl (by omega)
  have hnc : ncN nd ≤ ncL ns := by
    have hmem : nd ∈ ns := List.mem_of_getElem? hi
    obtain ⟨a, b, rfl⟩ := List.append_of_mem hmem
    rw [ncL_app, ncL]
    omega
  rw [ncN_kids] at hnc
  have := ih (M - 1) (by omega) (.slice kp km kc) nd.kids f (by omega) (by omega) hkk
  refine ⟨g, 0, ap, _, ac, kp, km, kc, hp, ?_, ?_, ?_, ?_, ⟨by omega, by omega⟩, har, this.more (by omega)⟩
  · rw [Nat.zero_add]; exact x0
  · rw [Nat.zero_add]; exact x1
  · rw [Nat.zero_add]; exact x2
  · rw [Nat.zero_add]; exact x3

theorem toksCells_at : ∀ (l : List (Tk × Value)) (i : Nat) (p : Tk × Value), l[i]? = some p → ∀ j, j < 5 → (toksCells l)[i * 5 + j]? = (tokCells p.1 p.2)[j]?
  | [], i, p, h, _, _ => by simp at h
  | q :: r, 0, p, h, j, hj => by
    have : q = p := by simpa using h
    subst this
    show (tokCells q.1 q.2 ++ toksCells r)[0 * 5 + j]? = _
    rw [show 0 * 5 + j = j by omega, List.getElem?_append_left (by simp [tokCells]; omega)]
  | q :: r, i + 1, p, h, j, hj => by
    have h' : r[i]? = some p := by simpa using h
    show (tokCells q.1 q.2 ++ toksCells r)[(i + 1) * 5 + j]? = _
    rw [List.getElem?_append_right (by simp [tokCells]; omega), show (i + 1) * 5 + j - (tokCells q.1 q.2).length = i * 5 + j by simp [tokCells]; omega]
    exact toksCells_at r i p h' j hj

/-- Tokens that were read, as tokens that are taken. -/
theorem tok_row {w : World} {B : Nat} {v : Value} {l : List (Tk × Value)} (h : ToksAt w B v l) (hwa : ∀ q ∈ l, waL q.1.attrs ≤ 1000000) : ∃ l' : List Te, TokRow w v l' ∧ l'.map Prod.fst = (l.map Prod.fst).map toTd ∧ l'.length = l.length ∧ ∀ e ∈ l', AttrRow w e.2.1.1 e.2.1.2.1 e.1.attrs := by
  have key : ∀ q ∈ l, ∃ p m c, q.2 = .slice p m c := fun q hq => own_slice (h.2 q hq)
  obtain ⟨F, hF⟩ : ∃ F : Tk × Value → Option Addr × Nat × Nat, ∀ q ∈ l, q.2 = .slice (F q).1 (F q).2.1 (F q).2.2 :=
    ⟨fun q => match q.2 with
      | .slice p m c => (p, m, c)
      | _ => (none, 0, 0), fun q hq => by
        obtain ⟨p, m, c, e⟩ := key q hq
        simp only [e]⟩
  refine ⟨l.map (fun q => (toTd q.1, F q, q.1.closed)), ?_, ?_, by simp, ?_⟩
  · obtain ⟨p, c, rfl⟩ := own_len h.1
    refine ⟨p, c, by rw [List.length_map], ?_⟩
    intro i e he
    rw [List.getElem?_map] at he
    cases hq : l[i]? with
    | none => rw [hq] at he; cases he
    | some q =>
      rw [hq] at he
      have e1 : (toTd q.1, F q, q.1.closed) = e := by simpa using he
      subst e1
      have hil := (List.getElem?_eq_some_iff.1 hq).1
      obtain ⟨g, c', e2, hcell⟩ := own_at h.1 (by omega)
      injection e2 with e3
      have hat := fun j hj => (hcell (i * 5 + j) (by omega)).trans (toksCells_at l i q hq j hj)
      have h2 := hat 2 (by decide)
      have h2' : w.cell? ⟨g, i * 5 + 2, none⟩ = some q.2 := h2
      rw [hF q (List.mem_of_getElem? hq)] at h2'
      refine ⟨g, 0, e3, ?_, ?_, ?_, ?_, ?_⟩
      · rw [Nat.zero_add]; exact hat 0 (by decide)
      · rw [Nat.zero_add]; exact hat 1 (by decide)
      · rw [Nat.zero_add]; exact h2'
      · rw [Nat.zero_add]; exact hat 3 (by decide)
      · rw [Nat.zero_add]; exact hat 4 (by decide)
  · rw [List.map_map, List.map_map]
    rfl
  · intro e he
    obtain ⟨q, hq, rfl⟩ := List.mem_map.1 he
    have h1 := h.2 q hq
    rw [hF q hq] at h1
    rw [← attr_same] at h1
    obtain ⟨p, c, e2⟩ := own_len h1
    injection e2 with e3 e4
    refine ⟨e4, ?_⟩
    intro i kv hi
    have hil := (List.getElem?_eq_some_iff.1 hi).1
    have hil : i < q.1.attrs.length := hil
    obtain ⟨g, c', e5, hcell⟩ := own_at h1 (by omega)
    injection e5 with e6
    have h2 := attr_two q.1.attrs i kv hi
    have hw1 := hwa q hq
    have hw2 := waL_mem (l := q.1.attrs) hi
    refine ⟨g, 0, e6, ?_, ?_, by omega, by omega⟩
    · rw [Nat.zero_add, hcell _ (by omega)]; exact h2.1
    · rw [Nat.zero_add, hcell _ (by omega)]; exact h2.2
theorem textSum_td : ∀ l : List Te, textSum l = tdSum (l.map Prod.fst)
  | [] => rfl
  | e :: r => by rw [textSum, List.map_cons, tdSum, textSum_td r]
/-- What is built of a stable tree's tokens. -/
theorem build_page (w : World) (B : Nat) (v : Value) (l : List (Tk × Value)) (ns : List Nd) (h : ToksAt w B v l) (hl : l.map Prod.fst = tkL ns) (hs : stable ns = true) (hw : wsL ns ≤ 20000) :
    Calls Tryz.prog 5 #[v] w fun e w' => (∃ r, e = .returned (.tuple #[r, .int .i64 0]) ∧ NAt w' r ns) ∧ Below w.heap.size w w' := by
  have hq : ∀ q ∈ l, waL q.1.attrs ≤ wsL ns ∧ q.1.name.length ≤ wsL ns := fun q hq => tk_L ns q.1 (by rw [← hl]; exact List.mem_map.2 ⟨q, hq, rfl⟩)
  obtain ⟨l', h1, h2, h3, h4⟩ := tok_row h (fun q hq' => by have := (hq q hq').1; omega)
  have h5 : l'.map Prod.fst = tdL ns := by rw [h2, hl, tdL_map]
  have hlen : l'.length ≤ 40000 := by
    have e := congrArg List.length hl
    rw [List.length_map] at e
    have := tk_lenL ns
    have := ncL_ws ns
    omega
  have hmem : ∀ e ∈ l', waL e.1.attrs ≤ wsL ns ∧ e.1.name.length ≤ wsL ns := by
    intro e he
    have : e.1 ∈ (l.map Prod.fst).map toTd := by rw [← h2]; exact List.mem_map.2 ⟨e, he, rfl⟩
    obtain ⟨k, hk, e1⟩ := List.mem_map.1 this
    rw [hl] at hk
    have := tk_L ns k hk
    rw [← e1]
    exact this
  refine (build_st w v l' h1 (by omega) (by rw [textSum_td, h5]; have := tdSum_L ns; omega) (fun e he => by have := (hmem e he).2; omega) ?_).mono ?_
  · intro e he
    have ha := h4 e he
    refine clones_any w _ _ _ _ ha ?_
    have := (hmem e he).1
    have := wa_len e.1.attrs
    have := ha.1
    omega
  · rintro e w' ⟨r, err, rfl, hE, hb⟩
    obtain ⟨rfl, fp, hk⟩ := hE.2 ns (by rw [h5]; exact build_stable hs)
    exact ⟨⟨r, rfl, _, kat_nat (ncL ns) r ns fp (Nat.le_refl _) (by omega) hk⟩, hb⟩
end Go.Proofs.YtholfdfjapgfbabGreatDoor.Dm

/-
  The law SerValue, walked: it answers true at every value and every text.
-/
namespace Utf1
/-- An element with one attribute and a text. -/
def valN (v t : List UInt8) : List Nd := [.mk [98] [([105, 100], v)] [] [.mk [] [] t []]]
theorem val_ws (v t : List UInt8) : wsL (valN v t) = 6 + v.length + t.length := by
  show wsN (.mk [98] [([105, 100], v)] [] [.mk [] [] t []]) + 0 = _
  rw [wsN_kids]
  show 1 + 1 + 0 + (1 + 2 + v.length + 0) + (wsN (.mk [] [] t []) + 0) + 0 = _
  rw [wsN_kids]
  show 1 + 1 + 0 + (1 + 2 + v.length + 0) + (1 + 0 + t.length + 0 + 0 + 0) + 0 = _
  omega
theorem val_nc (v t : List UInt8) : ncL (valN v t) = 2 := rfl
theorem val_st (v t : List UInt8) (h : t ≠ []) : stable (valN v t) = true := by
  have h1 : ncL (valN v t) = 2 := rfl
  have h2 : dpL (valN v t) = 1 := rfl
  have h3 : stL false false false (valN v t) = true := by
    show (stN false false false (.mk [98] [([105, 100], v)] [] [.mk [] [] t []]) && true) = true
    rw [Bool.and_true, stN_kids]
    show (if ([98] : List UInt8) = [] then _ else _) = true
    rw [if_neg (by decide)]
    show (true && mayE [98] && mayA [([105, 100], v)] && !((false && decide (([98] : List UInt8) ∈ blocks)) || (false && decide (([98] : List UInt8) = [108, 105]))) && (if ([98] : List UInt8) ∈ voids then _ else stL (false || decide (([98] : List UInt8) = [112])) (itm false [98]) false [.mk [] [] t []])) = true
    have a1 : mayE [98] = true := by decide +kernel
    have a2 : mayA [([105, 100], v)] = true := by
      unfold mayA
      have e1 : isNmL [45, 95, 58] [105, 100] = true := by decide +kernel
      simp [e1]
    have a3 : ([98] : List UInt8) ∉ voids := by decide +kernel
    have a4 : stL (false || decide (([98] : List UInt8) = [112])) (itm false [98]) false [.mk [] [] t []] = true := by
      show (stN _ _ false (.mk [] [] t []) && true) = true
      rw [Bool.and_true, stN_kids]
      show (if ([] : List UInt8) = [] then _ else _) = true
      rw [if_pos rfl]
      show (!t.isEmpty && !false && true && true) = true
      cases t with
      | nil => exact absurd rfl h
      | cons => rfl
    rw [a1, a2, if_neg a3, a4]
    rfl
  unfold stable
  rw [h1, h2, h3]
  rfl
end Utf1
namespace Go.Proofs.YtholfdfjapgfbabGreatDoor.Dm
open Go.RowKit
open Utf1

theorem nat_val {w wa wb wc : World} (v t : ByteArray) (hv : v.size ≤ 1000) (ht : t.size ≤ 1000) (hwa : wa = w.alloc (.cells #[.string ⟨#[105, 100]⟩, .string v] 24)) (hwb : wb = wa.alloc (.cells #[.string ⟨#[]⟩, .slice none 0 0, .string t, .slice none 0 0] 28)) (hwc : wc = wb.alloc (.cells #[.string ⟨#[98]⟩, .slice (some ⟨w.heap.size, 0, none⟩) 1 1, .string ⟨#[]⟩, .slice (some ⟨w.heap.size + 1, 0, none⟩) 1 1] 28)) :
    NAt wc (.slice (some ⟨w.heap.size + 1 + 1, 0, none⟩) 1 1) (valN (bl v) (bl t)) ∧ Below w.heap.size w wc := by
  have sa : wa.heap.size = w.heap.size + 1 := by rw [hwa]; simp
  have sb : wb.heap.size = w.heap.size + 1 + 1 := by rw [hwb]; simp [sa]
  have ba : Below w.heap.size w wa := by rw [hwa]; exact (Below.refl _ _).alloc (Nat.le_refl _) _
  have bb : Below wa.heap.size wa wb := by rw [hwb]; exact (Below.refl _ _).alloc (Nat.le_refl _) _
  have bc : Below wb.heap.size wb wc := by rw [hwc]; exact (Below.refl _ _).alloc (Nat.le_refl _) _
  have ca : ∀ j u, (#[.string ⟨#[105, 100]⟩, .string v] : Array Value)[j]? = some u → wc.cell? ⟨w.heap.size, j, none⟩ = some u := fun j u h => cell_keep (cell_keep (by rw [hwa, new_cell]; exact h) bb) bc
  have cb : ∀ j u, (#[.string ⟨#[]⟩, .slice none 0 0, .string t, .slice none 0 0] : Array Value)[j]? = some u → wc.cell? ⟨w.heap.size + 1, j, none⟩ = some u := fun j u h => cell_keep (by rw [hwb, ← sa, new_cell]; exact h) bc
  have cc : ∀ j u, (#[.string ⟨#[98]⟩, .slice (some ⟨w.heap.size, 0, none⟩) 1 1, .string ⟨#[]⟩, .slice (some ⟨w.heap.size + 1, 0, none⟩) 1 1] : Array Value)[j]? = some u → wc.cell? ⟨w.heap.size + 1 + 1, j, none⟩ = some u := fun j u h => by rw [hwc, ← sb, new_cell]; exact h
  have hkids : NAtD wc 2 (.slice (some ⟨w.heap.size + 1, 0, none⟩) 1 1) [.mk [] [] (bl t) []] := by
    refine natD_row (ns := [.mk [] [] (bl t) []]) (by simp) ?_
    intro i nd hi
    match i, hi with
    | 0, hi =>
      have : Nd.mk [] [] (bl t) [] = nd := by simpa using hi
      subst this
      exact node_leaf (by decide) (by rw [bl_len]; omega) (cb 0 _ rfl) (cb 1 _ rfl) (cb 2 _ rfl) (cb 3 _ rfl)
    | i + 1, hi => simp at hi
  refine ⟨⟨3, natD_row (ns := valN (bl v) (bl t)) (by simp [valN]) ?_⟩, bel2 (bel2 ba bb) bc⟩
  intro i nd hi
  match i, hi with
  | 0, hi =>
    have : Nd.mk [98] [([105, 100], bl v)] [] [.mk [] [] (bl t) []] = nd := by simpa [valN] using hi
    subst this
    exact ⟨_, _, _, _, _, _, cc 0 _ rfl, cc 1 _ rfl, cc 2 _ rfl, cc 3 _ rfl, ⟨by simp [Nd.name], by simp [Nd.text]⟩, arow_one (by decide) (by rw [bl_len]; omega) (ca 0 _ rfl) (ca 1 _ rfl), hkids⟩
  | i + 1, hi => simp [valN] at hi

set_option maxRecDepth 100000 in
set_option maxHeartbeats 8000000 in
theorem lawSValue_walk (v t : ByteArray) (w : World) (hg : Glob w) (hgm : GlobM w) :
    Calls Tryz.prog 3 #[.string v, .string t] w fun e w' => e = .returned (.bool true) ∧ Below w.heap.size w w' := by
  have HG : Hid (∀ wx, Below w.heap.size w wx → Glob wx ∧ GlobM wx) := hide (by
    intro wx hx
    obtain ⟨x, y, h⟩ := hg
    obtain ⟨m, h2⟩ := hgm
    exact ⟨⟨x, y, cell_keep h hx⟩, ⟨m, cell_keep h2 hx⟩⟩)
  clear hg hgm
  go_enter Tryz.func3, Tryz.ntmps3
  go_wp2_with fail
  refine (awake_nst _).mono ?_
  rintro e w1 ⟨rfl, hb1⟩
  have HB1 := hide hb1
  clear hb1
  by_cases h1 : 1000 < v.size
  · go_wp2_with fail
    all_goals
      go_ret
      exact ⟨rfl, HB1.out⟩
  by_cases h2 : t.size < 1
  · go_wp2_with fail
    all_goals
      go_ret
      exact ⟨rfl, HB1.out⟩
  by_cases h3 : 1000 < t.size
  · go_wp2_with fail
    all_goals
      go_ret
      exact ⟨rfl, HB1.out⟩
  have hv : v.size ≤ 1000 := by omega
  have ht : t.size ≤ 1000 := by omega
  have htn : bl t ≠ [] := by
    intro h
    apply h2
    rw [← bl_len, h]
    decide
  obtain ⟨wa, hwa⟩ : ∃ wa, wa = w1.alloc (.cells #[.string ⟨#[105, 100]⟩, .string v] 24) := ⟨_, rfl⟩
  obtain ⟨wb, hwb⟩ : ∃ wb, wb = wa.alloc (.cells #[.string ⟨#[]⟩, .slice none 0 0, .string t, .slice none 0 0] 28) := ⟨_, rfl⟩
  obtain ⟨wc, hwc⟩ : ∃ wc, wc = wb.alloc (.cells #[.string ⟨#[98]⟩, .slice (some ⟨w1.heap.size, 0, none⟩) 1 1, .string ⟨#[]⟩, .slice (some ⟨w1.heap.size + 1, 0, none⟩) 1 1] 28) := ⟨_, rfl⟩
  obtain ⟨hN, hbc⟩ := nat_val v t hv ht hwa hwb hwc
  have hwc2 : wc = ((w1.alloc (.cells #[.string ⟨#[105, 100]⟩, .string v] 24)).alloc (.cells #[.string ⟨#[]⟩, .slice none 0 0, .string t, .slice none 0 0] 28)).alloc (.cells #[.string ⟨#[98]⟩, .slice (some ⟨w1.heap.size, 0, none⟩) 1 1, .string ⟨#[]⟩, .slice (some ⟨w1.heap.size + 1, 0, none⟩) 1 1] 28) := by rw [hwc, hwb, hwa]
  have HN := hide hN
  have HBC := hide (bel2 HB1.out hbc)
  have HST := hide (val_st (bl v) (bl t) htn)
  have hws := val_ws (bl v) (bl t)
  rw [bl_len, bl_len] at hws
  have HWS : Hid (wsL (valN (bl v) (bl t)) ≤ 20000) := hide (by omega)
  have HNC := hide (val_nc (bl v) (bl t))
  obtain ⟨ns, hns⟩ : ∃ ns, ns = valN (bl v) (bl t) := ⟨_, rfl⟩
  rw [← hns] at HN HST HWS HNC
  have HHL : Hid ((htL ns).length ≤ 1000000) := hide (by have := htL_len ns; have := HWS.out; omega)
  have HH1 := hide (html_nst wc _ ns HN.out (by have := HHL.out; omega))
  clear hN hbc hns hws hwa hwb hwc htn HB1
  go_wp2_with fail
  rw [← hwc2]
  clear hwc2
  refine HH1.out.mono ?_
  rintro e w5 ⟨⟨O, rfl, hO⟩, hb5⟩
  have HB5 := hide (bel2 HBC.out hb5)
  have HN5 := hide (HN.out.below hb5)
  have hOs : O.size ≤ 1000000 := by rw [← bl_len, hO]; exact HHL.out
  have HT5 := hide (tokens_any O w5 (by omega) (HG.out w5 HB5.out).1 (HG.out w5 HB5.out).2)
  have HO := hide hO
  clear hb5 hO HH1 HBC HN
  go_wp2_with fail
  refine HT5.out.mono ?_
  rintro e w6 ⟨tv, l, rfl, hl, htk, hb6⟩
  have HB6 := hide (bel2 HB5.out hb6)
  have HN6 := hide (HN5.out.below hb6)
  have HBP := hide (build_page w6 _ tv l ns htk (by rw [hl, HO.out]; exact toks_stable HST.out) HST.out HWS.out)
  obtain ⟨p, c, rfl⟩ := own_len htk.1
  clear hb6 hl htk HT5 HB5 HO HN5
  go_wp2_with fail
  refine HBP.out.mono ?_
  rintro e w7 ⟨⟨r, rfl, hr⟩, hb7⟩
  have HB7 := hide (bel2 HB6.out hb7)
  have HN7 := hide (HN6.out.below hb7)
  obtain ⟨D1, hD1⟩ := hr
  obtain ⟨D2, hD2⟩ := HN7.out
  have HSM := hide (same_nst (max D1 D2) w7 r _ ns ns (hD1.more (by omega)) (hD2.more (by omega)))
  rw [(sameL_iff ns ns).2 rfl] at HSM
  clear hb7 hD1 hD2 HBP HB6 HN6
  go_wp2_with fail
  refine HSM.out.mono ?_
  rintro e w8 ⟨rfl, hw8⟩
  have HB8 : Hid (Below w.heap.size w w8 ∧ Below w7.heap.size w7 w8) := hide (by
    obtain ⟨m, rfl⟩ := hw8
    exact ⟨bel2 HB7.out (bel_drewN _ _), bel_drewN _ _⟩)
  have HS9 := hide (stable_nst w8 _ ns (HN7.out.below HB8.out.2) (by rw [HNC.out]; decide))
  rw [HST.out] at HS9
  clear hw8 HSM HB7
  go_wp2_with fail
  refine HS9.out.mono ?_
  rintro e w9 ⟨rfl, hb9⟩
  have HB9 := hide (bel2 HB8.out.1 hb9)
  clear hb9 HS9
  go_wp2_with fail
  go_ret
  exact ⟨rfl, HB9.out⟩
end Go.Proofs.YtholfdfjapgfbabGreatDoor.Dm
