/-
  A stable tree, built of its own tokens, is itself.
-/
import Derived.Test.YtholfdfjapgfbaaGreatDoorNB
import Derived.Test.YtholfdfjapgfbaaGreatDoorGZ
import Derived.Test.YtholfdfjapgfbaaGreatDoorBB
import Derived.Test.YtholfdfjapgfbaaGreatDoorNA
import Derived.SliceStrings
import Derived.OpenShut
import Derived.SizedLaws

namespace Utf1
mutual
/-- The tokens of a node, as the tree's builder takes them. -/
def tdN : Nd → List Td
  | .mk n a t k => if n = [] then [⟨1, [], [], t⟩] else ⟨2, n, a, []⟩ :: (if n ∈ voids then [] else tdL k ++ [⟨3, n, [], []⟩])
def tdL : List Nd → List Td
  | [] => []
  | n :: r => tdN n ++ tdL r
end
end Utf1
namespace Go.Proofs.YtholfdfjapgfbaaGreatDoor.Dm
open Go.RowKit
open Utf1

def addKids (nd : Nd) (l : List Nd) : Nd := .mk nd.name nd.attrs nd.text (nd.kids ++ l)
theorem addKids_nil (nd : Nd) : addKids nd [] = nd := by
  cases nd
  simp [addKids, Nd.name, Nd.attrs, Nd.text, Nd.kids]
theorem addKids_cons (nd x : Nd) (l : List Nd) : addKids (addKid nd x) l = addKids nd (x :: l) := by
  unfold addKids addKid
  simp [Nd.name, Nd.attrs, Nd.text, Nd.kids]
/-- Whether no p is open, and whether the innermost li, ul or ol is a li. -/
def noP : List Nd → Prop
  | [] => True
  | [_] => True
  | nd :: m :: r => nd.name ≠ [112] ∧ noP (m :: r)
def itemR : List Nd → Bool
  | [] => false
  | [_] => false
  | nd :: m :: r => if nd.name = [108, 105] then true else if nd.name = [117, 108] ∨ nd.name = [111, 108] then false else itemR (m :: r)
theorem noP_same {a b : Nd} {q : List Nd} (h : a.name = b.name) : noP (a :: q) ↔ noP (b :: q) := by
  cases q with
  | nil => exact Iff.rfl
  | cons c q => simp only [noP, h]
theorem item_same {a b : Nd} {q : List Nd} (h : a.name = b.name) : itemR (a :: q) = itemR (b :: q) := by
  cases q with
  | nil => rfl
  | cons c q => simp only [itemR, h]
theorem inner_noP : ∀ r : List Nd, noP r → innerR [[112]] r = 0
  | [], _ => rfl
  | [_], _ => by simp [innerR]
  | nd :: m :: r, h => by
    rw [innerR, if_neg (by simp), if_neg (by simpa using h.1)]
    exact inner_noP (m :: r) h.2
theorem inner_item : ∀ r : List Nd, r.getLast?.map Nd.name = some [] → itemR r = false → (r.reverse[innerR [[108, 105], [117, 108], [111, 108]] r]?.map Nd.name) ≠ some [108, 105]
  | [], h, _ => by cases h
  | [x], h, _ => by
    have h : some x.name = some [] := by simpa using h
    have e : innerR [[108, 105], [117, 108], [111, 108]] [x] = 0 := by simp [innerR]
    rw [e]
    show some x.name ≠ _
    rw [h]
    simp
  | nd :: m :: r, h, hi => by
    rw [innerR, if_neg (by simp)]
    rw [itemR] at hi
    by_cases h1 : nd.name ∈ [[108, 105], [117, 108], [111, 108]]
    · rw [if_pos h1, List.reverse_cons, List.getElem?_append_right (by simp)]
      simp only [List.length_reverse, Nat.sub_self, List.getElem?_cons_zero, Option.map_some]
      intro e
      have e : nd.name = [108, 105] := by simpa using e
      rw [if_pos e] at hi
      cases hi
    · rw [if_neg h1, List.reverse_cons]
      have hn1 : nd.name ≠ [108, 105] := fun e => h1 (by rw [e]; decide)
      have hn2 : ¬ (nd.name = [117, 108] ∨ nd.name = [111, 108]) := by
        rintro (e | e)
        · exact h1 (by rw [e]; decide)
        · exact h1 (by rw [e]; decide)
      rw [if_neg hn1, if_neg hn2] at hi
      have hlt : innerR [[108, 105], [117, 108], [111, 108]] (m :: r) < (m :: r).length := innerR_lt _ _ (by simp)
      rw [List.getElem?_append_left (by rw [List.length_reverse]; exact hlt)]
      refine inner_item (m :: r) ?_ hi
      rw [List.getLast?_cons_cons] at h
      exact h
/-- A start that closes nothing. -/
theorem way_none {name : List UInt8} {r : List Nd} {t : List UInt8} (hroot : r.getLast?.map Nd.name = some []) (h1 : name ∈ blocks → noP r) (h2 : name = [108, 105] → itemR r = false) : wayR name r t = (r, t) := by
  unfold wayR
  by_cases hb : name ∈ blocks
  · rw [if_pos hb]
    have hc : closeIn [[112]] r t = (r, t) := by
      unfold closeIn
      rw [inner_noP r (h1 hb), if_neg (by omega)]
    by_cases hl : name = [108, 105]
    · rw [if_pos hl, hc]
      simp only
      rw [if_neg (inner_item r hroot (h2 hl))]
    · rw [if_neg hl, hc]
  · rw [if_neg hb]

theorem end_top (n : List UInt8) (x y : Nd) (q : List Nd) (t : List UInt8) (o m : Nat) (hx : x.name = n) : endB n ⟨x :: y :: q, t, o, m⟩ = ⟨addKid y (textIn x t) :: q, [], o, m⟩ := by
  have hi : innerR [n] (x :: y :: q) = (y :: q).length := by
    rw [innerR, if_neg (by simp), if_pos (by simp [hx])]
  unfold endB
  simp only [hi]
  rw [if_pos (by simp)]
  unfold shutB
  have : (x :: y :: q).length - (y :: q).length = 1 := by simp
  simp only [this]
  rfl

mutual
theorem run_nd : ∀ (x : Nd) (p i b : Bool) (nd : Nd) (q : List Nd) (t : List UInt8) (o m : Nat) (y : List Td), stN p i b x = true → (b = false → t = []) → (nd :: q).getLast?.map Nd.name = some [] → (p = false → noP (nd :: q)) → (i = false → itemR (nd :: q) = false) → o ≤ 64 → m + ncN x ≤ 2000 → q.length + dpN x ≤ 64 →
    ∃ nd' t' o', runB (tdN x ++ y) ⟨nd :: q, t, o, m⟩ = runB y ⟨nd' :: q, t', o', m + ncN x⟩ ∧ o' ≤ 64 ∧ nd'.name = nd.name ∧ textIn nd' t' = addKid (textIn nd t) x ∧ (x.name ≠ [] → t' = [])
  | .mk n a tx k, p, i, b, nd, q, t, o, m, y, h, hbt, hroot, hp, hi, ho, hm, hd => by
    by_cases hn : n = []
    · obtain ⟨h1, h2, h3, h4⟩ := stN_text hn h
      have ht := hbt h2
      subst hn
      subst h3
      subst h4
      subst ht
      have hnc : ncN (.mk [] [] tx []) = 1 := by rw [ncN]; rfl
      rw [hnc] at hm ⊢
      have hk : takeB ⟨1, [], [], tx⟩ ⟨nd :: q, [], o, m⟩ = ⟨nd :: q, tx, o, m + 1⟩ := by
        unfold takeB textB
        rw [if_pos rfl]
        have : newT [] tx = 1 := by unfold newT; rw [if_pos ⟨rfl, h1⟩]
        simp only [this, List.nil_append]
      refine ⟨nd, tx, o, ?_, ho, rfl, ?_, fun e => absurd rfl e⟩
      · rw [tdN, if_pos rfl]
        show runB (⟨1, [], [], tx⟩ :: y) _ = _
        rw [runB, hk, if_pos ⟨ho, hm⟩]
      · unfold textIn
        rw [if_neg h1, if_pos rfl]
    · obtain ⟨h1, h2, h3, h4, h5, h6⟩ := stN_elem hn h
      rw [Bool.or_eq_false_iff, Bool.and_eq_false_iff, Bool.and_eq_false_iff] at h4
      subst h1
      have hw : wayR n (nd :: q) t = (nd :: q, t) := by
        refine way_none hroot (fun hb => ?_) (fun hl => ?_)
        · rcases h4.1 with hp' | hb'
          · exact hp hp'
          · exact absurd hb (of_decide_eq_false hb')
        · rcases h4.2 with hi' | hl'
          · exact hi hi'
          · exact absurd hl (of_decide_eq_false hl')
      have hnc : ncN (.mk n a [] k) = 1 + ncL k := by rw [ncN]
      have hdp : dpN (.mk n a [] k) = dpL k + 1 := by rw [dpN, if_neg hn]
      rw [hdp] at hd
      by_cases hv : n ∈ voids
      · have hk0 := h5 hv
        subst hk0
        have hst : startB n a ⟨nd :: q, t, o, m⟩ = ⟨addKid (textIn nd t) (.mk n a [] []) :: q, [], o, m + 1⟩ := by
          unfold startB startR
          rw [if_neg hn]
          simp only [hw]
          rw [if_pos hv]
        have hk : takeB ⟨2, n, a, []⟩ ⟨nd :: q, t, o, m⟩ = ⟨addKid (textIn nd t) (.mk n a [] []) :: q, [], o, m + 1⟩ := by
          unfold takeB
          rw [if_neg (show ¬ ((2 : Int) = 1) by decide), if_pos rfl]
          exact hst
        have hnc1 : ncN (.mk n a [] []) = 1 := by rw [ncN]; rfl
        rw [hnc1] at hm ⊢
        refine ⟨addKid (textIn nd t) (.mk n a [] []), [], o, ?_, ho, ?_, ?_, fun _ => rfl⟩
        · rw [tdN, if_neg hn, if_pos hv]
          show runB (⟨2, n, a, []⟩ :: y) _ = _
          rw [runB, hk, if_pos ⟨ho, hm⟩]
        · rw [addKid_root, textIn_name]
        · unfold textIn
          rw [if_pos rfl]
      · have hst : startB n a ⟨nd :: q, t, o, m⟩ = ⟨.mk n a [] [] :: textIn nd t :: q, [], max o (q.length + 1), m + 1⟩ := by
          unfold startB startR
          rw [if_neg hn]
          simp only [hw]
          rw [if_neg hv]
        have hk : takeB ⟨2, n, a, []⟩ ⟨nd :: q, t, o, m⟩ = ⟨.mk n a [] [] :: textIn nd t :: q, [], max o (q.length + 1), m + 1⟩ := by
          unfold takeB
          rw [if_neg (show ¬ ((2 : Int) = 1) by decide), if_pos rfl]
          exact hst
        have ho1 : max o (q.length + 1) ≤ 64 := by omega
        rw [hnc] at hm ⊢
        obtain ⟨nd2, t2, o2, e1, e2, e3, e4⟩ := run_nl k (p || decide (n = [112])) (itm i n) false (.mk n a [] []) (textIn nd t :: q) [] (max o (q.length + 1)) (m + 1) (⟨3, n, [], []⟩ :: y) (h6 hv) (fun _ => rfl)
          (by rw [List.getLast?_cons_cons]; rw [last_name (textIn_name nd t)]; exact hroot)
          (by
            intro hp'
            rw [Bool.or_eq_false_iff] at hp'
            exact ⟨of_decide_eq_false hp'.2, (noP_same (textIn_name nd t)).2 (hp hp'.1)⟩)
          (by
            intro hi'
            rw [itemR]
            unfold itm at hi'
            show (if n = [108, 105] then true else if n = [117, 108] ∨ n = [111, 108] then false else itemR (textIn nd t :: q)) = false
            by_cases hl : n = [108, 105]
            · rw [if_pos hl] at hi'
              cases hi'
            · rw [if_neg hl] at hi' ⊢
              by_cases hu : n = [117, 108] ∨ n = [111, 108]
              · rw [if_pos hu]
              · rw [if_neg hu] at hi' ⊢
                rw [item_same (textIn_name nd t)]
                exact hi hi')
          ho1 (by omega) (by rw [List.length_cons]; omega)
        have hx : textIn nd2 t2 = .mk n a [] k := by
          rw [e4]
          unfold textIn
          rw [if_pos rfl]
          rfl
        have hk2 : takeB ⟨3, n, [], []⟩ ⟨nd2 :: textIn nd t :: q, t2, o2, m + 1 + ncL k⟩ = ⟨addKid (textIn nd t) (.mk n a [] k) :: q, [], o2, m + 1 + ncL k⟩ := by
          unfold takeB
          rw [if_neg (show ¬ ((3 : Int) = 1) by decide), if_neg (show ¬ ((3 : Int) = 2) by decide), if_pos rfl, ← hx]
          exact end_top n nd2 (textIn nd t) q t2 o2 _ e3
        refine ⟨addKid (textIn nd t) (.mk n a [] k), [], o2, ?_, e2, ?_, ?_, fun _ => rfl⟩
        · rw [tdN, if_neg hn, if_neg hv]
          have : ⟨2, n, a, []⟩ :: (tdL k ++ [⟨3, n, [], []⟩]) ++ y = ⟨2, n, a, []⟩ :: (tdL k ++ (⟨3, n, [], []⟩ :: y)) := by simp
          rw [this, runB, hk, if_pos ⟨ho1, by show m + 1 ≤ 2000; omega⟩, e1, runB, hk2, if_pos ⟨e2, by show m + 1 + ncL k ≤ 2000; omega⟩]
          rw [show m + 1 + ncL k = m + (1 + ncL k) by omega]
        · rw [addKid_root, textIn_name]
        · unfold textIn
          rw [if_pos rfl]
theorem run_nl : ∀ (l : List Nd) (p i b : Bool) (nd : Nd) (q : List Nd) (t : List UInt8) (o m : Nat) (y : List Td), stL p i b l = true → (b = false → t = []) → (nd :: q).getLast?.map Nd.name = some [] → (p = false → noP (nd :: q)) → (i = false → itemR (nd :: q) = false) → o ≤ 64 → m + ncL l ≤ 2000 → q.length + dpL l ≤ 64 →
    ∃ nd' t' o', runB (tdL l ++ y) ⟨nd :: q, t, o, m⟩ = runB y ⟨nd' :: q, t', o', m + ncL l⟩ ∧ o' ≤ 64 ∧ nd'.name = nd.name ∧ textIn nd' t' = addKids (textIn nd t) l
  | [], p, i, b, nd, q, t, o, m, y, _, _, _, _, _, ho, _, _ => ⟨nd, t, o, by rw [tdL, ncL]; rfl, ho, rfl, by rw [addKids_nil]⟩
  | x :: l, p, i, b, nd, q, t, o, m, y, h, hbt, hroot, hp, hi, ho, hm, hd => by
    obtain ⟨h1, h2⟩ := stL_cons h
    rw [ncL] at hm ⊢
    rw [dpL] at hd
    obtain ⟨nd1, t1, o1, e1, e2, e3, e4, e5⟩ := run_nd x p i b nd q t o m (tdL l ++ y) h1 hbt hroot hp hi ho (by omega) (by omega)
    obtain ⟨nd2, t2, o2, f1, f2, f3, f4⟩ := run_nl l p i (decide (x.name = [])) nd1 q t1 o1 (m + ncN x) y h2 (fun hx => e5 (of_decide_eq_false hx)) (by rw [last_name e3]; exact hroot) (fun hp' => (noP_same e3).2 (hp hp')) (fun hi' => by rw [item_same e3]; exact hi hi') e2 (by omega) (by omega)
    refine ⟨nd2, t2, o2, ?_, f2, f3.trans e3, ?_⟩
    · rw [tdL, List.append_assoc, e1, f1, Nat.add_assoc]
    · rw [f4, e4, addKids_cons]
end
/-- What is built of a stable tree's tokens is it. -/
theorem build_stable {ns : List Nd} (h : stable ns = true) : buildB (tdL ns) = some ns := by
  unfold stable at h
  rw [Bool.and_eq_true, Bool.and_eq_true] at h
  obtain ⟨⟨h1, h2⟩, h3⟩ := h
  have h1 := of_decide_eq_true h1
  have h2 := of_decide_eq_true h2
  obtain ⟨nd', t', o', e1, e2, e3, e4⟩ := run_nl ns false false false (.mk [] [] [] []) [] [] 0 0 [] h3 (fun _ => rfl) rfl (fun _ => trivial) (fun _ => rfl) (by omega) (by omega) (by simpa using h2)
  rw [List.append_nil] at e1
  unfold buildB bs0
  rw [e1, runB]
  show some (treeB _) = _
  unfold treeB shutB
  simp only [List.length_cons, List.length_nil, Nat.zero_add, Nat.sub_self]
  show some (textIn nd' t').kids = _
  rw [e4]
  unfold textIn addKids
  rw [if_pos rfl]
  rfl
end Go.Proofs.YtholfdfjapgfbaaGreatDoor.Dm

/-
  A tree that was built is one that can be read alone; tokens that were read are tokens that are taken; what is built of a page.
-/
namespace Utf1
/-- A token, as the tree's builder takes it. -/
def toTd (k : Tk) : Td := ⟨(k.kind : Int), k.name, k.attrs, k.text⟩
mutual
theorem tdN_map : ∀ x : Nd, (tkN x).map toTd = tdN x
  | .mk n a t k => by
    rw [tkN, tdN]
    by_cases hn : n = []
    · rw [if_pos hn, if_pos hn]
      rfl
    · rw [if_neg hn, if_neg hn]
      by_cases hv : n ∈ voids
      · rw [if_pos hv, if_pos hv]
        rfl
      · rw [if_neg hv, if_neg hv, List.map_cons, List.map_append, tdL_map k]
        rfl
theorem tdL_map : ∀ l : List Nd, (tkL l).map toTd = tdL l
  | [] => by rw [tkL, tdL]; rfl
  | x :: l => by rw [tkL, tdL, List.map_append, tdN_map x, tdL_map l]
end
theorem wsL_mem : ∀ {l : List Nd} {i : Nat} {x : Nd}, l[i]? = some x → wsN x ≤ wsL l
  | [], i, x, h => by simp at h
  | y :: l, 0, x, h => by
    have : y = x := by simpa using h
    rw [this, wsL]
    omega
  | y :: l, i + 1, x, h => by
    have := wsL_mem (l := l) (i := i) (x := x) (by simpa using h)
    rw [wsL]
    omega
theorem waL_mem : ∀ {l : List (List UInt8 × List UInt8)} {i : Nat} {x : List UInt8 × List UInt8}, l[i]? = some x → 1 + x.1.length + x.2.length ≤ waL l
  | [], i, x, h => by simp at h
  | y :: l, 0, x, h => by
    have : y = x := by simpa using h
    rw [this, waL]
    omega
  | y :: l, i + 1, x, h => by
    have := waL_mem (l := l) (i := i) (x := x) (by simpa using h)
    rw [waL]
    omega
/-- How much text tokens have. -/
def tdSum : List Td → Nat
  | [] => 0
  | k :: r => k.text.length + tdSum r
theorem tdSum_app : ∀ a b, tdSum (a ++ b) = tdSum a + tdSum b
  | [], b => by simp [tdSum]
  | k :: a, b => by
    rw [List.cons_append, tdSum, tdSum, tdSum_app a b]
    omega
mutual
theorem tdSum_N : ∀ x : Nd, tdSum (tdN x) ≤ wsN x
  | .mk n a t k => by
    rw [tdN, wsN]
    by_cases hn : n = []
    · rw [if_pos hn]
      show t.length + 0 ≤ _
      omega
    · rw [if_neg hn]
      by_cases hv : n ∈ voids
      · rw [if_pos hv]
        show 0 + 0 ≤ _
        omega
      · rw [if_neg hv]
        show 0 + tdSum (tdL k ++ [⟨3, n, [], []⟩]) ≤ _
        rw [tdSum_app]
        have := tdSum_L k
        show 0 + (_ + (0 + 0)) ≤ _
        omega
theorem tdSum_L : ∀ l : List Nd, tdSum (tdL l) ≤ wsL l
  | [] => by rw [tdL]; exact Nat.zero_le _
  | x :: l => by
    rw [tdL, wsL, tdSum_app]
    have := tdSum_N x
    have := tdSum_L l
    omega
end
mutual
theorem tk_N : ∀ (x : Nd), ∀ k ∈ tkN x, waL k.attrs ≤ wsN x ∧ k.name.length ≤ wsN x
  | .mk n a t kk, k, h => by
    rw [tkN] at h
    rw [wsN]
    by_cases hn : n = []
    · rw [if_pos hn] at h
      have : k = ⟨1, [], [], false, t⟩ := by simpa using h
      subst this
      exact ⟨Nat.zero_le _, Nat.zero_le _⟩
    · rw [if_neg hn] at h
      rcases List.mem_cons.1 h with rfl | h
      · exact ⟨by show waL a ≤ _; omega, by show n.length ≤ _; omega⟩
      · by_cases hv : n ∈ voids
        · rw [if_pos hv] at h
          cases h
        · rw [if_neg hv] at h
          rcases List.mem_append.1 h with h | h
          · have := tk_L kk k h
            omega
          · have : k = ⟨3, n, [], false, []⟩ := by simpa using h
            subst this
            exact ⟨Nat.zero_le _, by show n.length ≤ _; omega⟩
theorem tk_L : ∀ (l : List Nd), ∀ k ∈ tkL l, waL k.attrs ≤ wsL l ∧ k.name.length ≤ wsL l
  | [], k, h => by rw [tkL] at h; cases h
  | x :: l, k, h => by
    rw [tkL] at h
    rw [wsL]
    rcases List.mem_append.1 h with h | h
    · have := tk_N x k h
      omega
    · have := tk_L l k h
      omega
end
mutual
theorem tk_lenN : ∀ x : Nd, (tkN x).length ≤ 2 * ncN x
  | .mk n a t k => by
    rw [tkN, ncN]
    by_cases hn : n = []
    · rw [if_pos hn]
      simp
      omega
    · rw [if_neg hn]
      by_cases hv : n ∈ voids
      · rw [if_pos hv]
        simp
        omega
      · rw [if_neg hv]
        have := tk_lenL k
        simp
        omega
theorem tk_lenL : ∀ l : List Nd, (tkL l).length ≤ 2 * ncL l
  | [] => by rw [tkL]; exact Nat.zero_le _
  | x :: l => by
    rw [tkL, ncL, List.length_append]
    have := tk_lenN x
    have := tk_lenL l
    omega
end
end Utf1
namespace Go.Proofs.YtholfdfjapgfbaaGreatDoor.Dm
open Go.RowKit
open Utf1

theorem attr_two : ∀ (l : List (List UInt8 × List UInt8)) (i : Nat) (p : List UInt8 × List UInt8), l[i]? = some p → (attrCells l)[i * 2]? = some (.string ⟨p.1.toArray⟩) ∧ (attrCells l)[i * 2 + 1]? = some (.string ⟨p.2.toArray⟩)
  | [], i, p, h => by simp at h
  | q :: r, 0, p, h => by
    have : q = p := by simpa using h
    subst this
    exact ⟨rfl, rfl⟩
  | q :: r, i + 1, p, h => by
    have h' : r[i]? = some p := by simpa using h
    rw [show (i + 1) * 2 = i * 2 + 1 + 1 by omega]
    exact attr_two r i p h'
theorem attr_same : ∀ l, attrCells l = _root_.Go.Proofs.YtholfdfjapgfbaaGreatDoor.attrCells l
  | [] => rfl
  | p :: r => by
    show _ :: _ :: attrCells r = _ :: _ :: _root_.Go.Proofs.YtholfdfjapgfbaaGreatDoor.attrCells r
    rw [attr_same r]
/-- An owned row of attributes, read alone. -/
theorem arow_own {w : World} {B n : Nat} {v : Value} {a : List (List UInt8 × List UInt8)} (h : w.ownsRow B 38 2 v n (attrCells a)) (hn : n = a.length) (hb : waL a ≤ 1000000) : ∃ p c, v = .slice p n c ∧ ARow w p n a := by
  obtain ⟨p, c, rfl⟩ := own_len h
  refine ⟨p, c, rfl, ⟨hn, own_most h⟩, ?_⟩
  intro i kv hi
  have hil := (List.getElem?_eq_some_iff.1 hi).1
  obtain ⟨g, c', e, hcell⟩ := own_at h (by omega)
  injection e with e1
  have h2 := attr_two a i kv hi
  have hw := waL_mem hi
  refine ⟨g, 0, e1, ?_, ?_, by omega, by omega⟩
  · rw [Nat.zero_add, hcell _ (by omega)]; exact h2.1
  · rw [Nat.zero_add, hcell _ (by omega)]; exact h2.2
/-- What is read of a node of a row that was built. -/
theorem kat_node {w : World} {base : Nat} {v : Value} {ns : List Nd} {fp : List Nat} (h : KAt w base v ns fp) : ∃ p c, v = .slice p ns.length c ∧ ∀ i nd, ns[i]? = some nd → ∃ g av kp km kc f, p = some ⟨g, 0, none⟩ ∧ w.cell? ⟨g, i * 4, none⟩ = some (.string ⟨nd.name.toArray⟩) ∧ w.cell? ⟨g, i * 4 + 1, none⟩ = some av ∧ w.cell? ⟨g, i * 4 + 2, none⟩ = some (.string ⟨nd.text.toArray⟩) ∧ w.cell? ⟨g, i * 4 + 3, none⟩ = some (.slice kp km kc) ∧ KAt w base (.slice kp km kc) nd.kids f ∧ w.ownsRow base 38 2 av nd.attrs.length (attrCells nd.attrs) := by
  obtain ⟨l, f, rfl, rfl, hro, hall⟩ := kat_inv h
  obtain ⟨p, c, rfl⟩ := own_len hro
  refine ⟨p, c, by rw [List.length_map], ?_⟩
  intro i nd hi
  rw [List.getElem?_map] at hi
  cases hp : l[i]? with
  | none => rw [hp] at hi; cases hi
  | some q =>
    rw [hp] at hi
    have e : q.1 = nd := by simpa using hi
    have hil : i < l.length := (List.getElem?_eq_some_iff.1 hp).1
    obtain ⟨g, cap, e2, hcell⟩ := own_at hro (by omega)
    cases e2
    have hd : l = l.take i ++ q :: l.drop (i + 1) := by
      have h1 := List.take_append_drop i l
      rw [← List.getElem_cons_drop hil, (List.getElem?_eq_some_iff.1 hp).2] at h1
      exact h1.symm
    rw [hd] at hall
    obtain ⟨fa, fb, _, _, h2⟩ := kall_split hall
    obtain ⟨nd', av, kv⟩ := q
    subst e
    generalize hz : (nd', av, kv) :: l.drop (i + 1) = z at h2
    cases h2 with
    | nil => cases hz
    | cons n2 av2 kv2 l2 f2 fps2 ha2 hk2 hl2 =>
      cases hz
      obtain ⟨k, fk, _, _, hrk, _⟩ := kat_inv hk2
      obtain ⟨kp, km, kc, rfl⟩ := own_slice hrk
      have hat := fun j hj => (hcell (i * 4 + j) (by omega)).trans (ndCells_at l i _ hp j hj)
      exact ⟨g, av, kp, km, kc, f2, rfl, hat 0 (by decide), hat 1 (by decide), hat 2 (by decide), hat 3 (by decide), hk2, ha2⟩
theorem kat_nat {w : World} {base : Nat} : ∀ (M : Nat) (v : Value) (ns : List Nd) (fp : List Nat), ncL ns ≤ M → wsL ns ≤ 1000000 → KAt w base v ns fp → NAtD w (M + 1) v ns := by
  intro M
  induction M using Nat.strongRecOn with
  | _ M ih =>
  intro v ns fp hM hw hk
  obtain ⟨p, c, rfl, hn⟩ := kat_node hk
  refine ⟨p, c, rfl, by have := nc_len ns; have := ncL_ws ns; omega, ?_⟩
  intro i nd hi
  obtain ⟨g, av, kp, km, kc, f, hp, x0, x1, x2, x3, hkk, hat⟩ := hn i nd hi
  have hws := wsL_mem hi
  rw [wsN_kids] at hws
  obtain ⟨ap, ac, rfl, har⟩ := arow_own hat rfl (by omega)
  have hnc : ncN nd ≤ ncL ns := by
    have hmem : nd ∈ ns := List.mem_of_getElem? hi
    obtain ⟨a, b, rfl⟩ := List.append_of_mem hmem
    rw [ncL_app, ncL]
    omega
  rw [ncN_kids] at hnc
  have := ih (M - 1) (by omega) (.slice kp km kc) nd.kids f (by omega) (by omega) hkk
  refine ⟨g, 0, ap, _, ac, kp, km, kc, hp, ?_, ?_, ?_, ?_, ⟨by omega, by omega⟩, har, this.more (by omega)⟩
  · rw [Nat.zero_add]; exact x0
  · rw [Nat.zero_add]; exact x1
  · rw [Nat.zero_add]; exact x2
  · rw [Nat.zero_add]; exact x3

theorem toksCells_at : ∀ (l : List (Tk × Value)) (i : Nat) (p : Tk × Value), l[i]? = some p → ∀ j, j < 5 → (toksCells l)[i * 5 + j]? = (tokCells p.1 p.2)[j]?
  | [], i, p, h, _, _ => by simp at h
  | q :: r, 0, p, h, j, hj => by
    have : q = p := by simpa using h
    subst this
    show (tokCells q.1 q.2 ++ toksCells r)[0 * 5 + j]? = _
    rw [show 0 * 5 + j = j by omega, List.getElem?_append_left (by simp [tokCells]; omega)]
  | q :: r, i + 1, p, h, j, hj => by
    have h' : r[i]? = some p := by simpa using h
    show (tokCells q.1 q.2 ++ toksCells r)[(i + 1) * 5 + j]? = _
    rw [List.getElem?_append_right (by simp [tokCells]; omega), show (i + 1) * 5 + j - (tokCells q.1 q.2).length = i * 5 + j by simp [tokCells]; omega]
    exact toksCells_at r i p h' j hj

/-- Tokens that were read, as tokens that are taken. -/
theorem tok_row {w : World} {B : Nat} {v : Value} {l : List (Tk × Value)} (h : ToksAt w B v l) (hwa : ∀ q ∈ l, waL q.1.attrs ≤ 1000000) : ∃ l' : List Te, TokRow w v l' ∧ l'.map Prod.fst = (l.map Prod.fst).map toTd ∧ l'.length = l.length ∧ ∀ e ∈ l', AttrRow w e.2.1.1 e.2.1.2.1 e.1.attrs := by
  have key : ∀ q ∈ l, ∃ p m c, q.2 = .slice p m c := fun q hq => own_slice (h.2 q hq)
  obtain ⟨F, hF⟩ : ∃ F : Tk × Value → Option Addr × Nat × Nat, ∀ q ∈ l, q.2 = .slice (F q).1 (F q).2.1 (F q).2.2 :=
    ⟨fun q => match q.2 with
      | .slice p m c => (p, m, c)
      | _ => (none, 0, 0), fun q hq => by
        obtain ⟨p, m, c, e⟩ := key q hq
        simp only [e]⟩
  refine ⟨l.map (fun q => (toTd q.1, F q, q.1.closed)), ?_, ?_, by simp, ?_⟩
  · obtain ⟨p, c, rfl⟩ := own_len h.1
    refine ⟨p, c, by rw [List.length_map], ?_⟩
    intro i e he
    rw [List.getElem?_map] at he
    cases hq : l[i]? with
    | none => rw [hq] at he; cases he
    | some q =>
      rw [hq] at he
      have e1 : (toTd q.1, F q, q.1.closed) = e := by simpa using he
      subst e1
      have hil := (List.getElem?_eq_some_iff.1 hq).1
      obtain ⟨g, c', e2, hcell⟩ := own_at h.1 (by omega)
      injection e2 with e3
      have hat := fun j hj => (hcell (i * 5 + j) (by omega)).trans (toksCells_at l i q hq j hj)
      have h2 := hat 2 (by decide)
      have h2' : w.cell? ⟨g, i * 5 + 2, none⟩ = some q.2 := h2
      rw [hF q (List.mem_of_getElem? hq)] at h2'
      refine ⟨g, 0, e3, ?_, ?_, ?_, ?_, ?_⟩
      · rw [Nat.zero_add]; exact hat 0 (by decide)
      · rw [Nat.zero_add]; exact hat 1 (by decide)
      · rw [Nat.zero_add]; exact h2'
      · rw [Nat.zero_add]; exact hat 3 (by decide)
      · rw [Nat.zero_add]; exact hat 4 (by decide)
  · rw [List.map_map, List.map_map]
    rfl
  · intro e he
    obtain ⟨q, hq, rfl⟩ := List.mem_map.1 he
    have h1 := h.2 q hq
    rw [hF q hq] at h1
    rw [← attr_same] at h1
    obtain ⟨p, c, e2⟩ := own_len h1
    injection e2 with e3 e4
    refine ⟨e4, ?_⟩
    intro i kv hi
    have hil := (List.getElem?_eq_some_iff.1 hi).1
    have hil : i < q.1.attrs.length := hil
    obtain ⟨g, c', e5, hcell⟩ := own_at h1 (by omega)
    injection e5 with e6
    have h2 := attr_two q.1.attrs i kv hi
    have hw1 := hwa q hq
    have hw2 := waL_mem (l := q.1.attrs) hi
    refine ⟨g, 0, e6, ?_, ?_, by omega, by omega⟩
    · rw [Nat.zero_add, hcell _ (by omega)]; exact h2.1
    · rw [Nat.zero_add, hcell _ (by omega)]; exact h2.2
theorem textSum_td : ∀ l : List Te, textSum l = tdSum (l.map Prod.fst)
  | [] => rfl
  | e :: r => by rw [textSum, List.map_cons, tdSum, textSum_td r]
/-- What is built of a stable tree's tokens. -/
theorem build_page (w : World) (B : Nat) (v : Value) (l : List (Tk × Value)) (ns : List Nd) (h : ToksAt w B v l) (hl : l.map Prod.fst = tkL ns) (hs : stable ns = true) (hw : wsL ns ≤ 20000) :
    Calls Tryz.prog 8 #[v] w fun e w' => (∃ r, e = .returned (.tuple #[r, .int .i64 0]) ∧ NAt w' r ns) ∧ Below w.heap.size w w' := by
  have hq : ∀ q ∈ l, waL q.1.attrs ≤ wsL ns ∧ q.1.name.length ≤ wsL ns := fun q hq => tk_L ns q.1 (by rw [← hl]; exact List.mem_map.2 ⟨q, hq, rfl⟩)
  obtain ⟨l', h1, h2, h3, h4⟩ := tok_row h (fun q hq' => by have := (hq q hq').1; omega)
  have h5 : l'.map Prod.fst = tdL ns := by rw [h2, hl, tdL_map]
  have hlen : l'.length ≤ 40000 := by
    have e := congrArg List.length hl
    rw [List.length_map] at e
    have := tk_lenL ns
    have := ncL_ws ns
    omega
  have hmem : ∀ e ∈ l', waL e.1.attrs ≤ wsL ns ∧ e.1.name.length ≤ wsL ns := by
    intro e he
    have : e.1 ∈ (l.map Prod.fst).map toTd := by rw [← h2]; exact List.mem_map.2 ⟨e, he, rfl⟩
    obtain ⟨k, hk, e1⟩ := List.mem_map.1 this
    rw [hl] at hk
    have := tk_L ns k hk
    rw [← e1]
    exact this
  refine (build_st w v l' h1 (by omega) (by rw [textSum_td, h5]; have := tdSum_L ns; omega) (fun e he => by have := (hmem e he).2; omega) ?_).mono ?_
  · intro e he
    have ha := h4 e he
    refine clones_any w _ _ _ _ ha ?_
    have := (hmem e he).1
    have := wa_len e.1.attrs
    have := ha.1
    omega
  · rintro e w' ⟨r, err, rfl, hE, hb⟩
    obtain ⟨rfl, fp, hk⟩ := hE.2 ns (by rw [h5]; exact build_stable hs)
    exact ⟨⟨r, rfl, _, kat_nat (ncL ns) r ns fp (Nat.le_refl _) (by omega) hk⟩, hb⟩
end Go.Proofs.YtholfdfjapgfbaaGreatDoor.Dm

/-
  A slice of nodes among the arguments, read.
-/
namespace Go.Proofs.YtholfdfjapgfbaaGreatDoor.Dm
open Go.ChangeShapes Go.WideShapes Go.RowKit
open Utf1

theorem list_choice {α : Type} {R : Nat → α → Prop} : ∀ n : Nat, (∀ i, i < n → ∃ x, R i x) → ∃ l : List α, l.length = n ∧ ∀ i x, l[i]? = some x → R i x
  | 0, _ => ⟨[], rfl, fun i x h => by simp at h⟩
  | n + 1, h => by
    obtain ⟨l, hl, hr⟩ := list_choice n (fun i hi => h i (by omega))
    obtain ⟨x, hx⟩ := h n (by omega)
    refine ⟨l ++ [x], by simp [hl], ?_⟩
    intro i y hy
    by_cases hi : i < l.length
    · rw [List.getElem?_append_left hi] at hy
      exact hr i y hy
    · have hlen := (List.getElem?_eq_some_iff.1 hy).1
      rw [List.length_append, List.length_singleton] at hlen
      have e : i = l.length := by omega
      subst e
      rw [List.getElem?_append_right (Nat.le_refl _), Nat.sub_self] at hy
      have : x = y := by simpa using hy
      rw [hl, ← this]
      exact hx

section
variable {H : Type} {P : Program}
theorem weights_all {e : TypeId} {n : Nat} {d : DataW H} : ∀ {l : List (DataW H)}, d ∈ l → n ∈ d.weights P e → n ∈ DataW.weightsAll P e l
  | [], h, _ => by cases h
  | x :: r, h, hn => by
    simp only [DataW.weightsAll, List.mem_append]
    rcases List.mem_cons.1 h with rfl | h
    · exact .inl hn
    · exact .inr (weights_all h hn)
theorem weights_slice {t e : TypeId} (hu : P.underlying t = some (.slice e)) {elems spare : List (DataW H)} {d : DataW H} {n : Nat} (h : d ∈ elems) (hn : n ∈ d.weights P e) : n ∈ (DataW.slice elems spare).weights P t := by
  simp only [DataW.weights, hu, List.mem_cons, List.mem_append]
  exact .inr (.inl (weights_all h hn))
theorem weights_agg {t t' : TypeId} {fs : Array Field} (hu : P.underlying t = some (.struct fs)) {parts : List (DataW H)} {d : DataW H} {n j : Nat} (hf : (fs.toList.map (·.type))[j]? = some t') (h : parts[j]? = some d) (hn : n ∈ d.weights P t') : n ∈ (DataW.agg parts).weights P t := by
  simp only [DataW.weights, hu]
  exact DataW.weights_mem_each hf h n hn
end

theorem cells1 : Tryz.prog.cellsOf 9 = 1 := by kernel_rfl
theorem cellsAt : Tryz.prog.cellsOf 38 = 2 := by kernel_rfl
theorem cellsAts : Tryz.prog.cellsOf 33 = 1 := by kernel_rfl
theorem cellsNd : Tryz.prog.cellsOf 42 = 4 := by kernel_rfl

section
variable {H : Type} {enc : TypeId × Value → H} {W : World} {sp : Nat → Bool}

set_option maxRecDepth 100000 in
theorem attr_elem {n : Nat} {cs : List Value} {x : DataW H × List MemPlace} (h : DataW.trod enc Tryz.prog W 0 sp true n 38 cs = some x) : ∃ a b : ByteArray, cs = [.string a, .string b] ∧ x.1 = .agg [.lit (.string a.data.toList), .lit (.string b.data.toList)] := by
  obtain ⟨y0, y1, m, rfl, hl, h0, h1⟩ := trod_struct2 Tryz.underlying38 h
  rw [cellsAt] at hl
  match cs, hl with
  | [c0, c1], _ =>
    simp only [cells1, List.drop_zero, List.take_succ_cons, List.take_zero, List.drop_succ_cons] at h0 h1
    obtain ⟨a, e0, rfl, -⟩ := DataW.trod_string Tryz.underlying9 h0
    obtain ⟨b, e1, rfl, -⟩ := DataW.trod_string Tryz.underlying9 h1
    cases e0
    cases e1
    exact ⟨a, b, rfl, rfl⟩

theorem spot_first {a : Addr} {b n : Nat} {cs : List Value} (h : W.cells? b (a.add 0) n = some cs) (hn : 0 < n) : a.spot = none := by
  obtain ⟨_, hl, hc⟩ := World.cells?_some h
  have h0 := hc 0 hn
  rw [List.getElem?_eq_getElem (by omega)] at h0
  simpa [Addr.add] using World.cell?_spot h0
theorem at_cell {a : Addr} {i k : Nat} {v : Value} (hs : a.spot = none) (h : W.cell? ((a.add i).add k) = some v) : W.cell? ⟨a.block, a.off + i + k, none⟩ = some v := by
  obtain ⟨b, off, spot⟩ := a
  simp only [] at hs
  subst hs
  rw [add_plain, add_plain] at h
  exact h

set_option maxRecDepth 100000 in
theorem attr_slice {n : Nat} {sl : Value} {y : DataW H × List MemPlace} (h : DataW.trod enc Tryz.prog W 0 sp true n 33 [sl] = some y) (hw : ∀ k ∈ y.1.weights Tryz.prog 33, k ≤ reachBytes) : ∃ p m c at', sl = .slice p m c ∧ ARow W p m at' := by
  rcases DataW.trod_slice Tryz.underlying33 h with ⟨hc, rfl⟩ | ⟨a, len, cap, elems, rest, n', _, hc, rfl, hb, hl, hm, hlen, hel, hsp, hns⟩
  · cases hc
    exact ⟨none, 0, 0, [], rfl, arow_nil W⟩
  · cases hc
    rw [cellsAt] at hel
    have key : ∀ i, i < len → ∃ kv : List UInt8 × List UInt8, ∃ b off, some a = some ⟨b, off, none⟩ ∧ W.cell? ⟨b, off + i * 2, none⟩ = some (.string ⟨kv.1.toArray⟩) ∧ W.cell? ⟨b, off + i * 2 + 1, none⟩ = some (.string ⟨kv.2.toArray⟩) ∧ kv.1.length ≤ 281474976710656 ∧ kv.2.length ≤ 281474976710656 := by
      intro i hi
      have h1 := hel i hi
      have hil : i < elems.length := by omega
      rw [List.getElem?_eq_getElem hil, Option.bind_eq_some_iff] at h1
      obtain ⟨cs, hcs, ht⟩ := h1
      obtain ⟨s, t, rfl, ex⟩ := attr_elem ht
      obtain ⟨_, _, hcell⟩ := World.cells?_some hcs
      have hsp1 : a.spot = none := by
        have h0 := hel 0 (by omega)
        rw [List.getElem?_eq_getElem (by omega), Option.bind_eq_some_iff, Nat.zero_mul] at h0
        obtain ⟨cs0, hcs0, _⟩ := h0
        exact spot_first hcs0 (by decide)
      have c0 := at_cell hsp1 (hcell 0 (by decide))
      have c1 := at_cell hsp1 (hcell 1 (by decide))
      have hmem : elems[i].1 ∈ elems.map (·.1) := List.mem_map.2 ⟨_, List.getElem_mem hil, rfl⟩
      have hws : ∀ k ∈ elems[i].1.weights Tryz.prog 38, k ≤ reachBytes := fun k hk => hw k (weights_slice Tryz.underlying33 hmem hk)
      rw [ex] at hws
      have w0 := hws s.data.toList.length (weights_agg Tryz.underlying38 (j := 0) rfl rfl (by simp [DataW.weights]))
      have w1 := hws t.data.toList.length (weights_agg Tryz.underlying38 (j := 1) rfl rfl (by simp [DataW.weights]))
      have hr := reachBytes_lt
      refine ⟨(s.data.toList, t.data.toList), a.block, a.off, ?_, ?_, ?_, ?_, ?_⟩
      · obtain ⟨b, off, spot⟩ := a
        simp only [] at hsp1
        rw [hsp1]
      · rw [Nat.add_zero] at c0
        rw [c0]
      · rw [c1]
      · show s.data.toList.length ≤ _
        omega
      · show t.data.toList.length ≤ _
        omega
    obtain ⟨at', hal, har⟩ := list_choice len key
    exact ⟨some a, len, cap, at', rfl, ⟨hal.symm, by unfold maxLen at hm; omega⟩, har⟩

set_option maxRecDepth 100000 in
theorem nod_elem {n : Nat} {cs : List Value} {x : DataW H × List MemPlace} (h : DataW.trod enc Tryz.prog W 0 sp true n 42 cs = some x) : ∃ (name : ByteArray) (sl : Value) (text : ByteArray) (kl : Value) (m : Nat) (y z : DataW H × List MemPlace), cs = [.string name, sl, .string text, kl] ∧ n = m + 1 ∧ DataW.trod enc Tryz.prog W 0 sp true m 33 [sl] = some y ∧ DataW.trod enc Tryz.prog W 0 sp true m 22 [kl] = some z ∧ x.1 = .agg [.lit (.string name.data.toList), y.1, .lit (.string text.data.toList), z.1] := by
  obtain ⟨xs, m, hn, rfl, hl, hlen, hf⟩ := DataW.trod_struct Tryz.underlying42 h
  rw [cellsNd] at hl
  match cs, hl, xs, hlen with
  | [c0, c1, c2, c3], _, [y0, y1, y2, y3], _ =>
    have h0 := hf 0 _ rfl
    have h1 := hf 1 _ rfl
    have h2 := hf 2 _ rfl
    have h3 := hf 3 _ rfl
    simp only [List.getElem?_cons_zero, List.getElem?_cons_succ] at h0 h1 h2 h3
    obtain ⟨nm, e0, rfl, -⟩ := DataW.trod_string Tryz.underlying9 h0
    obtain ⟨tx, e2, rfl, -⟩ := DataW.trod_string Tryz.underlying9 h2
    cases e0
    cases e2
    exact ⟨nm, c1, tx, c3, m, y1, y3, rfl, hn, h1, h3, rfl⟩

set_option maxRecDepth 100000 in
theorem nod_slice : ∀ (n : Nat) {sl : Value} {y : DataW H × List MemPlace}, DataW.trod enc Tryz.prog W 0 sp true n 22 [sl] = some y → (∀ k ∈ y.1.weights Tryz.prog 22, k ≤ reachBytes) → ∃ p m c ns, sl = .slice p m c ∧ NAtD W (n + 1) sl ns := by
  intro n
  induction n using Nat.strongRecOn with
  | _ n ih =>
  intro sl y h hw
  rcases DataW.trod_slice Tryz.underlying22 h with ⟨hc, rfl⟩ | ⟨a, len, cap, elems, rest, n', hn', hc, rfl, hb, hl, hm, hlen, hel, hsp, hns⟩
  · cases hc
    exact ⟨none, 0, 0, [], rfl, ⟨none, 0, rfl, by decide, fun i nd h => by simp at h⟩⟩
  · cases hc
    rw [cellsNd] at hel
    have key : ∀ i, i < len → ∃ nd : Nd, ∃ g off ap am ac kp km kc, some a = some ⟨g, off, none⟩ ∧ W.cell? ⟨g, off + i * 4, none⟩ = some (.string ⟨nd.name.toArray⟩) ∧ W.cell? ⟨g, off + i * 4 + 1, none⟩ = some (.slice ap am ac) ∧ W.cell? ⟨g, off + i * 4 + 2, none⟩ = some (.string ⟨nd.text.toArray⟩) ∧ W.cell? ⟨g, off + i * 4 + 3, none⟩ = some (.slice kp km kc) ∧ (nd.name.length ≤ 281474976710656 ∧ nd.text.length ≤ 281474976710656) ∧ ARow W ap am nd.attrs ∧ NAtD W n (.slice kp km kc) nd.kids := by
      intro i hi
      have h1 := hel i hi
      have hil : i < elems.length := by omega
      rw [List.getElem?_eq_getElem hil, Option.bind_eq_some_iff] at h1
      obtain ⟨cs, hcs, ht⟩ := h1
      obtain ⟨nm, sl1, tx, kl1, m, y1, z1, rfl, hmn, hy, hz, ex⟩ := nod_elem ht
      obtain ⟨_, _, hcell⟩ := World.cells?_some hcs
      have hsp1 : a.spot = none := by
        have h0 := hel 0 (by omega)
        rw [List.getElem?_eq_getElem (by omega), Option.bind_eq_some_iff, Nat.zero_mul] at h0
        obtain ⟨cs0, hcs0, _⟩ := h0
        exact spot_first hcs0 (by decide)
      have c0 := at_cell hsp1 (hcell 0 (by decide))
      have c1 := at_cell hsp1 (hcell 1 (by decide))
      have c2 := at_cell hsp1 (hcell 2 (by decide))
      have c3 := at_cell hsp1 (hcell 3 (by decide))
      have hmem : elems[i].1 ∈ elems.map (·.1) := List.mem_map.2 ⟨_, List.getElem_mem hil, rfl⟩
      have hws : ∀ k ∈ elems[i].1.weights Tryz.prog 42, k ≤ reachBytes := fun k hk => hw k (weights_slice Tryz.underlying22 hmem hk)
      rw [ex] at hws
      have w0 := hws nm.data.toList.length (weights_agg Tryz.underlying42 (j := 0) rfl rfl (by simp [DataW.weights]))
      have w2 := hws tx.data.toList.length (weights_agg Tryz.underlying42 (j := 2) rfl rfl (by simp [DataW.weights]))
      obtain ⟨p, m', c, at', rfl, hat⟩ := attr_slice hy (fun k hk => hws k (weights_agg Tryz.underlying42 (j := 1) rfl rfl hk))
      obtain ⟨kp, km, kc, ns, rfl, hns2⟩ := ih m (by omega) hz (fun k hk => hws k (weights_agg Tryz.underlying42 (j := 3) rfl rfl hk))
      have hr := reachBytes_lt
      refine ⟨.mk nm.data.toList at' tx.data.toList ns, a.block, a.off, p, m', c, kp, km, kc, ?_, ?_, ?_, ?_, ?_, ⟨?_, ?_⟩, hat, hns2.more (by omega)⟩
      · obtain ⟨b, off, spot⟩ := a
        simp only [] at hsp1
        rw [hsp1]
      · rw [Nat.add_zero] at c0
        rw [c0]
        rfl
      · rw [c1]
      · rw [c2]
        rfl
      · rw [c3]
      · show nm.data.toList.length ≤ _
        omega
      · show tx.data.toList.length ≤ _
        omega
    obtain ⟨ns, hal, har⟩ := list_choice len key
    refine ⟨some a, len, cap, ns, rfl, ⟨some a, cap, by rw [hal], by rw [hal]; unfold maxLen at hm; omega, har⟩⟩

/-- Nodes that came in. -/
def NArg (w : World) (v : Value) (ns : List Nd) : Prop := NAt w v ns ∧ (v = .slice none 0 0 ∨ ∃ ad m c, v = .slice (some ad) m c)
theorem NArg.below {w w' : World} {v : Value} {ns : List Nd} (h : NArg w v ns) (hb : Below w.heap.size w w') : NArg w' v ns := ⟨h.1.below hb, h.2⟩
set_option maxRecDepth 100000 in
theorem open_nods {a : Option Addr} {len cap : Nat} {d : DataW H} {p : List MemPlace} (h : DataW.Trod enc Tryz.prog W 0 sp true 22 (.slice a len cap) d p) (hw : ∀ k ∈ d.weights Tryz.prog 22, k ≤ reachBytes) : ∃ ns : List Nd, NArg W (.slice a len cap) ns := by
  obtain ⟨fuel, hf⟩ := h
  obtain ⟨_, _, _, ns, _, h⟩ := nod_slice fuel hf hw
  refine ⟨ns, ⟨_, h⟩, ?_⟩
  rcases DataW.trod_slice Tryz.underlying22 hf with ⟨hc, _⟩ | ⟨a', len', cap', _, _, _, _, hc, _⟩
  · simp [Value.cells] at hc
    obtain ⟨rfl, rfl, rfl⟩ := hc
    exact .inl rfl
  · simp [Value.cells] at hc
    obtain ⟨rfl, rfl, rfl⟩ := hc
    exact .inr ⟨_, _, _, rfl⟩
end
end Go.Proofs.YtholfdfjapgfbaaGreatDoor.Dm

/-
  The law SerBack, walked: it answers true at every tree.
-/
namespace Go.Proofs.YtholfdfjapgfbaaGreatDoor.Dm
open Go.RowKit
open Utf1

set_option maxRecDepth 100000 in
set_option maxHeartbeats 8000000 in
theorem lawSBack_walk (va : Value) (a : List Nd) (w : World) (ha : NArg w va a) (hg : Glob w) (hgm : GlobM w) :
    Calls Tryz.prog 3 #[va] w fun e w' => e = .returned (.bool true) ∧ Below w.heap.size w w' := by
  have HA := hide ha.1
  have HG : Hid (∀ wx, Below w.heap.size w wx → Glob wx ∧ GlobM wx) := hide (by
    intro wx hx
    obtain ⟨x, y, h⟩ := hg
    obtain ⟨m, h2⟩ := hgm
    exact ⟨⟨x, y, cell_keep h hx⟩, ⟨m, cell_keep h2 hx⟩⟩)
  clear ha hg hgm
  go_enter Tryz.func3, Tryz.ntmps3
  go_wp2_with fail
  refine (awake_nst _).mono ?_
  rintro e w1 ⟨rfl, hb1⟩
  have HB1 := hide hb1
  have HL1 := hide (light_nst w1 va a (HA.out.below hb1))
  clear hb1
  go_wp2_with fail
  refine HL1.out.mono ?_
  rintro e w2 ⟨l1, rfl, hl1, hb2⟩
  have HB2 := hide (bel2 HB1.out hb2)
  have HLA := hide hl1
  clear hb2 HL1 HB1 hl1
  cases l1 with
  | false =>
    go_wp2_with fail
    all_goals
      go_ret
      exact ⟨rfl, HB2.out⟩
  | true =>
  have hwa := HLA.out rfl
  have hca := ncL_ws a
  have hta := htL_len a
  have HLN : Hid ((htL a).length ≤ 1000000 ∧ wsL a ≤ 20000) := hide ⟨by omega, by omega⟩
  have HS1 := hide (stable_nst w2 va a (HA.out.below HB2.out) (by omega))
  have HTK : Hid (stable a = true → stable a = true) := hide (fun h => h)
  clear HLA hwa hca hta
  obtain ⟨sa, hsa⟩ : ∃ x, x = stable a := ⟨_, rfl⟩
  rw [← hsa] at HS1
  have HSA := hide hsa
  clear hsa HTK
  cases sa with
  | false =>
    go_wp2_with fail
    refine HS1.out.mono ?_
    rintro e w4 ⟨rfl, hb4⟩
    have HB4 := hide (bel2 HB2.out hb4)
    clear hb4 HS1
    go_wp2_with fail
    all_goals
      go_ret
      exact ⟨rfl, HB4.out⟩
  | true =>
  go_wp2_with fail
  refine HS1.out.mono ?_
  rintro e w4 ⟨rfl, hb4⟩
  have HB4 := hide (bel2 HB2.out hb4)
  have HH1 := hide (html_nst w4 va a (HA.out.below HB4.out) (by have := HLN.out; omega))
  clear hb4 HS1 HB2
  go_wp2_with fail
  refine HH1.out.mono ?_
  rintro e w5 ⟨⟨O, rfl, hO⟩, hb5⟩
  have HB5 := hide (bel2 HB4.out hb5)
  have hOs : O.size ≤ 1000000 := by rw [← bl_len, hO]; exact HLN.out.1
  have HT5 := hide (tokens_any O w5 (by omega) (HG.out w5 HB5.out).1 (HG.out w5 HB5.out).2)
  have HO := hide hO
  clear hb5 hO HH1 HB4
  go_wp2_with fail
  refine HT5.out.mono ?_
  rintro e w6 ⟨v, l, rfl, hl, htk, hb6⟩
  have HB6 := hide (bel2 HB5.out hb6)
  have HBP := hide (build_page w6 _ v l a htk (by rw [hl, HO.out]; exact toks_stable HSA.out.symm) HSA.out.symm HLN.out.2)
  obtain ⟨p, c, rfl⟩ := own_len htk.1
  clear hb6 hl htk HT5 HB5 HO
  go_wp2_with fail
  refine HBP.out.mono ?_
  rintro e w7 ⟨⟨r, rfl, hr⟩, hb7⟩
  have HB7 := hide (bel2 HB6.out hb7)
  obtain ⟨D1, hD1⟩ := hr
  obtain ⟨D2, hD2⟩ := HA.out
  have HSM := hide (same_nst (max D1 D2) w7 r va a a (hD1.more (by omega)) ((hD2.more (by omega)).below HB7.out))
  rw [(sameL_iff a a).2 rfl] at HSM
  clear hb7 hD1 hD2 HBP HB6
  go_wp2_with fail
  refine HSM.out.mono ?_
  rintro e w8 ⟨rfl, hw8⟩
  have HB8 : Hid (Below w.heap.size w w8) := hide (by
    obtain ⟨m, rfl⟩ := hw8
    exact bel2 HB7.out (bel_drewN _ _))
  clear hw8 HSM HB7
  go_wp2_with fail
  go_ret
  exact ⟨rfl, HB8.out⟩
end Go.Proofs.YtholfdfjapgfbaaGreatDoor.Dm
