/-
  A stable tree, built of its own tokens, is itself.
-/
import Derived.Test.YtholfdfjapgfbaaGreatDoorNB
import Derived.Test.YtholfdfjapgfbaaGreatDoorGZ
import Derived.Test.YtholfdfjapgfbaaGreatDoorBB
import Derived.Test.YtholfdfjapgfbaaGreatDoorM5
import Derived.Test.YtholfdfjapgfbaaGreatDoorG00
import Derived.WalkMore
import Derived.Test.YtholfdfjapgfbaaGreatDoorNA
import Derived.Deep.CutRange

namespace Utf1
mutual
/-- The tokens of a node, as the tree's builder takes them. -/
def tdN : Nd → List Td
  | .mk n a t k => if n = [] then [⟨1, [], [], t⟩] else ⟨2, n, a, []⟩ :: (if n ∈ voids then [] else tdL k ++ [⟨3, n, [], []⟩])
def tdL : List Nd → List Td
  | [] => []
  | n :: r => tdN n ++ tdL r
end
end Utf1
namespace Go.Proofs.YtholfdfjapgfbaaGreatDoor.Dm
open Go.RowKit
open Utf1

def addKids (nd : Nd) (l : List Nd) : Nd := .mk nd.name nd.attrs nd.text (nd.kids ++ l)
theorem addKids_nil (nd : Nd) : addKids nd [] = nd := by
  cases nd
  simp [addKids, Nd.name, Nd.attrs, Nd.text, Nd.kids]
theorem addKids_cons (nd x : Nd) (l : List Nd) : addKids (addKid nd x) l = addKids nd (x :: l) := by
  unfold addKids addKid
  simp [Nd.name, Nd.attrs, Nd.text, Nd.kids]
/-- Whether no p is open, and whether the innermost li, ul or ol is a li. -/
def noP : List Nd → Prop
  | [] => True
  | [_] => True
  | nd :: m :: r => nd.name ≠ [112] ∧ noP (m :: r)
def itemR : List Nd → Bool
  | [] => false
  | [_] => false
  | nd :: m :: r => if nd.name = [108, 105] then true else if nd.name = [117, 108] ∨ nd.name = [111, 108] then false else itemR (m :: r)
theorem noP_same {a b : Nd} {q : List Nd} (h : a.name = b.name) : noP (a :: q) ↔ noP (b :: q) := by
  cases q with
  | nil => exact Iff.rfl
  | cons c q => simp only [noP, h]
theorem item_same {a b : Nd} {q : List Nd} (h : a.name = b.name) : itemR (a :: q) = itemR (b :: q) := by
  cases q with
  | nil => rfl
  | cons c q => simp only [itemR, h]
theorem inner_noP : ∀ r : List Nd, noP r → innerR [[112]] r = 0
  | [], _ => rfl
  | [_], _ => by simp [innerR]
  | nd :: m :: r, h => by
    rw [innerR, if_neg (by simp), if_neg (by simpa using h.1)]
    exact inner_noP (m :: r) h.2
theorem inner_item : ∀ r : List Nd, r.getLast?.map Nd.name = some [] → itemR r = false → (r.reverse[innerR [[108, 105], [117, 108], [111, 108]] r]?.map Nd.name) ≠ some [108, 105]
  | [], h, _ => by cases h
  | [x], h, _ => by
    have h : some x.name = some [] := by simpa using h
    have e : innerR [[108, 105], [117, 108], [111, 108]] [x] = 0 := by simp [innerR]
    rw [e]
    show some x.name ≠ _
    rw [h]
    simp
  | nd :: m :: r, h, hi => by
    rw [innerR, if_neg (by simp)]
    rw [itemR] at hi
    by_cases h1 : nd.name ∈ [[108, 105], [117, 108], [111, 108]]
    · rw [if_pos h1, List.reverse_cons, List.getElem?_append_right (by simp)]
      simp only [List.length_reverse, Nat.sub_self, List.getElem?_cons_zero, Option.map_some]
      intro e
      have e : nd.name = [108, 105] := by simpa using e
      rw [if_pos e] at hi
      cases hi
    · rw [if_neg h1, List.reverse_cons]
      have hn1 : nd.name ≠ [108, 105] := fun e => h1 (by rw [e]; decide)
      have hn2 : ¬ (nd.name = [117, 108] ∨ nd.name = [111, 108]) := by
        rintro (e | e)
        · exact h1 (by rw [e]; decide)
        · exact h1 (by rw [e]; decide)
      rw [if_neg hn1, if_neg hn2] at hi
      have hlt : innerR [[108, 105], [117, 108], [111, 108]] (m :: r) < (m :: r).length := innerR_lt _ _ (by simp)
      rw [List.getElem?_append_left (by rw [List.length_reverse]; exact hlt)]
      refine inner_item (m :: r) ?_ hi
      rw [List.getLast?_cons_cons] at h
      exact h
/-- A start that closes nothing. -/
theorem way_none {name : List UInt8} {r : List Nd} {t : List UInt8} (hroot : r.getLast?.map Nd.name = some []) (h1 : name ∈ blocks → noP r) (h2 : name = [108, 105] → itemR r = false) : wayR name r t = (r, t) := by
  unfold wayR
  by_cases hb : name ∈ blocks
  · rw [if_pos hb]
    have hc : closeIn [[112]] r t = (r, t) := by
      unfold closeIn
      rw [inner_noP r (h1 hb), if_neg (by omega)]
    by_cases hl : name = [108, 105]
    · rw [if_pos hl, hc]
      simp only
      rw [if_neg (inner_item r hroot (h2 hl))]
    · rw [if_neg hl, hc]
  · rw [if_neg hb]

theorem end_top (n : List UInt8) (x y : Nd) (q : List Nd) (t : List UInt8) (o m : Nat) (hx : x.name = n) : endB n ⟨x :: y :: q, t, o, m⟩ = ⟨addKid y (textIn x t) :: q, [], o, m⟩ := by
  have hi : innerR [n] (x :: y :: q) = (y :: q).length := by
    rw [innerR, if_neg (by simp), if_pos (by simp [hx])]
  unfold endB
  simp only [hi]
  rw [if_pos (by simp)]
  unfold shutB
  have : (x :: y :: q).length - (y :: q).length = 1 := by simp
  simp only [this]
  rfl

mutual
theorem run_nd : ∀ (x : Nd) (p i b : Bool) (nd : Nd) (q : List Nd) (t : List UInt8) (o m : Nat) (y : List Td), stN p i b x = true → (b = false → t = []) → (nd :: q).getLast?.map Nd.name = some [] → (p = false → noP (nd :: q)) → (i = false → itemR (nd :: q) = false) → o ≤ 64 → m + ncN x ≤ 2000 → q.length + dpN x ≤ 64 →
    ∃ nd' t' o', runB (tdN x ++ y) ⟨nd :: q, t, o, m⟩ = runB y ⟨nd' :: q, t', o', m + ncN x⟩ ∧ o' ≤ 64 ∧ nd'.name = nd.name ∧ textIn nd' t' = addKid (textIn nd t) x ∧ (x.name ≠ [] → t' = [])
  | .mk n a tx k, p, i, b, nd, q, t, o, m, y, h, hbt, hroot, hp, hi, ho, hm, hd => by
    by_cases hn : n = []
    · obtain ⟨h1, h2, h3, h4⟩ := stN_text hn h
      have ht := hbt h2
      subst hn
      subst h3
      subst h4
      subst ht
      have hnc : ncN (.mk [] [] tx []) = 1 := by rw [ncN]; rfl
      rw [hnc] at hm ⊢
      have hk : takeB ⟨1, [], [], tx⟩ ⟨nd :: q, [], o, m⟩ = ⟨nd :: q, tx, o, m + 1⟩ := by
        unfold takeB textB
        rw [if_pos rfl]
        have : newT [] tx = 1 := by unfold newT; rw [if_pos ⟨rfl, h1⟩]
        simp only [this, List.nil_append]
      refine ⟨nd, tx, o, ?_, ho, rfl, ?_, fun e => absurd rfl e⟩
      · rw [tdN, if_pos rfl]
        show runB (⟨1, [], [], tx⟩ :: y) _ = _
        rw [runB, hk, if_pos ⟨ho, hm⟩]
      · unfold textIn
        rw [if_neg h1, if_pos rfl]
    · obtain ⟨h1, h2, h3, h4, h5, h6⟩ := stN_elem hn h
      rw [Bool.or_eq_false_iff, Bool.and_eq_false_iff, Bool.and_eq_false_iff] at h4
      subst h1
      have hw : wayR n (nd :: q) t = (nd :: q, t) := by
        refine way_none hroot (fun hb => ?_) (fun hl => ?_)
        · rcases h4.1 with hp' | hb'
          · exact hp hp'
          · exact absurd hb (of_decide_eq_false hb')
        · rcases h4.2 with hi' | hl'
          · exact hi hi'
          · exact absurd hl (of_decide_eq_false hl')
      have hnc : ncN (.mk n a [] k) = 1 + ncL k := by rw [ncN]
      have hdp : dpN (.mk n a [] k) = dpL k + 1 := by rw [dpN, if_neg hn]
      rw [hdp] at hd
      by_cases hv : n ∈ voids
      · have hk0 := h5 hv
        subst hk0
        have hst : startB n a ⟨nd :: q, t, o, m⟩ = ⟨addKid (textIn nd t) (.mk n a [] []) :: q, [], o, m + 1⟩ := by
          unfold startB startR
          rw [if_neg hn]
          simp only [hw]
          rw [if_pos hv]
        have hk : takeB ⟨2, n, a, []⟩ ⟨nd :: q, t, o, m⟩ = ⟨addKid (textIn nd t) (.mk n a [] []) :: q, [], o, m + 1⟩ := by
          unfold takeB
          rw [if_neg (show ¬ ((2 : Int) = 1) by decide), if_pos rfl]
          exact hst
        have hnc1 : ncN (.mk n a [] []) = 1 := by rw [ncN]; rfl
        rw [hnc1] at hm ⊢
        refine ⟨addKid (textIn nd t) (.mk n a [] []), [], o, ?_, ho, ?_, ?_, fun _ => rfl⟩
        · rw [tdN, if_neg hn, if_pos hv]
          show runB (⟨2, n, a, []⟩ :: y) _ = _
          rw [runB, hk, if_pos ⟨ho, hm⟩]
        · rw [addKid_root, textIn_name]
        · unfold textIn
          rw [if_pos rfl]
      · have hst : startB n a ⟨nd :: q, t, o, m⟩ = ⟨.mk n a [] [] :: textIn nd t :: q, [], max o (q.length + 1), m + 1⟩ := by
          unfold startB startR
          rw [if_neg hn]
          simp only [hw]
          rw [if_neg hv]
        have hk : takeB ⟨2, n, a, []⟩ ⟨nd :: q, t, o, m⟩ = ⟨.mk n a [] [] :: textIn nd t :: q, [], max o (q.length + 1), m + 1⟩ := by
          unfold takeB
          rw [if_neg (show ¬ ((2 : Int) = 1) by decide), if_pos rfl]
          exact hst
        have ho1 : max o (q.length + 1) ≤ 64 := by omega
        rw [hnc] at hm ⊢
        obtain ⟨nd2, t2, o2, e1, e2, e3, e4⟩ := run_nl k (p || decide (n = [112])) (itm i n) false (.mk n a [] []) (textIn nd t :: q) [] (max o (q.length + 1)) (m + 1) (⟨3, n, [], []⟩ :: y) (h6 hv) (fun _ => rfl)
          (by rw [List.getLast?_cons_cons]; rw [last_name (textIn_name nd t)]; exact hroot)
          (by
            intro hp'
            rw [Bool.or_eq_false_iff] at hp'
            exact ⟨of_decide_eq_false hp'.2, (noP_same (textIn_name nd t)).2 (hp hp'.1)⟩)
          (by
            intro hi'
            rw [itemR]
            unfold itm at hi'
            show (if n = [108, 105] then true else if n = [117, 108] ∨ n = [111, 108] then false else itemR (textIn nd t :: q)) = false
            by_cases hl : n = [108, 105]
            · rw [if_pos hl] at hi'
              cases hi'
            · rw [if_neg hl] at hi' ⊢
              by_cases hu : n = [117, 108] ∨ n = [111, 108]
              · rw [if_pos hu]
              · rw [if_neg hu] at hi' ⊢
                rw [item_same (textIn_name nd t)]
                exact hi hi')
          ho1 (by omega) (by rw [List.length_cons]; omega)
        have hx : textIn nd2 t2 = .mk n a [] k := by
          rw [e4]
          unfold textIn
          rw [if_pos rfl]
          rfl
        have hk2 : takeB ⟨3, n, [], []⟩ ⟨nd2 :: textIn nd t :: q, t2, o2, m + 1 + ncL k⟩ = ⟨addKid (textIn nd t) (.mk n a [] k) :: q, [], o2, m + 1 + ncL k⟩ := by
          unfold takeB
          rw [if_neg (show ¬ ((3 : Int) = 1) by decide), if_neg (show ¬ ((3 : Int) = 2) by decide), if_pos rfl, ← hx]
          exact end_top n nd2 (textIn nd t) q t2 o2 _ e3
        refine ⟨addKid (textIn nd t) (.mk n a [] k), [], o2, ?_, e2, ?_, ?_, fun _ => rfl⟩
        · rw [tdN, if_neg hn, if_neg hv]
          have : ⟨2, n, a, []⟩ :: (tdL k ++ [⟨3, n, [], []⟩]) ++ y = ⟨2, n, a, []⟩ :: (tdL k ++ (⟨3, n, [], []⟩ :: y)) := by simp
          rw [this, runB, hk, if_pos ⟨ho1, by show m + 1 ≤ 2000; omega⟩, e1, runB, hk2, if_pos ⟨e2, by show m + 1 + ncL k ≤ 2000; omega⟩]
          rw [show m + 1 + ncL k = m + (1 + ncL k) by omega]
        · rw [addKid_root, textIn_name]
        · unfold textIn
          rw [if_pos rfl]
theorem run_nl : ∀ (l : List Nd) (p i b : Bool) (nd : Nd) (q : List Nd) (t : List UInt8) (o m : Nat) (y : List Td), stL p i b l = true → (b = false → t = []) → (nd :: q).getLast?.map Nd.name = some [] → (p = false → noP (nd :: q)) → (i = false → itemR (nd :: q) = false) → o ≤ 64 → m + ncL l ≤ 2000 → q.length + dpL l ≤ 64 →
    ∃ nd' t' o', runB (tdL l ++ y) ⟨nd :: q, t, o, m⟩ = runB y ⟨nd' :: q, t', o', m + ncL l⟩ ∧ o' ≤ 64 ∧ nd'.name = nd.name ∧ textIn nd' t' = addKids (textIn nd t) l
  | [], p, i, b, nd, q, t, o, m, y, _, _, _, _, _, ho, _, _ => ⟨nd, t, o, by rw [tdL, ncL]; rfl, ho, rfl, by rw [addKids_nil]⟩
  | x :: l, p, i, b, nd, q, t, o, m, y, h, hbt, hroot, hp, hi, ho, hm, hd => by
    obtain ⟨h1, h2⟩ := stL_cons h
    rw [ncL] at hm ⊢
    rw [dpL] at hd
    obtain ⟨nd1, t1, o1, e1, e2, e3, e4, e5⟩ := run_nd x p i b nd q t o m (tdL l ++ y) h1 hbt hroot hp hi ho (by omega) (by omega)
    obtain ⟨nd2, t2, o2, f1, f2, f3, f4⟩ := run_nl l p i (decide (x.name = [])) nd1 q t1 o1 (m + ncN x) y h2 (fun hx => e5 (of_decide_eq_false hx)) (by rw [last_name e3]; exact hroot) (fun hp' => (noP_same e3).2 (hp hp')) (fun hi' => by rw [item_same e3]; exact hi hi') e2 (by omega) (by omega)
    refine ⟨nd2, t2, o2, ?_, f2, f3.trans e3, ?_⟩
    · rw [tdL, List.append_assoc, e1, f1, Nat.add_assoc]
    · rw [f4, e4, addKids_cons]
end
/-- What is built of a stable tree's tokens is it. -/
theorem build_stable {ns : List Nd} (h : stable ns = true) : buildB (tdL ns) = some ns := by
  unfold stable at h
  rw [Bool.and_eq_true, Bool.and_eq_true] at h
  obtain ⟨⟨h1, h2⟩, h3⟩ := h
  have h1 := of_decide_eq_true h1
  have h2 := of_decide_eq_true h2
  obtain ⟨nd', t', o', e1, e2, e3, e4⟩ := run_nl ns false false false (.mk [] [] [] []) [] [] 0 0 [] h3 (fun _ => rfl) rfl (fun _ => trivial) (fun _ => rfl) (by omega) (by omega) (by simpa using h2)
  rw [List.append_nil] at e1
  unfold buildB bs0
  rw [e1, runB]
  show some (treeB _) = _
  unfold treeB shutB
  simp only [List.length_cons, List.length_nil, Nat.zero_add, Nat.sub_self]
  show some (textIn nd' t').kids = _
  rw [e4]
  unfold textIn addKids
  rw [if_pos rfl]
  rfl
end Go.Proofs.YtholfdfjapgfbaaGreatDoor.Dm

/-
  A tree that was built is one that can be read alone; tokens that were read are tokens that are taken; what is built of a page.
-/
namespace Utf1
/-- A token, as the tree's builder takes it. -/
def toTd (k : Tk) : Td := ⟨(k.kind : Int), k.name, k.attrs, k.text⟩
mutual
theorem tdN_map : ∀ x : Nd, (tkN x).map toTd = tdN x
  | .mk n a t k => by
    rw [tkN, tdN]
    by_cases hn : n = []
    · rw [if_pos hn, if_pos hn]
      rfl
    · rw [if_neg hn, if_neg hn]
      by_cases hv : n ∈ voids
      · rw [if_pos hv, if_pos hv]
        rfl
      · rw [if_neg hv, if_neg hv, List.map_cons, List.map_append, tdL_map k]
        rfl
theorem tdL_map : ∀ l : List Nd, (tkL l).map toTd = tdL l
  | [] => by rw [tkL, tdL]; rfl
  | x :: l => by rw [tkL, tdL, List.map_append, tdN_map x, tdL_map l]
end
theorem wsL_mem : ∀ {l : List Nd} {i : Nat} {x : Nd}, l[i]? = some x → wsN x ≤ wsL l
  | [], i, x, h => by simp at h
  | y :: l, 0, x, h => by
    have : y = x := by simpa using h
    rw [this, wsL]
    omega
  | y :: l, i + 1, x, h => by
    have := wsL_mem (l := l) (i := i) (x := x) (by simpa using h)
    rw [wsL]
    omega
theorem waL_mem : ∀ {l : List (List UInt8 × List UInt8)} {i : Nat} {x : List UInt8 × List UInt8}, l[i]? = some x → 1 + x.1.length + x.2.length ≤ waL l
  | [], i, x, h => by simp at h
  | y :: l, 0, x, h => by
    have : y = x := by simpa using h
    rw [this, waL]
    omega
  | y :: l, i + 1, x, h => by
    have := waL_mem (l := l) (i := i) (x := x) (by simpa using h)
    rw [waL]
    omega
/-- How much text tokens have. -/
def tdSum : List Td → Nat
  | [] => 0
  | k :: r => k.text.length + tdSum r
theorem tdSum_app : ∀ a b, tdSum (a ++ b) = tdSum a + tdSum b
  | [], b => by simp [tdSum]
  | k :: a, b => by
    rw [List.cons_append, tdSum, tdSum, tdSum_app a b]
    omega
mutual
theorem tdSum_N : ∀ x : Nd, tdSum (tdN x) ≤ wsN x
  | .mk n a t k => by
    rw [tdN, wsN]
    by_cases hn : n = []
    · rw [if_pos hn]
      show t.length + 0 ≤ _
      omega
    · rw [if_neg hn]
      by_cases hv : n ∈ voids
      · rw [if_pos hv]
        show 0 + 0 ≤ _
        omega
      · rw [if_neg hv]
        show 0 + tdSum (tdL k ++ [⟨3, n, [], []⟩]) ≤ _
        rw [tdSum_app]
        have := tdSum_L k
        show 0 + (_ + (0 + 0)) ≤ _
        omega
theorem tdSum_L : ∀ l : List Nd, tdSum (tdL l) ≤ wsL l
  | [] => by rw [tdL]; exact Nat.zero_le _
  | x :: l => by
    rw [tdL, wsL, tdSum_app]
    have := tdSum_N x
    have := tdSum_L l
    omega
end
mutual
theorem tk_N : ∀ (x : Nd), ∀ k ∈ tkN x, waL k.attrs ≤ wsN x ∧ k.name.length ≤ wsN x
  | .mk n a t kk, k, h => by
    rw [tkN] at h
    rw [wsN]
    by_cases hn : n = []
    · rw [if_pos hn] at h
      have : k = ⟨1, [], [], false, t⟩ := by simpa using h
      subst this
      exact ⟨Nat.zero_le _, Nat.zero_le _⟩
    · rw [if_neg hn] at h
      rcases List.mem_cons.1 h with rfl | h
      · exact ⟨by show waL a ≤ _; omega, by show n.length ≤ _; omega⟩
      · by_cases hv : n ∈ voids
        · rw [if_pos hv] at h
          cases h
        · rw [if_neg hv] at h
          rcases List.mem_append.1 h with h | h
          · have := tk_L kk k h
            omega
          · have : k = ⟨3, n, [], false, []⟩ := by simpa using h
            subst this
            exact ⟨Nat.zero_le _, by show n.length ≤ _; omega⟩
theorem tk_L : ∀ (l : List Nd), ∀ k ∈ tkL l, waL k.attrs ≤ wsL l ∧ k.name.length ≤ wsL l
  | [], k, h => by rw [tkL] at h; cases h
  | x :: l, k, h => by
    rw [tkL] at h
    rw [wsL]
    rcases List.mem_append.1 h with h | h
    · have := tk_N x k h
      omega
    · have := tk_L l k h
      omega
end
mutual
theorem tk_lenN : ∀ x : Nd, (tkN x).length ≤ 2 * ncN x
  | .mk n a t k => by
    rw [tkN, ncN]
    by_cases hn : n = []
    · rw [if_pos hn]
      simp
      omega
    · rw [if_neg hn]
      by_cases hv : n ∈ voids
      · rw [if_pos hv]
        simp
        omega
      · rw [if_neg hv]
        have := tk_lenL k
        simp
        omega
theorem tk_lenL : ∀ l : List Nd, (tkL l).length ≤ 2 * ncL l
  | [] => by rw [tkL]; exact Nat.zero_le _
  | x :: l => by
    rw [tkL, ncL, List.length_append]
    have := tk_lenN x
    have := tk_lenL l
    omega
end
end Utf1
namespace Go.Proofs.YtholfdfjapgfbaaGreatDoor.Dm
open Go.RowKit
open Utf1

theorem attr_two : ∀ (l : List (List UInt8 × List UInt8)) (i : Nat) (p : List UInt8 × List UInt8), l[i]? = some p → (attrCells l)[i * 2]? = some (.string ⟨p.1.toArray⟩) ∧ (attrCells l)[i * 2 + 1]? = some (.string ⟨p.2.toArray⟩)
  | [], i, p, h => by simp at h
  | q :: r, 0, p, h => by
    have : q = p := by simpa using h
    subst this
    exact ⟨rfl, rfl⟩
  | q :: r, i + 1, p, h => by
    have h' : r[i]? = some p := by simpa using h
    rw [show (i + 1) * 2 = i * 2 + 1 + 1 by omega]
    exact attr_two r i p h'
theorem attr_same : ∀ l, attrCells l = _root_.Go.Proofs.YtholfdfjapgfbaaGreatDoor.attrCells l
  | [] => rfl
  | p :: r => by
    show _ :: _ :: attrCells r = _ :: _ :: _root_.Go.Proofs.YtholfdfjapgfbaaGreatDoor.attrCells r
    rw [attr_same r]
/-- An owned row of attributes, read alone. -/
theorem arow_own {w : World} {B n : Nat} {v : Value} {a : List (List UInt8 × List UInt8)} (h : w.ownsRow B 38 2 v n (attrCells a)) (hn : n = a.length) (hb : waL a ≤ 1000000) : ∃ p c, v = .slice p n c ∧ ARow w p n a := by
  obtain ⟨p, c, rfl⟩ := own_len h
  refine ⟨p, c, rfl, ⟨hn, own_most h⟩, ?_⟩
  intro i kv hi
  have hil := (List.getElem?_eq_some_iff.1 hi).1
  obtain ⟨g, c', e, hcell⟩ := own_at h (by omega)
  injection e with e1
  have h2 := attr_two a i kv hi
  have hw := waL_mem hi
  refine ⟨g, 0, e1, ?_, ?_, by omega, by omega⟩
  · rw [Nat.zero_add, hcell _ (by omega)]; exact h2.1
  · rw [Nat.zero_add, hcell _ (by omega)]; exact h2.2
/-- What is read of a node of a row that was built. -/
theorem kat_node {w : World} {base : Nat} {v : Value} {ns : List Nd} {fp : List Nat} (h : KAt w base v ns fp) : ∃ p c, v = .slice p ns.length c ∧ ∀ i nd, ns[i]? = some nd → ∃ g av kp km kc f, p = some ⟨g, 0, none⟩ ∧ w.cell? ⟨g, i * 4, none⟩ = some (.string ⟨nd.name.toArray⟩) ∧ w.cell? ⟨g, i * 4 + 1, none⟩ = some av ∧ w.cell? ⟨g, i * 4 + 2, none⟩ = some (.string ⟨nd.text.toArray⟩) ∧ w.cell? ⟨g, i * 4 + 3, none⟩ = some (.slice kp km kc) ∧ KAt w base (.slice kp km kc) nd.kids f ∧ w.ownsRow base 38 2 av nd.attrs.length (attrCells nd.attrs) := by
  obtain ⟨l, f, rfl, rfl, hro, hall⟩ := kat_inv h
  obtain ⟨p, c, rfl⟩ := own_len hro
  refine ⟨p, c, by rw [List.length_map], ?_⟩
  intro i nd hi
  rw [List.getElem?_map] at hi
  cases hp : l[i]? with
  | none => rw [hp] at hi; cases hi
  | some q =>
    rw [hp] at hi
    have e : q.1 = nd := by simpa using hi
    have hil : i < l.length := (List.getElem?_eq_some_iff.1 hp).1
    obtain ⟨g, cap, e2, hcell⟩ := own_at hro (by omega)
    cases e2
    have hd : l = l.take i ++ q :: l.drop (i + 1) := by
      have h1 := List.take_append_drop i l
      rw [← List.getElem_cons_drop hil, (List.getElem?_eq_some_iff.1 hp).2] at h1
      exact h1.symm
    rw [hd] at hall
    obtain ⟨fa, fb, _, _, h2⟩ := kall_split hall
    obtain ⟨nd', av, kv⟩ := q
    subst e
    generalize hz : (nd', av, kv) :: l.drop (i + 1) = z at h2
    cases h2 with
    | nil => cases hz
    | cons n2 av2 kv2 l2 f2 fps2 ha2 hk2 hl2 =>
      cases hz
      obtain ⟨k, fk, _, _, hrk, _⟩ := kat_inv hk2
      obtain ⟨kp, km, kc, rfl⟩ := own_slice hrk
      have hat := fun j hj => (hcell (i * 4 + j) (by omega)).trans (ndCells_at l i _ hp j hj)
      exact ⟨g, av, kp, km, kc, f2, rfl, hat 0 (by decide), hat 1 (by decide), hat 2 (by decide), hat 3 (by decide), hk2, ha2⟩
theorem kat_nat {w : World} {base : Nat} : ∀ (M : Nat) (v : Value) (ns : List Nd) (fp : List Nat), ncL ns ≤ M → wsL ns ≤ 1000000 → KAt w base v ns fp → NAtD w (M + 1) v ns := by
  intro M
  induction M using Nat.strongRecOn with
  | _ M ih =>
  intro v ns fp hM hw hk
  obtain ⟨p, c, rfl, hn⟩ := kat_node hk
  refine ⟨p, c, rfl, by have := nc_len ns; have := ncL_ws ns; omega, ?_⟩
  intro i nd hi
  obtain ⟨g, av, kp, km, kc, f, hp, x0, x1, x2, x3, hkk, hat⟩ := hn i nd hi
  have hws := wsL_mem hi
  rw [wsN_kids] at hws
  obtain ⟨ap, ac, rfl, har⟩ := arow_own hat rfl (by omega)
  have hnc : ncN nd ≤ ncL ns := by
    have hmem : nd ∈ ns := List.mem_of_getElem? hi
    obtain ⟨a, b, rfl⟩ := List.append_of_mem hmem
    rw [ncL_app, ncL]
    omega
  rw [ncN_kids] at hnc
  have := ih (M - 1) (by omega) (.slice kp km kc) nd.kids f (by omega) (by omega) hkk
  refine ⟨g, 0, ap, _, ac, kp, km, kc, hp, ?_, ?_, ?_, ?_, ⟨by omega, by omega⟩, har, this.more (by omega)⟩
  · rw [Nat.zero_add]; exact x0
  · rw [Nat.zero_add]; exact x1
  · rw [Nat.zero_add]; exact x2
  · rw [Nat.zero_add]; exact x3

theorem toksCells_at : ∀ (l : List (Tk × Value)) (i : Nat) (p : Tk × Value), l[i]? = some p → ∀ j, j < 5 → (toksCells l)[i * 5 + j]? = (tokCells p.1 p.2)[j]?
  | [], i, p, h, _, _ => by simp at h
  | q :: r, 0, p, h, j, hj => by
    have : q = p := by simpa using h
    subst this
    show (tokCells q.1 q.2 ++ toksCells r)[0 * 5 + j]? = _
    rw [show 0 * 5 + j = j by omega, List.getElem?_append_left (by simp [tokCells]; omega)]
  | q :: r, i + 1, p, h, j, hj => by
    have h' : r[i]? = some p := by simpa using h
    show (tokCells q.1 q.2 ++ toksCells r)[(i + 1) * 5 + j]? = _
    rw [List.getElem?_append_right (by simp [tokCells]; omega), show (i + 1) * 5 + j - (tokCells q.1 q.2).length = i * 5 + j by simp [tokCells]; omega]
    exact toksCells_at r i p h' j hj

/-- Tokens that were read, as tokens that are taken. -/
theorem tok_row {w : World} {B : Nat} {v : Value} {l : List (Tk × Value)} (h : ToksAt w B v l) (hwa : ∀ q ∈ l, waL q.1.attrs ≤ 1000000) : ∃ l' : List Te, TokRow w v l' ∧ l'.map Prod.fst = (l.map Prod.fst).map toTd ∧ l'.length = l.length ∧ ∀ e ∈ l', AttrRow w e.2.1.1 e.2.1.2.1 e.1.attrs := by
  have key : ∀ q ∈ l, ∃ p m c, q.2 = .slice p m c := fun q hq => own_slice (h.2 q hq)
  obtain ⟨F, hF⟩ : ∃ F : Tk × Value → Option Addr × Nat × Nat, ∀ q ∈ l, q.2 = .slice (F q).1 (F q).2.1 (F q).2.2 :=
    ⟨fun q => match q.2 with
      | .slice p m c => (p, m, c)
      | _ => (none, 0, 0), fun q hq => by
        obtain ⟨p, m, c, e⟩ := key q hq
        simp only [e]⟩
  refine ⟨l.map (fun q => (toTd q.1, F q, q.1.closed)), ?_, ?_, by simp, ?_⟩
  · obtain ⟨p, c, rfl⟩ := own_len h.1
    refine ⟨p, c, by rw [List.length_map], ?_⟩
    intro i e he
    rw [List.getElem?_map] at he
    cases hq : l[i]? with
    | none => rw [hq] at he; cases he
    | some q =>
      rw [hq] at he
      have e1 : (toTd q.1, F q, q.1.closed) = e := by simpa using he
      subst e1
      have hil := (List.getElem?_eq_some_iff.1 hq).1
      obtain ⟨g, c', e2, hcell⟩ := own_at h.1 (by omega)
      injection e2 with e3
      have hat := fun j hj => (hcell (i * 5 + j) (by omega)).trans (toksCells_at l i q hq j hj)
      have h2 := hat 2 (by decide)
      have h2' : w.cell? ⟨g, i * 5 + 2, none⟩ = some q.2 := h2
      rw [hF q (List.mem_of_getElem? hq)] at h2'
      refine ⟨g, 0, e3, ?_, ?_, ?_, ?_, ?_⟩
      · rw [Nat.zero_add]; exact hat 0 (by decide)
      · rw [Nat.zero_add]; exact hat 1 (by decide)
      · rw [Nat.zero_add]; exact h2'
      · rw [Nat.zero_add]; exact hat 3 (by decide)
      · rw [Nat.zero_add]; exact hat 4 (by decide)
  · rw [List.map_map, List.map_map]
    rfl
  · intro e he
    obtain ⟨q, hq, rfl⟩ := List.mem_map.1 he
    have h1 := h.2 q hq
    rw [hF q hq] at h1
    rw [← attr_same] at h1
    obtain ⟨p, c, e2⟩ := own_len h1
    injection e2 with e3 e4
    refine ⟨e4, ?_⟩
    intro i kv hi
    have hil := (List.getElem?_eq_some_iff.1 hi).1
    have hil : i < q.1.attrs.length := hil
    obtain ⟨g, c', e5, hcell⟩ := own_at h1 (by omega)
    injection e5 with e6
    have h2 := attr_two q.1.attrs i kv hi
    have hw1 := hwa q hq
    have hw2 := waL_mem (l := q.1.attrs) hi
    refine ⟨g, 0, e6, ?_, ?_, by omega, by omega⟩
    · rw [Nat.zero_add, hcell _ (by omega)]; exact h2.1
    · rw [Nat.zero_add, hcell _ (by omega)]; exact h2.2
theorem textSum_td : ∀ l : List Te, textSum l = tdSum (l.map Prod.fst)
  | [] => rfl
  | e :: r => by rw [textSum, List.map_cons, tdSum, textSum_td r]
/-- What is built of a stable tree's tokens. -/
theorem build_page (w : World) (B : Nat) (v : Value) (l : List (Tk × Value)) (ns : List Nd) (h : ToksAt w B v l) (hl : l.map Prod.fst = tkL ns) (hs : stable ns = true) (hw : wsL ns ≤ 20000) :
    Calls Tryz.prog 8 #[v] w fun e w' => (∃ r, e = .returned (.tuple #[r, .int .i64 0]) ∧ NAt w' r ns) ∧ Below w.heap.size w w' := by
  have hq : ∀ q ∈ l, waL q.1.attrs ≤ wsL ns ∧ q.1.name.length ≤ wsL ns := fun q hq => tk_L ns q.1 (by rw [← hl]; exact List.mem_map.2 ⟨q, hq, rfl⟩)
  obtain ⟨l', h1, h2, h3, h4⟩ := tok_row h (fun q hq' => by have := (hq q hq').1; omega)
  have h5 : l'.map Prod.fst = tdL ns := by rw [h2, hl, tdL_map]
  have hlen : l'.length ≤ 40000 := by
    have e := congrArg List.length hl
    rw [List.length_map] at e
    have := tk_lenL ns
    have := ncL_ws ns
    omega
  have hmem : ∀ e ∈ l', waL e.1.attrs ≤ wsL ns ∧ e.1.name.length ≤ wsL ns := by
    intro e he
    have : e.1 ∈ (l.map Prod.fst).map toTd := by rw [← h2]; exact List.mem_map.2 ⟨e, he, rfl⟩
    obtain ⟨k, hk, e1⟩ := List.mem_map.1 this
    rw [hl] at hk
    have := tk_L ns k hk
    rw [← e1]
    exact this
  refine (build_st w v l' h1 (by omega) (by rw [textSum_td, h5]; have := tdSum_L ns; omega) (fun e he => by have := (hmem e he).2; omega) ?_).mono ?_
  · intro e he
    have ha := h4 e he
    refine clones_any w _ _ _ _ ha ?_
    have := (hmem e he).1
    have := wa_len e.1.attrs
    have := ha.1
    omega
  · rintro e w' ⟨r, err, rfl, hE, hb⟩
    obtain ⟨rfl, fp, hk⟩ := hE.2 ns (by rw [h5]; exact build_stable hs)
    exact ⟨⟨r, rfl, _, kat_nat (ncL ns) r ns fp (Nat.le_refl _) (by omega) hk⟩, hb⟩
end Go.Proofs.YtholfdfjapgfbaaGreatDoor.Dm

/-
  Plain mathematics of tokens' parts: names, texts and attributes of what is read.
-/
namespace Utf1
open Go

/-- A byte that may stand in a name that was read. -/
def NameB (c : UInt8) : Prop := isNm c = false ∧ ¬ (65 ≤ c.toNat ∧ c.toNat ≤ 90)
/-- A token as one that was read. -/
structure TkOk (t : Tk) : Prop where
  kind : 1 ≤ t.kind ∧ t.kind ≤ 4
  tag : (t.kind = 2 ∨ t.kind = 3) ↔ t.name ≠ []
  text : (t.kind = 2 ∨ t.kind = 3) → t.text = []
  only : t.kind ≠ 2 → t.closed = false ∧ t.attrs = []
  nm : ∀ c ∈ t.name, NameB c
  nodup : (t.attrs.map Prod.fst).Nodup

theorem tk_plain (k : Nat) (x : List UInt8) (h : k = 1 ∨ k = 4) : TkOk ⟨k, [], [], false, x⟩ := by
  refine ⟨?_, ?_, ?_, ?_, ?_, ?_⟩
  · show 1 ≤ k ∧ k ≤ 4
    omega
  · refine ⟨fun h' => ?_, fun h' => absurd rfl h'⟩
    simp only at h'
    omega
  · intro h'
    simp only at h'
    omega
  · exact fun _ => ⟨rfl, rfl⟩
  · intro c hc
    cases hc
  · exact List.nodup_nil

theorem addAt_nodup (acc : List (List UInt8 × List UInt8)) (n v : List UInt8) (h : (acc.map Prod.fst).Nodup) : ((addAt acc n v).map Prod.fst).Nodup := by
  unfold addAt
  split
  · exact h
  · rename_i hn
    rw [List.map_append, List.nodup_append]
    refine ⟨h, by simp, ?_⟩
    intro a ha b hb
    have : b = n := by simpa using hb
    subst this
    intro e
    subst e
    exact hn ha
theorem attrsF_nodup : ∀ (n : Nat) (acc : List (List UInt8 × List UInt8)) (s : List UInt8) (a : List (List UInt8 × List UInt8)) (cl : Bool) (r : List UInt8), (acc.map Prod.fst).Nodup → attrsF n acc s = some (a, cl, r) → (a.map Prod.fst).Nodup
  | 0, _, _, _, _, _, _, h => by cases h
  | n + 1, acc, s, a, cl, r, hn, h => by
    unfold attrsF at h
    split at h
    · cases h
    · split at h
      · cases h
        exact hn
      · split at h
        · cases h
        · exact attrsF_nodup n _ _ _ _ _ (addAt_nodup _ _ _ hn) h

theorem let_nm {c : UInt8} (h : isLet c = true) : isNm c = false ∧ c ≠ 47 := by
  have hc : (97 ≤ c.toNat ∧ c.toNat ≤ 122) ∨ (65 ≤ c.toNat ∧ c.toNat ≤ 90) := by
    unfold isLet at h
    simp only [Bool.or_eq_true, Bool.and_eq_true, decide_eq_true_eq, UInt8.le_iff_toNat_le] at h
    exact h
  have k : ∀ k : UInt8, k.toNat < 65 → (c == k) = false := by
    intro k hk
    refine beq_eq_false_iff_ne.2 ?_
    rintro rfl
    omega
  refine ⟨?_, beq_eq_false_iff_ne.1 (k 47 (by decide))⟩
  unfold isNm isBl
  rw [k 9 (by decide), k 10 (by decide), k 12 (by decide), k 13 (by decide), k 32 (by decide), k 47 (by decide), k 62 (by decide)]
  rfl
theorem beg_body {l : List UInt8} (h : beg l = 3) : ∃ c t, tagBody l = c :: t ∧ isLet c = true := by
  cases l with
  | nil => cases h
  | cons a t =>
    by_cases ha : a = 60
    · subst ha
      rw [beg_lt] at h
      cases t with
      | nil => cases h
      | cons c u =>
        unfold beg1 at h
        simp only at h
        split at h
        · cases h
        · split at h
          · cases h
          · split at h
            · rename_i hc
              refine ⟨c, u, ?_, hc⟩
              unfold tagBody
              rw [if_neg (show (60 :: c :: u).getD 1 0 ≠ 47 from (let_nm hc).2)]
              rfl
            · split at h
              · cases h
              · rename_i h47
                have h47 : c = 47 := by simpa using h47
                subst h47
                cases u with
                | nil => cases h
                | cons d v =>
                  unfold beg2 at h
                  simp only at h
                  split at h
                  · rename_i hd
                    refine ⟨d, v, ?_, hd⟩
                    unfold tagBody
                    rw [if_pos (by rfl)]
                    rfl
                  · cases h
    · rw [beg_ne t ha] at h
      cases h

theorem takeWhile_all {p : UInt8 → Bool} : ∀ (l : List UInt8), ∀ c ∈ l.takeWhile p, p c = true
  | [], c, h => by cases h
  | a :: t, c, h => by
    rw [List.takeWhile_cons] at h
    split at h
    · rename_i ha
      rcases List.mem_cons.1 h with rfl | h
      · exact ha
      · exact takeWhile_all t c h
    · cases h
theorem low_nm (d : UInt8) (h : isNm d = false) : isNm (low8 d) = false := by
  unfold low8
  split
  · rename_i hd
    have hs : SmallB (UInt8.ofNat (d.toNat + 32)) := .inl (by rw [toNat_ofNat (by omega)]; omega)
    exact (small_facts hs).1
  · exact h
theorem name_bytes (s : List UInt8) : ∀ c ∈ lower (s.takeWhile (fun x => !isNm x)), NameB c := by
  intro c hc
  refine ⟨?_, lower_no _ c hc⟩
  unfold lower at hc
  obtain ⟨d, hd, rfl⟩ := List.mem_map.1 hc
  have := takeWhile_all s d hd
  exact low_nm d (by simpa using this)

theorem tagOf_ok {l r : List UInt8} {k : Tk} (hb : beg l = 3) (h : tagOf l = some (k, r)) : TkOk k := by
  obtain ⟨c, t, hbody, hc⟩ := beg_body hb
  have hne : lower ((tagBody l).takeWhile (fun x => !isNm x)) ≠ [] := by
    rw [hbody, List.takeWhile_cons, if_pos (by rw [(let_nm hc).1]; rfl)]
    simp [lower]
  unfold tagOf at h
  split at h
  · cases h
  · rename_i a cl q he
    have hn := attrsF_nodup _ _ _ _ _ _ (by simp) he
    cases h
    split
    · refine ⟨by simp, ?_, fun _ => rfl, fun _ => ⟨rfl, rfl⟩, name_bytes _, by simp⟩
      exact ⟨fun _ => hne, fun _ => .inr rfl⟩
    · refine ⟨by simp, ?_, fun _ => rfl, fun h => absurd rfl h, name_bytes _, hn⟩
      exact ⟨fun _ => hne, fun _ => .inl rfl⟩

theorem toksF_ok : ∀ (n : Nat) (l : List UInt8), ∀ t ∈ toksF n l, TkOk t
  | 0, _, t, h => by cases h
  | _ + 1, [], t, h => by cases h
  | n + 1, c :: u, t, h => by
    unfold toksF at h
    split at h
    · rcases List.mem_cons.1 h with rfl | h
      · exact tk_plain _ _ (.inr rfl)
      · exact toksF_ok n _ t h
    · split at h
      · exact toksF_ok n _ t h
      · split at h
        · rename_i h3
          split at h
          · cases h
          · rename_i k r hk
            rcases List.mem_cons.1 h with rfl | h
            · exact tagOf_ok h3 hk
            · rcases List.mem_append.1 h with h | h
              · unfold withRaw at h
                split at h
                · split at h
                  · cases h
                  · split at h
                    · cases h
                    · rw [List.mem_singleton.1 h]
                      exact tk_plain _ _ (.inl rfl)
                · cases h
              · exact toksF_ok n _ t h
        · rcases List.mem_cons.1 h with rfl | h
          · exact tk_plain _ _ (.inl rfl)
          · exact toksF_ok n _ t h
theorem takeWhile_le (p : UInt8 → Bool) (l : List UInt8) : (l.takeWhile p).length ≤ l.length := by
  have := congrArg List.length (List.takeWhile_append_dropWhile (p := p) (l := l))
  rw [List.length_append] at this
  omega
theorem tagOf_name {l r : List UInt8} {k : Tk} (h : tagOf l = some (k, r)) : k.name.length ≤ l.length := by
  have h2 := takeWhile_le (fun x => !isNm x) (tagBody l)
  have h3 : (tagBody l).length ≤ l.length := by
    unfold tagBody
    split <;> (rw [List.length_drop]; omega)
  unfold tagOf at h
  split at h
  · cases h
  · cases h
    split <;> (simp only [lower, List.length_map]; omega)
theorem toksF_name : ∀ (n : Nat) (l : List UInt8), ∀ t ∈ toksF n l, t.name.length ≤ l.length
  | 0, _, t, h => by cases h
  | _ + 1, [], t, h => by cases h
  | n + 1, c :: u, t, h => by
    unfold toksF at h
    split at h
    · rcases List.mem_cons.1 h with rfl | h
      · exact Nat.zero_le _
      · have h1 := cut_len ((c :: u).drop 4) [45, 45, 62] (by decide)
        have h2 := toksF_name n _ t h
        rw [List.length_drop] at h1
        omega
    · split at h
      · have h1 := cut_len (c :: u) [62] (by decide)
        have h2 := toksF_name n _ t h
        omega
      · split at h
        · split at h
          · cases h
          · rename_i k r hk
            have h4 := tagOf_len hk
            have h5 := withRaw_len k r
            rcases List.mem_cons.1 h with rfl | h
            · exact tagOf_name hk
            · rcases List.mem_append.1 h with h | h
              · unfold withRaw at h
                split at h
                · split at h
                  · cases h
                  · split at h
                    · cases h
                    · rw [List.mem_singleton.1 h]
                      exact Nat.zero_le _
                · cases h
              · have := toksF_name n _ t h
                omega
        · rcases List.mem_cons.1 h with rfl | h
          · exact Nat.zero_le _
          · have h2 := toksF_name n _ t h
            rw [List.length_drop] at h2
            omega
theorem toks_name (l : List UInt8) : ∀ t ∈ toks l, t.name.length ≤ l.length := toksF_name _ _
theorem withRaw_cnt (t : Tk) (r : List UInt8) : (withRaw t r).1.length + (withRaw t r).2.length ≤ r.length := by
  unfold withRaw
  split
  · split
    · simp
    · split
      · simp
      · rename_i h
        have := rawLen_le t.name r
        simp
        omega
  · simp
theorem toksF_many : ∀ (n : Nat) (l : List UInt8), (toksF n l).length ≤ l.length
  | 0, _ => Nat.zero_le _
  | _ + 1, [] => Nat.zero_le _
  | n + 1, c :: u => by
    unfold toksF
    split
    · have h1 := cut_len ((c :: u).drop 4) [45, 45, 62] (by decide)
      have h2 := toksF_many n (Lib.cut ((c :: u).drop 4) [45, 45, 62]).2.1
      rw [List.length_drop] at h1
      simp only [List.length_cons] at h1 ⊢
      omega
    · split
      · have h1 := cut_len (c :: u) [62] (by decide)
        have h2 := toksF_many n (Lib.cut (c :: u) [62]).2.1
        omega
      · split
        · split
          · exact Nat.zero_le _
          · rename_i k r hk
            have h4 := tagOf_len hk
            have h5 := withRaw_cnt k r
            have h6 := toksF_many n (withRaw k r).2
            simp only [List.length_cons, List.length_append] at h4 ⊢
            omega
        · rename_i h1 h2 h3
          have h0 : beg (c :: u) = 0 := by have := beg_le (c :: u); omega
          have h6 := stop_pos c u h0
          have h7 := toksF_many n ((c :: u).drop (stop (c :: u)))
          rw [List.length_drop] at h7
          simp only [List.length_cons] at h7 ⊢
          omega
theorem toks_many (l : List UInt8) : (toks l).length ≤ l.length := toksF_many _ _
theorem toks_ok (l : List UInt8) : ∀ t ∈ toks l, TkOk t := toksF_ok _ _
end Utf1

/-
  How much the tokens of a page weigh.
-/
namespace Utf1
open Go

/-- A token's weight. -/
def kw (k : Tk) : Nat := 1 + k.name.length + k.text.length + waL k.attrs
def kws : List Tk → Nat
  | [] => 0
  | k :: r => kw k + kws r
theorem kws_app : ∀ a b, kws (a ++ b) = kws a + kws b
  | [], b => by simp [kws]
  | k :: a, b => by
    rw [List.cons_append, kws, kws, kws_app a b]
    omega
theorem two_len {α : Type} (p : α → Bool) (l : List α) : (l.takeWhile p).length + (l.dropWhile p).length = l.length := by
  rw [← List.length_append, List.takeWhile_append_dropWhile]
theorem oneAt_sum {c : UInt8} {t nm v r : List UInt8} (h : oneAt c t = some (nm, v, r)) : nm.length + v.length + r.length ≤ t.length + 1 ∧ 1 ≤ nm.length := by
  have h1 := two_len (fun x => !isAt x) t
  unfold oneAt at h
  have h2 := drop_le isBl (t.dropWhile (fun x => !isAt x))
  split at h
  · rename_i u hu
    rw [hu] at h2
    simp only [List.length_cons] at h2
    have h3 := drop_le isBl u
    split at h
    · rename_i q v0 hv
      rw [hv] at h3
      simp only [List.length_cons] at h3
      split at h
      · have h4 := two_len (fun x => x != q) v0
        split at h
        · cases h
        · rename_i x r0 hr
          rw [hr] at h4
          simp only [List.length_cons] at h4
          cases h
          simp only [List.length_cons]
          omega
      · have h4 := two_len (fun x => !isVa x) (q :: v0)
        simp only [List.length_cons] at h4
        cases h
        simp only [List.length_cons]
        omega
    · cases h
      simp only [List.length_cons, List.length_nil]
      omega
  · rename_i s2 _
    cases h
    simp only [List.length_cons, List.length_nil]
    omega
theorem lower_len (l : List UInt8) : (lower l).length = l.length := by
  unfold lower
  rw [List.length_map]
theorem waL_add (acc : List (List UInt8 × List UInt8)) (n v : List UInt8) : waL (addAt acc n v) ≤ waL acc + (1 + n.length + v.length) := by
  unfold addAt
  split
  · omega
  · rw [waL_app]
    show _ + (1 + n.length + v.length + 0) ≤ _
    omega
theorem attrsF_sum : ∀ (n : Nat) (acc : List (List UInt8 × List UInt8)) (s : List UInt8) (a : List (List UInt8 × List UInt8)) (cl : Bool) (r : List UInt8), attrsF n acc s = some (a, cl, r) → waL a + 2 * r.length ≤ waL acc + 2 * s.length
  | 0, _, _, _, _, _, h => by cases h
  | n + 1, acc, s, a, cl, r, h => by
    unfold attrsF at h
    have h1 := drop_le isGap s
    split at h
    · cases h
    · rename_i c t he
      rw [he] at h1
      simp only [List.length_cons] at h1
      split at h
      · cases h
        omega
      · split at h
        · cases h
        · rename_i nm v q h1a
          have h2 := oneAt_sum h1a
          have h3 := attrsF_sum n _ _ _ _ _ h
          have h4 := waL_add acc (lower nm) (res v)
          rw [lower_len] at h4
          have h5 := res_len v
          omega
theorem tagOf_sum {l r : List UInt8} {k : Tk} (hl : 2 ≤ l.length) (h : tagOf l = some (k, r)) : kw k + 2 * r.length ≤ 2 * l.length := by
  unfold tagOf at h
  split at h
  · cases h
  · rename_i a cl q he
    cases h
    have h1 := attrsF_sum _ _ _ _ _ _ he
    have h2 := two_len (fun x => !isNm x) (tagBody l)
    have h3 : (tagBody l).length + 1 ≤ l.length := by
      unfold tagBody
      split <;> (rw [List.length_drop]; omega)
    have hw : waL ([] : List (List UInt8 × List UInt8)) = 0 := rfl
    rw [hw] at h1
    split
    · unfold kw
      simp only [lower_len, List.length_nil, hw]
      omega
    · unfold kw
      simp only [lower_len, List.length_nil]
      omega
theorem withRaw_sum (t : Tk) (r : List UInt8) : kws (withRaw t r).1 + 2 * (withRaw t r).2.length ≤ 2 * r.length := by
  unfold withRaw
  split
  · split
    · show 0 + 2 * r.length ≤ _
      omega
    · rename_i b _
      split
      · show 0 + 2 * r.length ≤ _
        omega
      · rename_i hne
        have h1 := rawLen_le t.name r
        have h2 := res_len (r.take (rawLen t.name r))
        simp only [kws, kw, List.length_drop, List.length_nil]
        have hw : waL ([] : List (List UInt8 × List UInt8)) = 0 := rfl
        rw [hw]
        rw [List.length_take] at h2
        split
        · omega
        · rw [List.length_take]
          omega
  · show 0 + 2 * r.length ≤ _
    omega
theorem beg_len {l : List UInt8} (h : beg l = 3) : 2 ≤ l.length := by
  match l, h with
  | [], h => exact absurd h (by decide)
  | [c], h =>
    exfalso
    by_cases hc : c = 60
    · subst hc
      exact absurd h (by decide)
    · rw [beg_ne [] hc] at h
      exact absurd h (by decide)
  | a :: b :: t, _ => simp
theorem cut_sum (s sep : List UInt8) : (Lib.cut s sep).1.length + (Lib.cut s sep).2.1.length ≤ s.length := by
  unfold Lib.cut
  split
  · simp only [List.length_take, List.length_drop]
    omega
  · simp
theorem toksF_sum : ∀ (n : Nat) (l : List UInt8), kws (toksF n l) ≤ 2 * l.length
  | 0, l => Nat.zero_le _
  | n + 1, [] => Nat.zero_le _
  | n + 1, c :: t => by
    unfold toksF
    by_cases h1 : beg (c :: t) = 1
    · rw [if_pos h1, kws]
      have h2 := toksF_sum n (Lib.cut ((c :: t).drop 4) [45, 45, 62]).2.1
      have h3 := cut_sum ((c :: t).drop 4) [45, 45, 62]
      rw [List.length_drop] at h3
      simp only [kw, List.length_nil]
      have hw : waL ([] : List (List UInt8 × List UInt8)) = 0 := rfl
      rw [hw]
      have h4 : 1 ≤ (c :: t).length := by simp
      omega
    · rw [if_neg h1]
      by_cases h2 : beg (c :: t) = 2
      · rw [if_pos h2]
        have h3 := toksF_sum n (Lib.cut (c :: t) [62]).2.1
        have h4 := cut_sum (c :: t) [62]
        omega
      · rw [if_neg h2]
        by_cases h3 : beg (c :: t) = 3
        · rw [if_pos h3]
          split
          · exact Nat.zero_le _
          · rename_i k r hk
            have h4 := tagOf_sum (beg_len h3) hk
            have h5 := withRaw_sum k r
            have h6 := toksF_sum n (withRaw k r).2
            rw [kws, kws_app]
            omega
        · rw [if_neg h3, kws]
          have hb : beg (c :: t) = 0 := by
            have := beg_le (c :: t)
            omega
          have h4 := stop_pos c t hb
          have h5 := stop_le (c :: t)
          have h6 := toksF_sum n ((c :: t).drop (stop (c :: t)))
          have h7 := res_len ((c :: t).take (stop (c :: t)))
          rw [List.length_drop] at h6
          rw [List.length_take] at h7
          simp only [kw, List.length_nil]
          have hw : waL ([] : List (List UInt8 × List UInt8)) = 0 := rfl
          rw [hw]
          omega
theorem toks_sum (l : List UInt8) : kws (toks l) ≤ 2 * l.length := toksF_sum _ _
end Utf1

/-
  How many nodes are built.
-/
namespace Go.Proofs.YtholfdfjapgfbaaGreatDoor.Dm
open Go.RowKit
open Utf1

theorem runB_good : ∀ (l : List Td) (s u : Bs), Good s → s.o ≤ 64 → s.n ≤ 2000 → runB l s = some u → Good u ∧ u.o ≤ 64 ∧ u.n ≤ 2000
  | [], s, u, h, h1, h2, e => by
    cases e
    exact ⟨h, h1, h2⟩
  | k :: l, s, u, h, h1, h2, e => by
    unfold runB at e
    split at e
    · rename_i hc
      exact runB_good l _ u (take_good h k).1 hc.1 hc.2 e
    · cases e
theorem tree_cnt {s : Bs} (h : Good s) : cntL (treeB s) = s.n := by
  have g := shut_good h (Nat.le_refl 1) (List.length_pos_iff.2 h.ne)
  obtain ⟨nd, hnd⟩ := List.length_eq_one_iff.1 g.2.2
  have hc := g.1.cnt
  unfold treeB
  rw [hnd] at hc ⊢
  have hc : cntN nd + 0 + tx (shutB 1 s).t = s.n + 1 := hc
  have h1 := cnt_text nd (shutB 1 s).t
  have h2 := cntN_kids (textIn nd (shutB 1 s).t)
  show cntL (textIn nd (shutB 1 s).t).kids = _
  omega
theorem build_cnt {l : List Td} {ns : List Nd} (h : buildB l = some ns) : cntL ns ≤ 2000 := by
  unfold buildB at h
  cases hr : runB l bs0 with
  | none => rw [hr] at h; cases h
  | some u =>
    rw [hr] at h
    cases h
    have := runB_good l bs0 u good0 (by decide) (by decide) hr
    rw [tree_cnt this.1]
    exact this.2.2
theorem build_cnt' (l : List Td) : cntL ((buildB l).getD []) ≤ 2000 := by
  cases h : buildB l with
  | none => exact Nat.zero_le _
  | some ns => exact build_cnt h

end Go.Proofs.YtholfdfjapgfbaaGreatDoor.Dm

/-
  How deep a tree is; what closing keeps.
-/
namespace Utf1
mutual
/-- How many elements stand within one another. -/
def deepN : Nd → Nat
  | .mk n _ _ k => deepL k + (if n = [] then 0 else 1)
def deepL : List Nd → Nat
  | [] => 0
  | n :: r => max (deepN n) (deepL r)
end
theorem deepN_kids (n : Nd) : deepN n = deepL n.kids + (if n.name = [] then 0 else 1) := by
  cases n
  rw [deepN]
  rfl
theorem deepL_app : ∀ a b : List Nd, deepL (a ++ b) = max (deepL a) (deepL b)
  | [], b => by simp [deepL]
  | n :: a, b => by
    rw [List.cons_append, deepL, deepL, deepL_app a b]
    omega
mutual
theorem deepN_cnt : ∀ n : Nd, deepN n ≤ cntN n
  | .mk n a t k => by
    rw [deepN, cntN]
    have := deepL_cnt k
    split <;> omega
theorem deepL_cnt : ∀ l : List Nd, deepL l ≤ cntL l
  | [] => Nat.le_refl _
  | n :: r => by
    rw [deepL, cntL]
    have := deepN_cnt n
    have := deepL_cnt r
    omega
end
end Utf1
namespace Go.Proofs.YtholfdfjapgfbaaGreatDoor.Dm
open Go.RowKit
open Utf1

theorem addKid_text (p x : Nd) : (addKid p x).text = p.text := by
  cases p
  rfl
theorem textIn_text (p : Nd) (t : List UInt8) : (textIn p t).text = p.text := by
  unfold textIn
  split
  · rfl
  · exact addKid_text _ _
theorem closeR_ind {Pr : List Nd → List UInt8 → Prop} (h1 : ∀ nd p r t, Pr (nd :: p :: r) t → Pr (addKid p (textIn nd t) :: r) []) : ∀ n r t, Pr r t → Pr (closeR n r t).1 (closeR n r t).2
  | 0, r, t, h => by
    have : closeR 0 r t = (r, t) := by cases r <;> rfl
    rw [this]
    exact h
  | n + 1, [], t, h => h
  | n + 1, [a], t, h => h
  | n + 1, nd :: p :: r, t, h => closeR_ind h1 n _ _ (h1 nd p r t h)
theorem closeIn_ind {Pr : List Nd → List UInt8 → Prop} (h1 : ∀ nd p r t, Pr (nd :: p :: r) t → Pr (addKid p (textIn nd t) :: r) []) (ns : List (List UInt8)) (r : List Nd) (t : List UInt8) (h : Pr r t) : Pr (closeIn ns r t).1 (closeIn ns r t).2 := by
  unfold closeIn
  split
  · exact closeR_ind h1 _ _ _ h
  · exact h
theorem wayR_ind {Pr : List Nd → List UInt8 → Prop} (h1 : ∀ nd p r t, Pr (nd :: p :: r) t → Pr (addKid p (textIn nd t) :: r) []) (name : List UInt8) (r : List Nd) (t : List UInt8) (h : Pr r t) : Pr (wayR name r t).1 (wayR name r t).2 := by
  have c := closeIn_ind h1 [[112]] r t h
  unfold wayR
  split
  · split
    · split
      · exact closeR_ind h1 _ _ _ c
      · exact c
    · exact c
  · exact h


end Go.Proofs.YtholfdfjapgfbaaGreatDoor.Dm

/-
  What is built nests as it may.
-/
namespace Utf1
mutual
/-- A node is as one that was built: within a p, within a li, behind a text. -/
def FineN (bs vs : List (List UInt8)) : Nd → Bool → Bool → Bool → Prop
  | .mk n a t k, p, li, pr => (n = [] → t ≠ [] ∧ k = [] ∧ a = [] ∧ pr = false) ∧ (n ≠ [] → t = [] ∧ ¬ (p = true ∧ n ∈ bs) ∧ ¬ (li = true ∧ n = [108, 105]) ∧ (n ∈ vs → k = []) ∧ FineL bs vs k (p || decide (n = [112])) ((li && decide (n ≠ [117, 108]) && decide (n ≠ [111, 108])) || decide (n = [108, 105])) false)
def FineL (bs vs : List (List UInt8)) : List Nd → Bool → Bool → Bool → Prop
  | [], _, _, _ => True
  | nd :: r, p, li, pr => FineN bs vs nd p li pr ∧ FineL bs vs r p li (decide (nd.name = []))
end
end Utf1
namespace Go.Proofs.YtholfdfjapgfbaaGreatDoor.Dm
open Go.RowKit
open Utf1

/-- Whether a text stands last. -/
def lastT (l : List Nd) (pr : Bool) : Bool := match l.getLast? with | none => pr | some y => decide (y.name = [])
theorem lastT_cons (x : Nd) (l : List Nd) (pr : Bool) : lastT (x :: l) pr = lastT l (decide (x.name = [])) := by
  unfold lastT
  cases l with
  | nil => rfl
  | cons a b =>
    rw [List.getLast?_cons_cons]
    obtain ⟨y, hy⟩ : ∃ y, (a :: b).getLast? = some y := ⟨_, List.getLast?_eq_some_getLast (by simp)⟩
    rw [hy]
theorem lastT_snoc (l : List Nd) (x : Nd) (pr : Bool) : lastT (l ++ [x]) pr = decide (x.name = []) := by
  unfold lastT
  rw [List.getLast?_concat]
theorem fine_app {bs vs : List (List UInt8)} : ∀ (a : List Nd) (x : Nd) (p li pr : Bool), FineL bs vs a p li pr → FineN bs vs x p li (lastT a pr) → FineL bs vs (a ++ [x]) p li pr
  | [], x, p, li, pr, _, h => by
    show FineL bs vs [x] p li pr
    rw [FineL]
    exact ⟨h, by rw [FineL]; trivial⟩
  | y :: a, x, p, li, pr, h1, h2 => by
    rw [List.cons_append, FineL]
    rw [FineL] at h1
    rw [lastT_cons] at h2
    exact ⟨h1.1, fine_app a x p li _ h1.2 h2⟩

/-- What stands around: within a p; the innermost of li, ul, ol is a li. Of names, the innermost first, the root last. -/
def ctxN : List (List UInt8) → Bool × Bool
  | [] => (false, false)
  | a :: rest => if rest = [] then (false, false) else ((ctxN rest).1 || decide (a = [112]), ((ctxN rest).2 && decide (a ≠ [117, 108]) && decide (a ≠ [111, 108])) || decide (a = [108, 105]))
def okN : List (List UInt8) → Prop
  | [] => True
  | a :: rest => (rest ≠ [] → ¬ ((ctxN rest).1 = true ∧ a ∈ blocks) ∧ ¬ ((ctxN rest).2 = true ∧ a = [108, 105])) ∧ okN rest
def innerN (ns : List (List UInt8)) : List (List UInt8) → Nat
  | [] => 0
  | a :: rest => if rest = [] then 0 else if a ∈ ns then rest.length else innerN ns rest
theorem inner_names (ns : List (List UInt8)) : ∀ r : List Nd, innerR ns r = innerN ns (r.map Nd.name)
  | [] => rfl
  | nd :: rest => by
    rw [List.map_cons]
    unfold innerR innerN
    by_cases h : rest = []
    · rw [if_pos h, if_pos (by rw [h]; rfl)]
    · have h' : rest.map Nd.name ≠ [] := by simpa using h
      rw [if_neg h, if_neg h', List.length_map, inner_names ns rest]
theorem close_names : ∀ (n : Nat) (r : List Nd) (t : List UInt8), n < r.length → (closeR n r t).1.map Nd.name = (r.map Nd.name).drop n
  | 0, r, t, _ => by
    have : closeR 0 r t = (r, t) := by cases r <;> rfl
    rw [this]
    rfl
  | n + 1, [], t, h => by simp at h
  | n + 1, [_], t, h => by simp at h
  | n + 1, nd :: p :: r, t, h => by
    have ih := close_names n (addKid p (textIn nd t) :: r) [] (by simp only [List.length_cons] at h ⊢; omega)
    show (closeR n (addKid p (textIn nd t) :: r) []).1.map Nd.name = _
    rw [ih]
    simp only [List.map_cons, addKid_name, List.drop_succ_cons]
theorem innerN_lt (ns : List (List UInt8)) : ∀ L : List (List UInt8), L ≠ [] → innerN ns L < L.length
  | [], h => absurd rfl h
  | a :: rest, _ => by
    unfold innerN
    split
    · simp
    · rename_i hr
      split
      · simp
      · have := innerN_lt ns rest hr
        simp only [List.length_cons]
        omega
theorem okN_drop : ∀ (n : Nat) (L : List (List UInt8)), okN L → okN (L.drop n)
  | 0, _, h => h
  | _ + 1, [], h => h
  | n + 1, _ :: rest, h => okN_drop n rest h.2
theorem ctx_drop : ∀ (n : Nat) (L : List (List UInt8)), (ctxN L).1 = false → (ctxN (L.drop n)).1 = false
  | 0, L, h => h
  | n + 1, [], h => h
  | n + 1, a :: rest, h => by
    refine ctx_drop n rest ?_
    unfold ctxN at h
    split at h
    · rename_i hr
      rw [hr]
      rfl
    · simp only [Bool.or_eq_false_iff] at h
      exact h.1
/-- Names that are left where the innermost of some names is closed. -/
def shutN (ns : List (List UInt8)) (L : List (List UInt8)) : List (List UInt8) := if 0 < innerN ns L then L.drop (L.length - innerN ns L) else L
theorem p_closed : ∀ L : List (List UInt8), okN L → (ctxN (shutN [[112]] L)).1 = false
  | [], _ => rfl
  | a :: rest, h => by
    by_cases hr : rest = []
    · subst hr
      rfl
    · have ih := p_closed rest h.2
      have hpos : 0 < rest.length := List.length_pos_iff.2 hr
      unfold shutN innerN
      rw [if_neg hr]
      by_cases ha : a ∈ [[112]]
      · rw [if_pos ha, if_pos hpos, List.length_cons, Nat.add_sub_cancel_left]
        have ha' : a = [112] := by simpa using ha
        have := (h.1 hr).1
        show (ctxN rest).1 = false
        cases hc : (ctxN rest).1 with
        | false => rfl
        | true => exact absurd ⟨hc, by rw [ha']; decide⟩ this
      · rw [if_neg ha]
        unfold shutN at ih
        have hlt := innerN_lt [[112]] rest hr
        by_cases hi : 0 < innerN [[112]] rest
        · rw [if_pos hi] at ih ⊢
          rw [List.length_cons, show rest.length + 1 - innerN [[112]] rest = (rest.length - innerN [[112]] rest) + 1 by omega, List.drop_succ_cons]
          exact ih
        · rw [if_neg hi] at ih ⊢
          unfold ctxN
          rw [if_neg hr]
          have : decide (a = [112]) = false := decide_eq_false (by simpa using ha)
          show ((ctxN rest).1 || decide (a = [112])) = false
          rw [ih, this]
          rfl
theorem li_closed : ∀ L : List (List UInt8), okN L → (L.reverse[innerN [[108, 105], [117, 108], [111, 108]] L]? = some [108, 105] → (ctxN (L.drop (L.length - innerN [[108, 105], [117, 108], [111, 108]] L))).2 = false) ∧ (L.reverse[innerN [[108, 105], [117, 108], [111, 108]] L]? ≠ some [108, 105] → (ctxN L).2 = false)
  | [], _ => ⟨fun _ => rfl, fun _ => rfl⟩
  | a :: rest, h => by
    by_cases hr : rest = []
    · subst hr
      exact ⟨fun _ => rfl, fun _ => rfl⟩
    · have ih := li_closed rest h.2
      have hpos : 0 < rest.length := List.length_pos_iff.2 hr
      have hlt := innerN_lt [[108, 105], [117, 108], [111, 108]] rest hr
      unfold innerN
      rw [if_neg hr]
      by_cases ha : a ∈ [[108, 105], [117, 108], [111, 108]]
      · rw [if_pos ha, List.length_cons, Nat.add_sub_cancel_left, List.reverse_cons, List.getElem?_append_right (by simp), List.length_reverse, Nat.sub_self]
        constructor
        · intro e
          have ha' : a = [108, 105] := by simpa using e
          have := (h.1 hr).2
          show (ctxN rest).2 = false
          cases hc : (ctxN rest).2 with
          | false => rfl
          | true => exact absurd ⟨hc, ha'⟩ this
        · intro e
          have ha' : a ≠ [108, 105] := by simpa using e
          unfold ctxN
          rw [if_neg hr]
          simp only [List.mem_cons, List.not_mem_nil, or_false] at ha
          rcases ha with rfl | rfl | rfl
          · exact absurd rfl ha'
          · simp
          · simp
      · rw [if_neg ha]
        have hge : (rest.reverse ++ [a])[innerN [[108, 105], [117, 108], [111, 108]] rest]? = rest.reverse[innerN [[108, 105], [117, 108], [111, 108]] rest]? := List.getElem?_append_left (by rw [List.length_reverse]; exact hlt)
        rw [List.reverse_cons, hge]
        simp only [List.mem_cons, List.not_mem_nil, or_false, not_or] at ha
        constructor
        · intro e
          rw [List.length_cons, show rest.length + 1 - innerN [[108, 105], [117, 108], [111, 108]] rest = (rest.length - innerN [[108, 105], [117, 108], [111, 108]] rest) + 1 by omega, List.drop_succ_cons]
          exact ih.1 e
        · intro e
          have := ih.2 e
          unfold ctxN
          rw [if_neg hr]
          show ((ctxN rest).2 && decide (a ≠ [117, 108]) && decide (a ≠ [111, 108]) || decide (a = [108, 105])) = false
          rw [this, decide_eq_false ha.1]
          rfl
/-- Where an element of a name may be put. -/
theorem way_ctx (name : List UInt8) (r : List Nd) (t : List UInt8) (hr : r ≠ []) (hok : okN (r.map Nd.name)) (hroot : r.getLast?.map Nd.name = some []) : (name ∈ blocks → (ctxN ((wayR name r t).1.map Nd.name)).1 = false) ∧ (name = [108, 105] → (ctxN ((wayR name r t).1.map Nd.name)).2 = false) := by
  have hlt := innerR_lt [[112]] r hr
  have hc1 : (closeIn [[112]] r t).1.map Nd.name = shutN [[112]] (r.map Nd.name) := by
    unfold closeIn shutN
    rw [← inner_names, List.length_map]
    split
    · exact close_names _ r t (by omega)
    · rfl
  have hp := p_closed _ hok
  rw [← hc1] at hp
  have hok1 : okN ((closeIn [[112]] r t).1.map Nd.name) := by
    rw [hc1]
    unfold shutN
    split
    · exact okN_drop _ _ hok
    · exact hok
  have hc := closeIn_all [[112]] r t hr
  have hne : (closeIn [[112]] r t).1 ≠ [] := List.length_pos_iff.1 hc.1
  have hroot1 := (closeIn_root [[112]] r t hr).trans hroot
  obtain ⟨r1, t1, e1⟩ : ∃ r1 t1, closeIn [[112]] r t = (r1, t1) := ⟨_, _, rfl⟩
  rw [e1] at hp hok1 hne hroot1
  have hp : (ctxN (r1.map Nd.name)).1 = false := hp
  have hl := li_closed _ hok1
  have hlt2 := innerR_lt [[108, 105], [117, 108], [111, 108]] r1 hne
  unfold wayR
  rw [e1]
  by_cases hb : name ∈ blocks
  · rw [if_pos hb]
    by_cases hli : name = [108, 105]
    · rw [if_pos hli]
      simp only []
      have hget : r1.reverse[innerR [[108, 105], [117, 108], [111, 108]] r1]?.map Nd.name = (r1.map Nd.name).reverse[innerN [[108, 105], [117, 108], [111, 108]] (r1.map Nd.name)]? := by
        rw [← inner_names, ← List.map_reverse, List.getElem?_map]
      by_cases hh : r1.reverse[innerR [[108, 105], [117, 108], [111, 108]] r1]?.map Nd.name = some [108, 105]
      · rw [if_pos hh]
        by_cases h0 : innerR [[108, 105], [117, 108], [111, 108]] r1 = 0
        · exfalso
          rw [h0, ← List.head?_eq_getElem?, List.head?_reverse, hroot1] at hh
          exact absurd hh (by decide)
        · have hcn := close_names (r1.length - innerR [[108, 105], [117, 108], [111, 108]] r1) r1 t1 (by omega)
          refine ⟨fun _ => ?_, fun _ => ?_⟩
          · rw [hcn]
            exact ctx_drop _ _ hp
          · rw [hcn]
            have := hl.1 (by rw [← hget]; exact hh)
            rw [List.length_map, ← inner_names] at this
            exact this
      · rw [if_neg hh]
        exact ⟨fun _ => hp, fun _ => hl.2 (by rw [← hget]; exact hh)⟩
    · rw [if_neg hli]
      exact ⟨fun _ => hp, fun e => absurd e hli⟩
  · rw [if_neg hb]
    exact ⟨fun h => absurd h hb, fun e => absurd (by rw [e]; decide) hb⟩
end Go.Proofs.YtholfdfjapgfbaaGreatDoor.Dm

/-
  What is built nests as it may: the builder's states.
-/
namespace Go.Proofs.YtholfdfjapgfbaaGreatDoor.Dm
open Go.RowKit
open Utf1

theorem FineN_iff {bs vs : List (List UInt8)} (x : Nd) (p li pr : Bool) : FineN bs vs x p li pr ↔ (x.name = [] → x.text ≠ [] ∧ x.kids = [] ∧ x.attrs = [] ∧ pr = false) ∧ (x.name ≠ [] → x.text = [] ∧ ¬ (p = true ∧ x.name ∈ bs) ∧ ¬ (li = true ∧ x.name = [108, 105]) ∧ (x.name ∈ vs → x.kids = []) ∧ FineL bs vs x.kids (p || decide (x.name = [112])) ((li && decide (x.name ≠ [117, 108]) && decide (x.name ≠ [111, 108])) || decide (x.name = [108, 105])) false) := by
  cases x
  rw [FineN]
  exact Iff.rfl
theorem fine_textIn {bs vs : List (List UInt8)} (nd : Nd) (t : List UInt8) (p li : Bool) (h : FineL bs vs nd.kids p li false) (hl : lastT nd.kids false = false) : FineL bs vs (textIn nd t).kids p li false := by
  unfold textIn
  split
  · exact h
  · rename_i ht
    show FineL bs vs (nd.kids ++ [.mk [] [] t []]) p li false
    refine fine_app nd.kids _ p li false h ?_
    rw [FineN_iff]
    exact ⟨fun _ => ⟨ht, rfl, rfl, hl⟩, fun hn => absurd rfl hn⟩
theorem deep_textIn (nd : Nd) (t : List UInt8) : deepL (textIn nd t).kids = deepL nd.kids := by
  unfold textIn
  split
  · rfl
  · show deepL (nd.kids ++ [.mk [] [] t []]) = _
    rw [deepL_app]
    have : deepL [.mk [] [] t []] = 0 := rfl
    omega
theorem kids_add (p x : Nd) : (addKid p x).kids = p.kids ++ [x] := by
  cases p
  rfl

/-- The context within the innermost of open nodes. -/
def ctxR (r : List Nd) : Bool × Bool := ctxN (r.map Nd.name)
def okR : List Nd → Prop
  | [] => True
  | nd :: rest => (rest ≠ [] → nd.name ≠ [] ∧ nd.text = [] ∧ nd.name ∉ voids) ∧ FineL blocks voids nd.kids (ctxR (nd :: rest)).1 (ctxR (nd :: rest)).2 false ∧ okR rest
def dpR : List Nd → Prop
  | [] => True
  | nd :: rest => rest.length + deepL nd.kids ≤ 65 ∧ dpR rest
structure Fi (K : Nat) (r : List Nd) : Prop where
  ok : okR r
  nm : okN (r.map Nd.name)
  lk : ∀ nd q, r = nd :: q → lastT nd.kids false = false
  dp : dpR r
  len : r.length ≤ K
theorem ctx_same {a b : Nd} (r : List Nd) (h : a.name = b.name) : ctxR (a :: r) = ctxR (b :: r) := by
  unfold ctxR
  rw [List.map_cons, List.map_cons, h]
theorem names_same {a b : Nd} (r : List Nd) (h : a.name = b.name) : (a :: r).map Nd.name = (b :: r).map Nd.name := by rw [List.map_cons, List.map_cons, h]
theorem ctx_in (nd p : Nd) (r : List Nd) : ctxR (nd :: p :: r) = ((ctxR (p :: r)).1 || decide (nd.name = [112]), ((ctxR (p :: r)).2 && decide (nd.name ≠ [117, 108]) && decide (nd.name ≠ [111, 108])) || decide (nd.name = [108, 105])) := by
  unfold ctxR
  rw [List.map_cons]
  rw [ctxN, if_neg (by simp)]

theorem close_fi (K : Nat) : ∀ nd p r, Fi K (nd :: p :: r) → ∀ t, Fi K (addKid p (textIn nd t) :: r) := by
  intro nd p r h t
  obtain ⟨⟨o1, o2, o3⟩, ⟨n1, n2⟩, lk, ⟨d1, d2⟩, len⟩ := h
  obtain ⟨e1, e2, e3⟩ := o1 (by simp)
  have hlk := lk nd (p :: r) rfl
  have hn := n1 (by simp)
  have hX : FineN blocks voids (textIn nd t) (ctxR (p :: r)).1 (ctxR (p :: r)).2 (lastT p.kids false) := by
    rw [FineN_iff, textIn_name, textIn_text]
    refine ⟨fun e => absurd e e1, fun _ => ⟨e2, hn.1, hn.2, fun e => absurd e e3, ?_⟩⟩
    refine fine_textIn nd t _ _ ?_ hlk
    rw [ctx_in] at o2
    exact o2
  obtain ⟨q1, q2, q3⟩ := o3
  refine ⟨⟨?_, ?_, q3⟩, ?_, ?_, ⟨?_, d2.2⟩, ?_⟩
  · intro hr
    rw [addKid_name, addKid_text]
    exact q1 hr
  · rw [ctx_same r (addKid_name p (textIn nd t)), kids_add]
    exact fine_app _ _ _ _ _ q2 hX
  · rw [names_same r (addKid_name p (textIn nd t))]
    exact n2
  · intro a q e
    cases e
    rw [kids_add, lastT_snoc, textIn_name]
    exact decide_eq_false e1
  · rw [kids_add, deepL_app]
    have h1 : deepL [textIn nd t] = deepL nd.kids + 1 := by
      rw [deepL, deepL, deepN_kids, textIn_name, if_neg e1, deep_textIn]
      omega
    have h2 := d2.1
    simp only [List.length_cons] at d1
    omega
  · simp only [List.length_cons] at len ⊢
    omega

theorem start_fi {s : Bs} (hg : Good s) (name : List UInt8) (at' : List (List UInt8 × List UInt8)) (h : Fi (s.o + 1) s.r) (ho : s.o ≤ 64) : Fi ((startB name at' s).o + 1) (startB name at' s).r := by
  have hw := wayR_ind (Pr := fun r _ => Fi (s.o + 1) r) (fun nd p r t h => close_fi _ nd p r h t) name s.r s.t h
  have hctx := way_ctx name s.r s.t hg.ne h.nm hg.root
  unfold startB startR
  by_cases hn : name = []
  · rw [if_pos hn]
    exact h
  · rw [if_neg hn]
    cases hh : (wayR name s.r s.t).1 with
    | nil => exact h
    | cons nd q =>
      rw [hh] at hw hctx
      obtain ⟨⟨o1, o2, o3⟩, n2, lk, ⟨d1, d2⟩, len⟩ := hw
      have hlk := lk nd q rfl
      simp only []
      generalize (wayR name s.r s.t).2 = t1
      have hk := fine_textIn nd t1 _ _ o2 hlk
      have hdt := deep_textIn nd t1
      simp only [List.length_cons] at len
      have hX : ∀ pr, FineN blocks voids (.mk name at' [] []) (ctxR (nd :: q)).1 (ctxR (nd :: q)).2 pr := by
        intro pr
        rw [FineN_iff]
        refine ⟨fun e => absurd e hn, fun _ => ⟨rfl, ?_, ?_, fun _ => rfl, ?_⟩⟩
        · rintro ⟨e1, e2⟩
          have := hctx.1 e2
          unfold ctxR at e1
          rw [this] at e1
          cases e1
        · rintro ⟨e1, e2⟩
          have := hctx.2 e2
          unfold ctxR at e1
          rw [this] at e1
          cases e1
        · show FineL blocks voids [] _ _ _
          rw [FineL]
          trivial
      by_cases hv : name ∈ voids
      · rw [if_pos hv]
        show Fi (s.o + 1) (addKid (textIn nd t1) (.mk name at' [] []) :: q)
        have hnm : (addKid (textIn nd t1) (.mk name at' [] [])).name = nd.name := by rw [addKid_name, textIn_name]
        refine ⟨⟨?_, ?_, o3⟩, ?_, ?_, ⟨?_, d2⟩, by simp only [List.length_cons]; exact len⟩
        · intro hq
          rw [hnm, addKid_text, textIn_text]
          exact o1 hq
        · rw [ctx_same q hnm, kids_add]
          exact fine_app _ _ _ _ _ hk (hX _)
        · rw [names_same q hnm]
          exact n2
        · intro a b e
          cases e
          rw [kids_add, lastT_snoc]
          exact decide_eq_false hn
        · rw [kids_add, deepL_app, hdt]
          have h1 : deepL [.mk name at' [] []] = 1 := by
            rw [deepL, deepL, deepN, deepL, if_neg hn]
            rfl
          omega
      · rw [if_neg hv]
        show Fi (max s.o (q.length + 1) + 1) (.mk name at' [] [] :: textIn nd t1 :: q)
        have hnm := textIn_name nd t1
        refine ⟨⟨fun _ => ⟨hn, rfl, hv⟩, ?_, ?_, ?_, o3⟩, ⟨fun _ => ?_, ?_⟩, ?_, ⟨?_, ?_, d2⟩, ?_⟩
        · show FineL blocks voids [] _ _ _
          rw [FineL]
          trivial
        · intro hq
          rw [hnm, textIn_text]
          exact o1 hq
        · rw [ctx_same q hnm]
          exact hk
        · have hx := ((FineN_iff _ _ _ _).1 (hX false)).2 hn
          have e : ctxN ((textIn nd t1 :: q).map Nd.name) = ctxR (nd :: q) := by
            unfold ctxR
            rw [names_same q hnm]
          show ¬((ctxN ((textIn nd t1 :: q).map Nd.name)).1 = true ∧ name ∈ blocks) ∧ ¬((ctxN ((textIn nd t1 :: q).map Nd.name)).2 = true ∧ name = [108, 105])
          rw [e]
          exact ⟨hx.2.1, hx.2.2.1⟩
        · show okN ((textIn nd t1 :: q).map Nd.name)
          rw [names_same q hnm]
          exact n2
        · intro a b e
          cases e
          rfl
        · show (textIn nd t1 :: q).length + deepL [] ≤ 65
          simp only [List.length_cons, deepL]
          omega
        · rw [hdt]
          exact d1
        · simp only [List.length_cons]
          omega
theorem shut_fi {K : Nat} (a : Nat) (s : Bs) (h : Fi K s.r) : Fi K (shutB a s).r :=
  closeR_ind (Pr := fun r _ => Fi K r) (fun nd p r t h => close_fi _ nd p r h t) _ s.r s.t h
theorem end_fi {s : Bs} (hg : Good s) (name : List UInt8) (h : Fi (s.o + 1) s.r) (ho : s.o ≤ 64) : Fi ((endB name s).o + 1) (endB name s).r := by
  unfold endB
  split
  · exact shut_fi _ s h
  · split
    · exact shut_fi _ _ (start_fi hg [112] [] h ho)
    · split
      · exact start_fi hg [98, 114] [] h ho
      · exact h
theorem take_fi {s : Bs} (hg : Good s) (k : Td) (h : Fi (s.o + 1) s.r) (ho : s.o ≤ 64) : Fi ((takeB k s).o + 1) (takeB k s).r := by
  unfold takeB
  split
  · exact h
  · split
    · exact start_fi hg _ _ h ho
    · split
      · exact end_fi hg _ h ho
      · exact h
theorem run_fi : ∀ (l : List Td) (s u : Bs), Good s → Fi (s.o + 1) s.r → s.o ≤ 64 → runB l s = some u → Fi (u.o + 1) u.r
  | [], s, u, _, h, _, e => by
    cases e
    exact h
  | k :: l, s, u, hg, h, ho, e => by
    unfold runB at e
    split at e
    · rename_i hc
      exact run_fi l _ u (take_good hg k).1 (take_fi hg k h ho) hc.1 e
    · cases e
theorem fi0 : Fi (bs0.o + 1) bs0.r := ⟨⟨fun h => absurd rfl h, by show FineL blocks voids [] _ _ _; rw [FineL]; trivial, trivial⟩, ⟨fun h => absurd rfl h, trivial⟩, fun nd q e => by cases e; rfl, ⟨by decide, trivial⟩, by decide⟩
theorem build_fine {l : List Td} {ns : List Nd} (h : buildB l = some ns) : FineL blocks voids ns false false false ∧ deepL ns ≤ 65 := by
  unfold buildB at h
  cases hr : runB l bs0 with
  | none => rw [hr] at h; cases h
  | some u =>
    rw [hr] at h
    cases h
    have g := (runB_good l bs0 u good0 (by decide) (by decide) hr).1
    have hf := shut_fi 1 u (run_fi l bs0 u good0 fi0 (by decide) hr)
    have gs := shut_good g (Nat.le_refl 1) (List.length_pos_iff.2 g.ne)
    obtain ⟨nd, hnd⟩ := List.length_eq_one_iff.1 gs.2.2
    unfold treeB
    rw [hnd] at hf ⊢
    obtain ⟨⟨_, o2, _⟩, _, lk, ⟨d1, _⟩, _⟩ := hf
    show FineL blocks voids (textIn nd (shutB 1 u).t).kids false false false ∧ deepL (textIn nd (shutB 1 u).t).kids ≤ 65
    refine ⟨fine_textIn nd _ _ _ o2 (lk nd [] rfl), ?_⟩
    rw [deep_textIn]
    simpa using d1
end Go.Proofs.YtholfdfjapgfbaaGreatDoor.Dm

/-
  What is built of tokens whose names may be, is stable but for its depth; how much it weighs.
-/
namespace Utf1
mutual
/-- All names within may be. -/
def okNd : Nd → Prop
  | .mk n a _ k => (n = [] ∨ (mayE n = true ∧ mayA a = true)) ∧ okNl k
def okNl : List Nd → Prop
  | [] => True
  | x :: r => okNd x ∧ okNl r
end
theorem okNd_kids (x : Nd) : okNd x ↔ (x.name = [] ∨ (mayE x.name = true ∧ mayA x.attrs = true)) ∧ okNl x.kids := by
  cases x
  rw [okNd]
  rfl
theorem okNl_app : ∀ a b : List Nd, okNl (a ++ b) ↔ okNl a ∧ okNl b
  | [], b => by simp [okNl]
  | x :: a, b => by rw [List.cons_append, okNl, okNl, okNl_app a b, and_assoc]
mutual
theorem deep_dpN : ∀ x : Nd, deepN x = dpN x
  | .mk n a t k => by rw [deepN, dpN, deep_dpL k]
theorem deep_dpL : ∀ l : List Nd, deepL l = dpL l
  | [] => by rw [deepL, dpL]
  | x :: l => by rw [deepL, dpL, deep_dpN x, deep_dpL l]
end
mutual
theorem cnt_ncN : ∀ x : Nd, cntN x = ncN x
  | .mk n a t k => by rw [cntN, ncN, cnt_ncL k]
theorem cnt_ncL : ∀ l : List Nd, cntL l = ncL l
  | [] => by rw [cntL, ncL]
  | x :: l => by rw [cntL, ncL, cnt_ncN x, cnt_ncL l]
end
/-- A token's weight, as the tree's builder takes it. -/
def tdw (k : Td) : Nat := 1 + k.name.length + k.text.length + waL k.attrs
def tdws : List Td → Nat
  | [] => 0
  | k :: r => tdw k + tdws r
theorem tdws_map : ∀ l : List Tk, tdws (l.map toTd) = kws l
  | [] => rfl
  | k :: r => by rw [List.map_cons, tdws, kws, tdws_map r]; rfl
theorem itm_fine (li : Bool) (n : List UInt8) : ((li && decide (n ≠ [117, 108]) && decide (n ≠ [111, 108])) || decide (n = [108, 105])) = itm li n := by
  unfold itm
  by_cases h1 : n = [108, 105]
  · rw [if_pos h1, decide_eq_true h1, Bool.or_true]
  · rw [if_neg h1, decide_eq_false h1, Bool.or_false]
    by_cases h2 : n = [117, 108]
    · rw [if_pos (.inl h2), decide_eq_false (by simp [h2]), Bool.and_false, Bool.false_and]
    · by_cases h3 : n = [111, 108]
      · rw [if_pos (.inr h3), decide_eq_false (by simp [h3] : ¬ n ≠ [111, 108]), Bool.and_false]
      · rw [if_neg (fun h => h.elim h2 h3), decide_eq_true h2, decide_eq_true h3, Bool.and_true, Bool.and_true]
end Utf1
namespace Go.Proofs.YtholfdfjapgfbaaGreatDoor.Dm
open Go.RowKit
open Utf1

mutual
theorem fine_stN : ∀ (x : Nd) (p i b : Bool), FineN blocks voids x p i b → okNd x → stN p i b x = true
  | .mk n a t k, p, i, b, h, ho => by
    rw [FineN] at h
    rw [okNd] at ho
    rw [stN]
    by_cases hn : n = []
    · obtain ⟨h1, h2, h3, h4⟩ := h.1 hn
      rw [if_pos hn, h2, h3, h4]
      cases t with
      | nil => exact absurd rfl h1
      | cons => rfl
    · obtain ⟨h1, h2, h3, h4, h5⟩ := h.2 hn
      obtain ⟨ho1, ho2⟩ := ho
      obtain ⟨m1, m2⟩ := ho1.resolve_left hn
      rw [if_neg hn, h1, m1, m2]
      have e1 : ((p && decide (n ∈ blocks)) || (i && decide (n = [108, 105]))) = false := by
        rw [Bool.or_eq_false_iff]
        constructor
        · cases p with
          | false => rfl
          | true => rw [Bool.true_and]; exact decide_eq_false (fun hb => h2 ⟨rfl, hb⟩)
        · cases i with
          | false => rfl
          | true => rw [Bool.true_and]; exact decide_eq_false (fun hb => h3 ⟨rfl, hb⟩)
      rw [e1]
      by_cases hv : n ∈ voids
      · rw [if_pos hv, h4 hv]
        rfl
      · rw [if_neg hv]
        rw [itm_fine] at h5
        rw [fine_stL k _ _ _ h5 ho2]
        rfl
theorem fine_stL : ∀ (l : List Nd) (p i b : Bool), FineL blocks voids l p i b → okNl l → stL p i b l = true
  | [], _, _, _, _, _ => by rw [stL]
  | x :: l, p, i, b, h, ho => by
    rw [FineL] at h
    rw [okNl] at ho
    rw [stL, fine_stN x p i b h.1 ho.1, fine_stL l p i _ h.2 ho.2]
    rfl
end

theorem ok_add {p x : Nd} (hp : okNd p) (hx : okNd x) : okNd (addKid p x) := by
  rw [okNd_kids] at hp ⊢
  refine ⟨hp.1, ?_⟩
  show okNl (p.kids ++ [x])
  rw [okNl_app]
  exact ⟨hp.2, hx, trivial⟩
theorem ok_textIn {p : Nd} (t : List UInt8) (hp : okNd p) : okNd (textIn p t) := by
  unfold textIn
  split
  · exact hp
  · refine ok_add hp ?_
    rw [okNd]
    exact ⟨.inl rfl, trivial⟩
theorem ok_close : ∀ nd p r (t : List UInt8), okNl (nd :: p :: r) → okNl (addKid p (textIn nd t) :: r) := by
  intro nd p r t h
  rw [okNl, okNl] at h
  rw [okNl]
  exact ⟨ok_add h.2.1 (ok_textIn t h.1), h.2.2⟩
theorem ok_start {s : Bs} (name : List UInt8) (at' : List (List UInt8 × List UInt8)) (h : okNl s.r) (hm : name ≠ [] → mayE name = true ∧ mayA at' = true) : okNl (startB name at' s).r := by
  unfold startB startR
  by_cases hn : name = []
  · rw [if_pos hn]
    exact h
  · rw [if_neg hn]
    have hw : okNl (wayR name s.r s.t).1 := wayR_ind (Pr := fun r _ => okNl r) (fun nd p r t => ok_close nd p r t) name s.r s.t h
    cases hc : (wayR name s.r s.t).1 with
    | nil => exact h
    | cons nd q =>
      rw [hc, okNl] at hw
      have hx : okNd (.mk name at' [] []) := by
        rw [okNd]
        exact ⟨.inr (hm hn), trivial⟩
      simp only
      split
      · show okNl (addKid _ _ :: q)
        rw [okNl]
        exact ⟨ok_add (ok_textIn _ hw.1) hx, hw.2⟩
      · show okNl (_ :: textIn nd _ :: q)
        rw [okNl, okNl]
        exact ⟨hx, ok_textIn _ hw.1, hw.2⟩
theorem ok_shut {s : Bs} (a : Nat) (h : okNl s.r) : okNl (shutB a s).r :=
  closeR_ind (Pr := fun r _ => okNl r) (fun nd p r t => ok_close nd p r t) (s.r.length - a) s.r s.t h
theorem mayE_p : mayE [112] = true := by decide +kernel
theorem mayE_br : mayE [98, 114] = true := by decide +kernel
theorem ok_end {s : Bs} (name : List UInt8) (h : okNl s.r) : okNl (endB name s).r := by
  unfold endB
  split
  · exact ok_shut _ h
  · split
    · exact ok_shut _ (ok_start _ _ h (fun _ => ⟨mayE_p, mayA_nil⟩))
    · split
      · exact ok_start _ _ h (fun _ => ⟨mayE_br, mayA_nil⟩)
      · exact h
theorem ok_take {s : Bs} (k : Td) (h : okNl s.r) (hm : k.kind = 2 → k.name ≠ [] → mayE k.name = true ∧ mayA k.attrs = true) : okNl (takeB k s).r := by
  unfold takeB
  split
  · exact h
  · split
    · rename_i h2
      exact ok_start _ _ h (hm h2)
    · split
      · exact ok_end _ h
      · exact h
theorem ok_run : ∀ (l : List Td) (s u : Bs), okNl s.r → (∀ k ∈ l, k.kind = 2 → k.name ≠ [] → mayE k.name = true ∧ mayA k.attrs = true) → runB l s = some u → okNl u.r
  | [], s, u, h, _, e => by
    cases e
    exact h
  | k :: l, s, u, h, hm, e => by
    unfold runB at e
    split at e
    · exact ok_run l _ u (ok_take k h (hm k (List.mem_cons_self ..))) (fun x hx => hm x (List.mem_cons_of_mem _ hx)) e
    · cases e

/-- What the builder holds weighs. -/
def wR (r : List Nd) (t : List UInt8) : Nat := wsL r + (if t = [] then 0 else 1 + t.length)
theorem ws_add (p x : Nd) : wsN (addKid p x) = wsN p + wsN x := by
  rw [wsN_kids, wsN_kids p]
  show 1 + p.name.length + p.text.length + waL p.attrs + wsL (p.kids ++ [x]) = _
  rw [wsL_app]
  show _ + (_ + (wsN x + 0)) = _
  omega
theorem ws_textIn (p : Nd) (t : List UInt8) : wsN (textIn p t) = wsN p + (if t = [] then 0 else 1 + t.length) := by
  unfold textIn
  split
  · rfl
  · rw [ws_add, wsN_kids]
    show _ + (1 + 0 + t.length + 0 + 0) = _
    omega
theorem wR_close (X : Nat) : ∀ nd p r t, wR (nd :: p :: r) t = X → wR (addKid p (textIn nd t) :: r) [] = X := by
  intro nd p r t h
  unfold wR at h ⊢
  rw [wsL, wsL] at h
  rw [wsL, ws_add, ws_textIn, if_pos rfl]
  omega
theorem wR_start {s : Bs} (name : List UInt8) (at' : List (List UInt8 × List UInt8)) : wR (startB name at' s).r (startB name at' s).t ≤ wR s.r s.t + (1 + name.length + waL at') := by
  unfold startB startR
  by_cases hn : name = []
  · rw [if_pos hn]
    exact Nat.le_add_right _ _
  · rw [if_neg hn]
    have hw := wayR_ind (Pr := fun r t => wR r t = wR s.r s.t) (fun nd p r t => wR_close _ nd p r t) name s.r s.t rfl
    cases hc : (wayR name s.r s.t).1 with
    | nil => exact Nat.le_add_right _ _
    | cons nd q =>
      rw [hc] at hw
      have hx : wsN (.mk name at' [] []) = 1 + name.length + waL at' := by
        rw [wsN_kids]
        show 1 + name.length + 0 + waL at' + 0 = _
        omega
      simp only
      unfold wR at hw
      rw [wsL] at hw
      split
      · show wR (addKid (textIn nd (wayR name s.r s.t).2) (.mk name at' [] []) :: q) [] ≤ _
        unfold wR
        rw [wsL, ws_add, ws_textIn, if_pos rfl, hx]
        omega
      · show wR (.mk name at' [] [] :: textIn nd (wayR name s.r s.t).2 :: q) [] ≤ _
        unfold wR
        rw [wsL, wsL, ws_textIn, if_pos rfl, hx]
        omega
theorem wR_shut (s : Bs) (a : Nat) : wR (shutB a s).r (shutB a s).t = wR s.r s.t :=
  closeR_ind (Pr := fun r t => wR r t = wR s.r s.t) (fun nd p r t => wR_close _ nd p r t) (s.r.length - a) s.r s.t rfl
theorem wR_end (s : Bs) (name : List UInt8) : wR (endB name s).r (endB name s).t ≤ wR s.r s.t + (1 + name.length) := by
  unfold endB
  split
  · rw [wR_shut]
    omega
  · split
    · rename_i h
      simp only
      rw [wR_shut]
      have := wR_start (s := s) [112] []
      rw [h]
      exact this
    · split
      · rename_i h
        have := wR_start (s := s) [98, 114] []
        rw [h]
        exact this
      · omega
theorem wR_take (s : Bs) (k : Td) : wR (takeB k s).r (takeB k s).t ≤ wR s.r s.t + tdw k := by
  unfold takeB tdw
  split
  · unfold textB wR
    simp only
    by_cases h1 : s.t = []
    · rw [if_pos h1, h1, List.nil_append]
      split
      · omega
      · omega
    · rw [if_neg h1, if_neg (by simp [h1]), List.length_append]
      omega
  · split
    · have := wR_start (s := s) k.name k.attrs
      omega
    · split
      · have := wR_end s k.name
        omega
      · omega
theorem wR_run : ∀ (l : List Td) (s u : Bs), runB l s = some u → wR u.r u.t ≤ wR s.r s.t + tdws l
  | [], s, u, e => by
    cases e
    exact Nat.le_refl _
  | k :: l, s, u, e => by
    unfold runB at e
    split at e
    · have h1 := wR_run l _ u e
      have h2 := wR_take s k
      rw [tdws]
      omega
    · cases e
/-- What is built. -/
theorem build_all {l : List Td} {ns : List Nd} (h : buildB l = some ns) (hm : ∀ k ∈ l, k.kind = 2 → k.name ≠ [] → mayE k.name = true ∧ mayA k.attrs = true) : stL false false false ns = true ∧ ncL ns ≤ 2000 ∧ wsL ns ≤ 1 + tdws l := by
  have hf := (build_fine h).1
  have hc := build_cnt h
  rw [cnt_ncL] at hc
  unfold buildB at h
  cases hr : runB l bs0 with
  | none => rw [hr] at h; cases h
  | some u =>
    rw [hr] at h
    have h : treeB u = ns := by simpa using h
    have h0 : okNl bs0.r := by
      show okNl [.mk [] [] [] []]
      rw [okNl, okNd]
      exact ⟨⟨.inl rfl, trivial⟩, trivial⟩
    have h1 := ok_shut 1 (ok_run l bs0 u h0 hm hr)
    have h2 := wR_run l bs0 u hr
    rw [← wR_shut u 1] at h2
    have h3 : wR bs0.r bs0.t = 1 := rfl
    rw [h3] at h2
    have key : okNl ns ∧ wsL ns ≤ wR (shutB 1 u).r (shutB 1 u).t := by
      rw [← h]
      unfold treeB
      cases hs : (shutB 1 u).r with
      | nil => exact ⟨trivial, Nat.zero_le _⟩
      | cons nd q =>
        rw [hs, okNl] at h1
        have h4 := ok_textIn (shutB 1 u).t h1.1
        rw [okNd_kids] at h4
        refine ⟨h4.2, ?_⟩
        have h5 := ws_textIn nd (shutB 1 u).t
        rw [wsN_kids] at h5
        unfold wR
        rw [wsL]
        simp only
        omega
    exact ⟨fine_stL ns _ _ _ hf key.1, hc, Nat.le_trans key.2 h2⟩
end Go.Proofs.YtholfdfjapgfbaaGreatDoor.Dm

/-
  What the document's Raw answers at every name.
-/
namespace Go.Proofs.YtholfdfjapgfbaaGreatDoor.Dm
open Go.RowKit
open Utf1

theorem eq_rev (s : ByteArray) (l : List UInt8) : (l == s.toList) = decide (bl s = l) := by
  rw [ByteArray.toList_eq]
  by_cases h : bl s = l
  · rw [decide_eq_true h]
    exact beq_iff_eq.2 h.symm
  · rw [decide_eq_false h]
    exact beq_eq_false_iff_ne.2 (Ne.symm h)

set_option maxRecDepth 100000 in
set_option maxHeartbeats 4000000 in
theorem refRaw_any (s : ByteArray) (w : World) :
    Calls Tryz.prog 31 #[.string s] w fun e w' => e = .returned (.tuple #[.bool (rawOf (bl s)).isSome, .bool ((rawOf (bl s)).getD false)]) ∧ Below w.heap.size w w' := by
  have f0 := eq_rev s [115, 99, 114, 105, 112, 116]
  have f1 := eq_rev s [115, 116, 121, 108, 101]
  have f2 := eq_rev s [120, 109, 112]
  have f3 := eq_rev s [105, 102, 114, 97, 109, 101]
  have f4 := eq_rev s [110, 111, 101, 109, 98, 101, 100]
  have f5 := eq_rev s [110, 111, 102, 114, 97, 109, 101, 115]
  have f6 := eq_rev s [112, 108, 97, 105, 110, 116, 101, 120, 116]
  have f7 := eq_lit s [116, 101, 120, 116, 97, 114, 101, 97]
  have f8 := eq_lit s [116, 105, 116, 108, 101]
  have HR : Hid (∀ (b : Bool) (k : List UInt8), (k, b) ∈ raws → bl s = k → rawOf (bl s) = some b) := hide (by
    have H : ∀ p ∈ raws, rawOf p.1 = some p.2 := by decide
    intro b k hk e
    rw [e]
    exact H _ hk)
  go_enter Tryz.func31, Tryz.ntmps31
  go_wp2_with fail
  go_loopg [5] 7 (fun g v wr => ∃ p : Nat, p + g = 7 ∧ v = .int .i64 (p : Int) ∧ Hid (Below w.heap.size w wr ∧ wr.cell? ⟨w.heap.size, 0, none⟩ = some (.string ⟨#[115, 99, 114, 105, 112, 116]⟩) ∧ wr.cell? ⟨w.heap.size, 1, none⟩ = some (.string ⟨#[115, 116, 121, 108, 101]⟩) ∧ wr.cell? ⟨w.heap.size, 2, none⟩ = some (.string ⟨#[120, 109, 112]⟩) ∧ wr.cell? ⟨w.heap.size, 3, none⟩ = some (.string ⟨#[105, 102, 114, 97, 109, 101]⟩) ∧ wr.cell? ⟨w.heap.size, 4, none⟩ = some (.string ⟨#[110, 111, 101, 109, 98, 101, 100]⟩) ∧ wr.cell? ⟨w.heap.size, 5, none⟩ = some (.string ⟨#[110, 111, 102, 114, 97, 109, 101, 115]⟩) ∧ wr.cell? ⟨w.heap.size, 6, none⟩ = some (.string ⟨#[112, 108, 97, 105, 110, 116, 101, 120, 116]⟩)) ∧ Hid (∀ k ∈ (raws.take p).map Prod.fst, bl s ≠ k))
  case atStart => exact ⟨0, by omega, rfl, hide ⟨(Below.refl _ _).alloc (Nat.le_refl _) _, by simp, by simp, by simp, by simp, by simp, by simp, by simp⟩, hide (by simp)⟩
  case round =>
    obtain ⟨p, hp, rfl, HC, HN⟩ := hrel
    obtain ⟨hbel, c0, c1, c2, c3, c4, c5, c6⟩ := HC.out
    have HBEL := hide hbel
    clear hbel
    match p, hp with
    | 0, hp =>
      by_cases h : bl s = [115, 99, 114, 105, 112, 116]
      · rw [decide_eq_true h] at f0
        have HV := hide (HR.out false _ (by decide) h)
        clear h HR HC HN f1 f2 f3 f4 f5 f6 f7 f8 c1 c2 c3 c4 c5 c6
        go_wp2_with fail
        go_ret2
        rw [HV.out]
        exact ⟨rfl, HBEL.out⟩
      · rw [decide_eq_false h] at f0
        have HN2 : Hid (∀ k ∈ (raws.take 1).map Prod.fst, bl s ≠ k) := hide (by
          intro k hk
          have e : (raws.take 1).map Prod.fst = (raws.take 0).map Prod.fst ++ [[115, 99, 114, 105, 112, 116]] := by decide
          rw [e] at hk
          rcases List.mem_append.1 hk with hk | hk
          · exact HN.out k hk
          · rw [List.mem_singleton.1 hk]
            exact h)
        clear h HN f1 f2 f3 f4 f5 f6 f7 f8 c1 c2 c3 c4 c5 c6
        go_wp2_with fail
        go_roundg (gk - 1)
        case measure => omega
        case rel => exact ⟨1, by omega, by first | rfl | simp, HC, HN2⟩
    | 1, hp =>
      by_cases h : bl s = [115, 116, 121, 108, 101]
      · rw [decide_eq_true h] at f1
        have HV := hide (HR.out false _ (by decide) h)
        clear h HR HC HN f0 f2 f3 f4 f5 f6 f7 f8 c0 c2 c3 c4 c5 c6
        go_wp2_with fail
        go_ret2
        rw [HV.out]
        exact ⟨rfl, HBEL.out⟩
      · rw [decide_eq_false h] at f1
        have HN2 : Hid (∀ k ∈ (raws.take 2).map Prod.fst, bl s ≠ k) := hide (by
          intro k hk
          have e : (raws.take 2).map Prod.fst = (raws.take 1).map Prod.fst ++ [[115, 116, 121, 108, 101]] := by decide
          rw [e] at hk
          rcases List.mem_append.1 hk with hk | hk
          · exact HN.out k hk
          · rw [List.mem_singleton.1 hk]
            exact h)
        clear h HN f0 f2 f3 f4 f5 f6 f7 f8 c0 c2 c3 c4 c5 c6
        go_wp2_with fail
        go_roundg (gk - 1)
        case measure => omega
        case rel => exact ⟨2, by omega, by first | rfl | simp, HC, HN2⟩
    | 2, hp =>
      by_cases h : bl s = [120, 109, 112]
      · rw [decide_eq_true h] at f2
        have HV := hide (HR.out false _ (by decide) h)
        clear h HR HC HN f0 f1 f3 f4 f5 f6 f7 f8 c0 c1 c3 c4 c5 c6
        go_wp2_with fail
        go_ret2
        rw [HV.out]
        exact ⟨rfl, HBEL.out⟩
      · rw [decide_eq_false h] at f2
        have HN2 : Hid (∀ k ∈ (raws.take 3).map Prod.fst, bl s ≠ k) := hide (by
          intro k hk
          have e : (raws.take 3).map Prod.fst = (raws.take 2).map Prod.fst ++ [[120, 109, 112]] := by decide
          rw [e] at hk
          rcases List.mem_append.1 hk with hk | hk
          · exact HN.out k hk
          · rw [List.mem_singleton.1 hk]
            exact h)
        clear h HN f0 f1 f3 f4 f5 f6 f7 f8 c0 c1 c3 c4 c5 c6
        go_wp2_with fail
        go_roundg (gk - 1)
        case measure => omega
        case rel => exact ⟨3, by omega, by first | rfl | simp, HC, HN2⟩
    | 3, hp =>
      by_cases h : bl s = [105, 102, 114, 97, 109, 101]
      · rw [decide_eq_true h] at f3
        have HV := hide (HR.out false _ (by decide) h)
        clear h HR HC HN f0 f1 f2 f4 f5 f6 f7 f8 c0 c1 c2 c4 c5 c6
        go_wp2_with fail
        go_ret2
        rw [HV.out]
        exact ⟨rfl, HBEL.out⟩
      · rw [decide_eq_false h] at f3
        have HN2 : Hid (∀ k ∈ (raws.take 4).map Prod.fst, bl s ≠ k) := hide (by
          intro k hk
          have e : (raws.take 4).map Prod.fst = (raws.take 3).map Prod.fst ++ [[105, 102, 114, 97, 109, 101]] := by decide
          rw [e] at hk
          rcases List.mem_append.1 hk with hk | hk
          · exact HN.out k hk
          · rw [List.mem_singleton.1 hk]
            exact h)
        clear h HN f0 f1 f2 f4 f5 f6 f7 f8 c0 c1 c2 c4 c5 c6
        go_wp2_with fail
        go_roundg (gk - 1)
        case measure => omega
        case rel => exact ⟨4, by omega, by first | rfl | simp, HC, HN2⟩
    | 4, hp =>
      by_cases h : bl s = [110, 111, 101, 109, 98, 101, 100]
      · rw [decide_eq_true h] at f4
        have HV := hide (HR.out false _ (by decide) h)
        clear h HR HC HN f0 f1 f2 f3 f5 f6 f7 f8 c0 c1 c2 c3 c5 c6
        go_wp2_with fail
        go_ret2
        rw [HV.out]
        exact ⟨rfl, HBEL.out⟩
      · rw [decide_eq_false h] at f4
        have HN2 : Hid (∀ k ∈ (raws.take 5).map Prod.fst, bl s ≠ k) := hide (by
          intro k hk
          have e : (raws.take 5).map Prod.fst = (raws.take 4).map Prod.fst ++ [[110, 111, 101, 109, 98, 101, 100]] := by decide
          rw [e] at hk
          rcases List.mem_append.1 hk with hk | hk
          · exact HN.out k hk
          · rw [List.mem_singleton.1 hk]
            exact h)
        clear h HN f0 f1 f2 f3 f5 f6 f7 f8 c0 c1 c2 c3 c5 c6
        go_wp2_with fail
        go_roundg (gk - 1)
        case measure => omega
        case rel => exact ⟨5, by omega, by first | rfl | simp, HC, HN2⟩
    | 5, hp =>
      by_cases h : bl s = [110, 111, 102, 114, 97, 109, 101, 115]
      · rw [decide_eq_true h] at f5
        have HV := hide (HR.out false _ (by decide) h)
        clear h HR HC HN f0 f1 f2 f3 f4 f6 f7 f8 c0 c1 c2 c3 c4 c6
        go_wp2_with fail
        go_ret2
        rw [HV.out]
        exact ⟨rfl, HBEL.out⟩
      · rw [decide_eq_false h] at f5
        have HN2 : Hid (∀ k ∈ (raws.take 6).map Prod.fst, bl s ≠ k) := hide (by
          intro k hk
          have e : (raws.take 6).map Prod.fst = (raws.take 5).map Prod.fst ++ [[110, 111, 102, 114, 97, 109, 101, 115]] := by decide
          rw [e] at hk
          rcases List.mem_append.1 hk with hk | hk
          · exact HN.out k hk
          · rw [List.mem_singleton.1 hk]
            exact h)
        clear h HN f0 f1 f2 f3 f4 f6 f7 f8 c0 c1 c2 c3 c4 c6
        go_wp2_with fail
        go_roundg (gk - 1)
        case measure => omega
        case rel => exact ⟨6, by omega, by first | rfl | simp, HC, HN2⟩
    | 6, hp =>
      by_cases h : bl s = [112, 108, 97, 105, 110, 116, 101, 120, 116]
      · rw [decide_eq_true h] at f6
        have HV := hide (HR.out false _ (by decide) h)
        clear h HR HC HN f0 f1 f2 f3 f4 f5 f7 f8 c0 c1 c2 c3 c4 c5
        go_wp2_with fail
        go_ret2
        rw [HV.out]
        exact ⟨rfl, HBEL.out⟩
      · rw [decide_eq_false h] at f6
        have HN2 : Hid (∀ k ∈ (raws.take 7).map Prod.fst, bl s ≠ k) := hide (by
          intro k hk
          have e : (raws.take 7).map Prod.fst = (raws.take 6).map Prod.fst ++ [[112, 108, 97, 105, 110, 116, 101, 120, 116]] := by decide
          rw [e] at hk
          rcases List.mem_append.1 hk with hk | hk
          · exact HN.out k hk
          · rw [List.mem_singleton.1 hk]
            exact h)
        clear h HN f0 f1 f2 f3 f4 f5 f7 f8 c0 c1 c2 c3 c4 c5
        go_wp2_with fail
        go_roundg (gk - 1)
        case measure => omega
        case rel => exact ⟨7, by omega, by first | rfl | simp, HC, HN2⟩
    | 7, hp =>
      have hn := HN.out
      clear c0 c1 c2 c3 c4 c5 c6 f0 f1 f2 f3 f4 f5 f6
      by_cases h7 : bl s = [116, 101, 120, 116, 97, 114, 101, 97]
      · rw [decide_eq_true h7] at f7
        have HV := hide (HR.out true _ (by decide) h7)
        clear h7 hn HR HC HN
        go_wp2_with fail
        go_ret2
        rw [HV.out]
        exact ⟨rfl, HBEL.out⟩
      · rw [decide_eq_false h7] at f7
        by_cases h8 : bl s = [116, 105, 116, 108, 101]
        · rw [decide_eq_true h8] at f8
          have HV := hide (HR.out true _ (by decide) h8)
          clear h7 h8 hn HR HC HN
          go_wp2_with fail
          go_ret2
          rw [HV.out]
          exact ⟨rfl, HBEL.out⟩
        · rw [decide_eq_false h8] at f8
          have e : rawOf (bl s) = none := by
            have k : ∀ (t : List (List UInt8 × Bool)) (x : List UInt8), (∀ y ∈ t.map Prod.fst, x ≠ y) → lookR t x = none := by
              intro t
              induction t with
              | nil => intro _ _; rfl
              | cons q t ih =>
                intro x h
                unfold lookR
                rw [if_neg (Ne.symm (h _ (by simp))), ih x (fun y hy => h y (by simp only [List.map_cons, List.mem_cons]; exact .inr hy))]
            refine k raws _ ?_
            intro y hy
            have : raws.map Prod.fst = (raws.take 7).map Prod.fst ++ [[116, 101, 120, 116, 97, 114, 101, 97], [116, 105, 116, 108, 101]] := by decide
            rw [this] at hy
            rcases List.mem_append.1 hy with hy | hy
            · exact hn y hy
            · simp only [List.mem_cons, List.not_mem_nil, or_false] at hy
              rcases hy with rfl | rfl
              · exact h7
              · exact h8
          have HV := hide e
          clear h7 h8 hn HR HC HN e
          go_wp2_with fail
          go_ret2
          rw [HV.out]
          exact ⟨rfl, HBEL.out⟩
    | _ + 8, hp => omega
end Go.Proofs.YtholfdfjapgfbaaGreatDoor.Dm

/-
  Names that may be, as the document tells them: versoref05.name, Element, Attribute, attrs.
-/
namespace Utf1
/-- A byte at a place of a name. -/
def rnB (others : List UInt8) (i : Nat) (c : UInt8) : Bool := isSm c || (decide (0 < i) && (decide (48 ≤ c.toNat ∧ c.toNat ≤ 57) || decide (c ∈ others)))
theorem isNmL_ok {others l : List UInt8} (hl : l ≠ []) (h : ∀ i c, l[i]? = some c → rnB others i c = true) : isNmL others l = true := by
  cases l with
  | nil => exact absurd rfl hl
  | cons c t =>
    have h0 := h 0 c rfl
    have h1 : isSm c = true := by simpa [rnB] using h0
    rw [isNmL, h1, Bool.true_and, List.all_eq_true]
    intro x hx
    obtain ⟨i, hi⟩ := List.getElem?_of_mem hx
    have := h i x hi
    unfold rnB at this
    unfold nmB
    rw [Bool.or_eq_true, Bool.and_eq_true, Bool.or_eq_true] at this
    rw [Bool.or_eq_true, Bool.or_eq_true]
    rcases this with h | ⟨_, h | h⟩
    · exact .inl (.inl h)
    · exact .inl (.inr h)
    · exact .inr h
theorem isNmL_no {others l : List UInt8} {i : Nat} {c : UInt8} (hi : l[i]? = some c) (h : rnB others i c = false) : isNmL others l = false := by
  cases l with
  | nil => simp at hi
  | cons c0 t =>
    rw [isNmL]
    unfold rnB at h
    rw [Bool.or_eq_false_iff, Bool.and_eq_false_iff] at h
    obtain ⟨h1, h2⟩ := h
    cases i with
    | zero =>
      have : c0 = c := by simpa using hi
      rw [this, h1, Bool.false_and]
    | succ i =>
      have h3 : (decide (48 ≤ c.toNat ∧ c.toNat ≤ 57) || decide (c ∈ others)) = false := by
        rcases h2 with h2 | h2
        · simp at h2
        · exact h2
      rw [Bool.or_eq_false_iff] at h3
      have : (c0 :: t).all (nmB others) = false := by
        rw [List.all_eq_false]
        refine ⟨c, List.mem_of_getElem? hi, ?_⟩
        unfold nmB
        rw [h1, h3.1, h3.2]
        decide
      rw [this, Bool.and_false]
end Utf1
namespace Go.Proofs.YtholfdfjapgfbaaGreatDoor.Dm
open Go.RowKit
open Utf1

theorem at_some (s : ByteArray) (j : Nat) (h : j < s.size) : (bl s)[j]? = some (s[j]'h) := by
  rw [List.getElem?_eq_getElem (by rw [bl_len]; exact h)]
  rfl

set_option maxRecDepth 100000 in
set_option maxHeartbeats 16000000 in
theorem rname_any (s others : ByteArray) (w : World) (hs : s.size ≤ 9223372036854775807) (ho : others.size ≤ 1000) : Calls Tryz.prog 32 #[.string s, .string others] w fun e w' => e = .returned (.bool (isNmL (bl others) (bl s))) ∧ w' = w := by
  obtain ⟨R, hR⟩ : ∃ R, R = isNmL (bl others) (bl s) := ⟨_, rfl⟩
  rw [← hR]
  have HR := hide hR
  clear hR
  go_enter Tryz.func32, Tryz.ntmps32
  go_wp2_with fail
  go_loopg [5] s.size (fun k v5 wr => ∃ j : Nat, j + k = s.size ∧ v5 = .int .i64 (j : Int) ∧ wr = w ∧ Hid (∀ i c, i < j → (bl s)[i]? = some c → rnB (bl others) i c = true))
  case atStart => exact ⟨0, by omega, rfl, rfl, hide (fun i c h => by omega)⟩
  case round =>
    obtain ⟨j, hjk, rfl, rfl, HA⟩ := hrel
    by_cases hjl : j < s.size
    case neg =>
      have e : j = s.size := by omega
      have hRR : R = decide (0 < s.size) := by
        rw [HR.out]
        by_cases h : bl s = []
        · have : s.size = 0 := by rw [← bl_len, h]; rfl
          rw [h, this]
          rfl
        · have : 0 < s.size := by
            rw [← bl_len]
            cases hh : bl s with
            | nil => exact absurd hh h
            | cons => simp
          rw [decide_eq_true this]
          refine isNmL_ok h (fun i c hi => HA.out i c ?_ hi)
          have := (List.getElem?_eq_some_iff.1 hi).1
          rw [bl_len] at this
          omega
      have HRR := hide hRR
      clear hRR HA
      go_wp2_with fail
      go_ret
      refine ⟨ret_bool ?_, rfl⟩
      rw [HRR.out]
      try simp
    case pos =>
    have hgc := at_some s j hjl
    have hcb : (s[j]'hjl).toNat < 256 := (s[j]'hjl).toNat_lt
    obtain ⟨is0, his⟩ : ∃ x, x = (isSm (s[j]'hjl) || (decide (0 < j) && decide (48 ≤ (s[j]'hjl).toNat ∧ (s[j]'hjl).toNat ≤ 57))) := ⟨_, rfl⟩
    have HIS := hide his
    have hrn : rnB (bl others) j (s[j]'hjl) = (is0 || (decide (0 < j) && decide ((s[j]'hjl) ∈ bl others))) := by
      rw [his]
      unfold rnB
      cases decide (0 < j) <;> simp [Bool.or_assoc]
    have HRN := hide hrn
    have HGC := hide hgc
    clear his hrn hgc
    go_upto_region 5 with fail
    go_cut [7] from 9 to 55 (fun v7 wc => v7 = .bool is0 ∧ wc = wr)
    case first =>
      have HIS2 : Hid (∀ b : Bool, b = (decide (97 ≤ (s[j]'hjl).toNat ∧ (s[j]'hjl).toNat ≤ 122) || (decide (0 < j) && decide (48 ≤ (s[j]'hjl).toNat ∧ (s[j]'hjl).toNat ≤ 57))) → b = is0) := hide (fun b h => by rw [h, HIS.out]; rfl)
      clear HIS HRN HGC HA
      by_cases h1 : 97 ≤ (s[j]'hjl).toNat
      · by_cases h2 : (s[j]'hjl).toNat ≤ 122
        · go_wp2_with fail
          go_meet
          refine ⟨?_, rfl⟩
          rw [← HIS2.out true (by rw [decide_eq_true (And.intro h1 h2)]; rfl)]
          all_goals first | rfl | (congr 1; simp; omega)
        · by_cases h3 : 0 < j
          · go_wp2_with fail
            go_meet
            refine ⟨?_, rfl⟩
            rw [← HIS2.out false (by rw [decide_eq_false (fun h => h2 h.2), decide_eq_false (fun h => by omega : ¬ (48 ≤ (s[j]'hjl).toNat ∧ (s[j]'hjl).toNat ≤ 57)), Bool.and_false]; rfl)]
            all_goals first | rfl | (congr 1; simp; omega)
          · go_wp2_with fail
            go_meet
            refine ⟨?_, rfl⟩
            rw [← HIS2.out false (by rw [decide_eq_false (fun h => h2 h.2), decide_eq_false h3]; rfl)]
            all_goals first | rfl | (congr 1; simp; omega)
      · by_cases h3 : 0 < j
        · by_cases h4 : 48 ≤ (s[j]'hjl).toNat
          · by_cases h5 : (s[j]'hjl).toNat ≤ 57
            · go_wp2_with fail
              go_meet
              refine ⟨?_, rfl⟩
              rw [← HIS2.out true (by rw [decide_eq_true h3, decide_eq_true (And.intro h4 h5)]; simp)]
              all_goals first | rfl | (congr 1; simp; omega)
            · go_wp2_with fail
              go_meet
              refine ⟨?_, rfl⟩
              rw [← HIS2.out false (by rw [decide_eq_false (fun h => h1 h.1), decide_eq_false (fun h => h5 h.2 : ¬ (48 ≤ (s[j]'hjl).toNat ∧ (s[j]'hjl).toNat ≤ 57)), Bool.and_false]; rfl)]
              all_goals first | rfl | (congr 1; simp; omega)
          · go_wp2_with fail
            go_meet
            refine ⟨?_, rfl⟩
            rw [← HIS2.out false (by rw [decide_eq_false (fun h => h1 h.1), decide_eq_false (fun h => h4 h.1 : ¬ (48 ≤ (s[j]'hjl).toNat ∧ (s[j]'hjl).toNat ≤ 57)), Bool.and_false]; rfl)]
            all_goals first | rfl | (congr 1; simp; omega)
        · go_wp2_with fail
          go_meet
          refine ⟨?_, rfl⟩
          rw [← HIS2.out false (by rw [decide_eq_false (fun h => h1 h.1), decide_eq_false h3]; rfl)]
          all_goals first | rfl | (congr 1; simp; omega)
    case rest =>
      obtain ⟨rfl, rfl⟩ := hcut
      have HNO : Hid (rnB (bl others) j (s[j]'hjl) = false → R = false) := hide (fun h => by rw [HR.out]; exact isNmL_no HGC.out h)
      have HYES : Hid (rnB (bl others) j (s[j]'hjl) = true → ∀ i c, i < j + 1 → (bl s)[i]? = some c → rnB (bl others) i c = true) := hide (by
        intro h i c hi hc
        by_cases hij : i = j
        · subst hij
          rw [HGC.out] at hc
          injection hc with hc
          rw [← hc]
          exact h
        · exact HA.out i c (by omega) hc)
      clear HIS HA HGC
      obtain ⟨kk, hkk⟩ : ∃ kk, kk = gk := ⟨_, rfl⟩
      go_wp2_with fail
      go_loopg [7, 8] others.size (fun k2 v7 v8 wq => ∃ (q : Nat) (b : Bool), q + k2 = others.size ∧ v7 = .bool b ∧ v8 = .int .i64 (q : Int) ∧ wq = wc ∧ Hid (b = (is0 || (decide (0 < j) && decide ((s[j]'hjl) ∈ (bl others).take q)))))
      case atStart => exact ⟨0, is0, by omega, rfl, rfl, rfl, hide (by simp)⟩
      case round =>
        obtain ⟨q, b, hqk, rfl, rfl, rfl, HBB⟩ := hrel
        by_cases hj0 : 0 < j
        case neg =>
          have hbr : rnB (bl others) j (s[j]'hjl) = b := by rw [HRN.out, HBB.out, decide_eq_false hj0, Bool.false_and, Bool.false_and]
          have hd1 : decide ((0 : Int) < (j : Int)) = false := decide_eq_false (by omega)
          by_cases hql : q < others.size
          · cases b with
            | true =>
              have HY := hide (HYES.out hbr)
              clear HYES HNO hbr HBB HRN
              go_wp2_with fail
              go_roundg (kk - 1)
              case measure => omega
              case rel => exact ⟨j + 1, by omega, by first | rfl | simp, rfl, HY⟩
            | false =>
              have HY := hide (HNO.out hbr)
              clear HYES HNO hbr HBB HRN
              go_wp2_with fail
              try rw [Exit.noGoto_ret]
              go_ret
              exact ⟨ret_bool HY.out.symm, rfl⟩
          · cases b with
            | true =>
              have HY := hide (HYES.out hbr)
              clear HYES HNO hbr HBB HRN
              go_wp2_with fail
              go_roundg (kk - 1)
              case measure => omega
              case rel => exact ⟨j + 1, by omega, by first | rfl | simp, rfl, HY⟩
            | false =>
              have HY := hide (HNO.out hbr)
              clear HYES HNO hbr HBB HRN
              go_wp2_with fail
              try rw [Exit.noGoto_ret]
              go_ret
              exact ⟨ret_bool HY.out.symm, rfl⟩
        case pos =>
        by_cases hql : q < others.size
        case pos =>
          have hoc := at_some others q hql
          have htk : (bl others).take (q + 1) = (bl others).take q ++ [others[q]'hql] := by rw [List.take_add_one, hoc]; rfl
          have hob : (others[q]'hql).toNat < 256 := (others[q]'hql).toNat_lt
          have HB2 : Hid ((b || decide ((s[j]'hjl).toNat = (others[q]'hql).toNat)) = (is0 || (decide (0 < j) && decide ((s[j]'hjl) ∈ (bl others).take (q + 1))))) := hide (by
            rw [HBB.out, htk, decide_eq_true hj0, Bool.true_and, Bool.true_and, Bool.or_assoc]
            congr 1
            by_cases hm : s[j]'hjl ∈ (bl others).take q
            · rw [decide_eq_true hm, decide_eq_true (List.mem_append.2 (.inl hm))]
              rfl
            · rw [decide_eq_false hm, Bool.false_or]
              by_cases he : (s[j]'hjl).toNat = (others[q]'hql).toNat
              · have he2 : s[j]'hjl = others[q]'hql := UInt8.toNat.inj he
                rw [decide_eq_true he, decide_eq_true (List.mem_append.2 (.inr (by rw [he2]; simp)))]
              · rw [decide_eq_false he, decide_eq_false]
                intro h
                rcases List.mem_append.1 h with h | h
                · exact hm h
                · apply he
                  have : s[j]'hjl = others[q]'hql := by simpa using h
                  rw [this])
          clear hoc htk HBB HYES HNO HRN
          cases b with
          | true =>
            go_wp2_with fail
            go_roundg (gk - 1)
            case measure => omega
            case rel => exact ⟨q + 1, true, by omega, by first | rfl | simp, by first | rfl | simp, rfl, hide (by rw [← HB2.out]; rfl)⟩
          | false =>
            have HB3 : Hid (∀ b2 : Bool, b2 = decide ((s[j]'hjl).toNat = (others[q]'hql).toNat) → b2 = (is0 || (decide (0 < j) && decide ((s[j]'hjl) ∈ (bl others).take (q + 1))))) := hide (fun b2 h => by rw [h, ← HB2.out]; rfl)
            clear HB2
            go_wp2_with fail
            go_roundg (gk - 1)
            case measure => omega
            case rel => exact ⟨q + 1, _, by omega, rfl, by first | rfl | simp, rfl, hide (HB3.out _ (by by_cases h : (s[j]'hjl).toNat = (others[q]'hql).toNat <;> simp [h] <;> omega))⟩
        case neg =>
          have hbr : rnB (bl others) j (s[j]'hjl) = b := by
            rw [HRN.out, HBB.out, List.take_of_length_le (by rw [bl_len]; omega)]
          clear HBB
          cases b with
          | true =>
            have HY := hide (HYES.out hbr)
            clear HYES HNO hbr HRN
            go_wp2_with fail
            go_roundg (kk - 1)
            case measure => omega
            case rel => exact ⟨j + 1, by omega, by first | rfl | simp, rfl, HY⟩
          | false =>
            have HY := hide (HNO.out hbr)
            clear HYES HNO hbr HRN
            go_wp2_with fail
            try rw [Exit.noGoto_ret]
            go_ret
            exact ⟨ret_bool HY.out.symm, rfl⟩

set_option maxRecDepth 100000 in
theorem relement_any (s : ByteArray) (w : World) (hs : s.size ≤ 9223372036854775807) : Calls Tryz.prog 12 #[.string s] w fun e w' => e = .returned (.bool (mayE (bl s))) ∧ Below w.heap.size w w' := by
  have HR := hide (refRaw_any s w)
  have HN := hide (fun w => rname_any s ⟨#[45]⟩ w hs (by decide))
  have HM : Hid (mayE (bl s) = (!(rawOf (bl s)).isSome && isNmL (bl ⟨#[45]⟩) (bl s))) := hide rfl
  obtain ⟨R, hR⟩ : ∃ R, R = mayE (bl s) := ⟨_, rfl⟩
  rw [← hR] at HM ⊢
  obtain ⟨r, hr⟩ : ∃ r, r = (rawOf (bl s)).isSome := ⟨_, rfl⟩
  obtain ⟨r2, hr2⟩ : ∃ r2, r2 = (rawOf (bl s)).getD false := ⟨_, rfl⟩
  obtain ⟨q, hq⟩ : ∃ q, q = isNmL (bl ⟨#[45]⟩) (bl s) := ⟨_, rfl⟩
  rw [← hr, ← hr2] at HR
  rw [← hq] at HN
  rw [← hr, ← hq] at HM
  clear hr hr2 hq hR
  cases q with
  | true =>
    go_enter Tryz.func12, Tryz.ntmps12
    go_wp2_with fail
    refine HR.out.mono ?_
    rintro e w1 ⟨rfl, hb⟩
    have HB := hide hb
    clear hb HR
    go_wp2_with fail
    refine (HN.out _).mono ?_
    rintro e w2 ⟨rfl, rfl⟩
    go_wp2_with fail
    go_ret
    exact ⟨ret_bool (by rw [HM.out, Bool.and_true]), HB.out⟩
  | false =>
    go_enter Tryz.func12, Tryz.ntmps12
    go_wp2_with fail
    refine HR.out.mono ?_
    rintro e w1 ⟨rfl, hb⟩
    have HB := hide hb
    clear hb HR
    go_wp2_with fail
    refine (HN.out _).mono ?_
    rintro e w2 ⟨rfl, rfl⟩
    go_wp2_with fail
    go_ret
    exact ⟨ret_bool (by rw [HM.out, Bool.and_false]), HB.out⟩
end Go.Proofs.YtholfdfjapgfbaaGreatDoor.Dm

/-
  versoref05.Attribute.
-/
namespace Go.Proofs.YtholfdfjapgfbaaGreatDoor.Dm
open Go.RowKit
open Utf1

set_option maxRecDepth 100000 in
theorem rattribute_any (s : ByteArray) (w : World) (hs : s.size ≤ 9223372036854775807) : Calls Tryz.prog 13 #[.string s] w fun e w' => e = .returned (.bool (isNmL [45, 95, 58] (bl s))) ∧ w' = w := by
  have HN := hide (fun w => rname_any s ⟨#[45, 95, 58]⟩ w hs (by decide))
  go_enter Tryz.func13, Tryz.ntmps13
  go_wp2_with fail
  refine (HN.out _).mono ?_
  rintro e w2 ⟨rfl, rfl⟩
  go_wp2_with fail
  go_ret
  exact ⟨rfl, rfl⟩

end Go.Proofs.YtholfdfjapgfbaaGreatDoor.Dm

/-
  The law SerBuilt, walked: it answers true at every page.
-/
namespace Utf1
theorem kws_mem : ∀ {l : List Tk} {k : Tk}, k ∈ l → kw k ≤ kws l
  | [], k, h => by cases h
  | x :: l, k, h => by
    rw [kws]
    rcases List.mem_cons.1 h with rfl | h
    · omega
    · have := kws_mem h
      omega
/-- A start's names may be. -/
def StOk (k : Tk) : Prop := k.kind = 2 → mayE k.name = true ∧ ∀ kv ∈ k.attrs, isNmL [45, 95, 58] kv.1 = true
theorem tdSum_kws : ∀ l : List Tk, tdSum (l.map toTd) ≤ kws l
  | [] => Nat.le_refl _
  | k :: r => by
    rw [List.map_cons, tdSum, kws]
    have := tdSum_kws r
    show k.text.length + _ ≤ _
    unfold kw
    omega
end Utf1
namespace Go.Proofs.YtholfdfjapgfbaaGreatDoor.Dm
open Go.RowKit
open Utf1

/-- What is built of a page's tokens whose names may be. -/
theorem build_any (w : World) (B : Nat) (v : Value) (l : List (Tk × Value)) (s : List UInt8) (h : ToksAt w B v l) (hl : l.map Prod.fst = toks s) (hs : s.length ≤ 3000) (hok : ∀ q ∈ l, StOk q.1) :
    Calls Tryz.prog 8 #[v] w fun e w' => (∃ r err, e = .returned (.tuple #[r, .int .i64 err]) ∧ ((err = 5 ∧ r = .slice none 0 0) ∨ (err = 0 ∧ ∃ ns, NAt w' r ns ∧ stL false false false ns = true ∧ ncL ns ≤ 2000 ∧ wsL ns ≤ 6001))) ∧ Below w.heap.size w w' := by
  have hsum := toks_sum s
  have hq : ∀ q ∈ l, kw q.1 ≤ 6000 := fun q hq => by
    have : q.1 ∈ toks s := by rw [← hl]; exact List.mem_map.2 ⟨q, hq, rfl⟩
    have := kws_mem this
    omega
  have hq2 : ∀ q ∈ l, waL q.1.attrs ≤ 6000 ∧ q.1.name.length ≤ 6000 := fun q h => by
    have := hq q h
    unfold kw at this
    omega
  obtain ⟨l', h1, h2, h3, h4⟩ := tok_row h (fun q hq' => by have := (hq2 q hq').1; omega)
  have hlen : l'.length ≤ 3000 := by
    have e := congrArg List.length hl
    rw [List.length_map] at e
    have := toks_many s
    omega
  have hmem : ∀ e ∈ l', ∃ q ∈ l, toTd q.1 = e.1 := by
    intro e he
    have : e.1 ∈ (l.map Prod.fst).map toTd := by rw [← h2]; exact List.mem_map.2 ⟨e, he, rfl⟩
    obtain ⟨k, hk, e1⟩ := List.mem_map.1 this
    obtain ⟨q, hq', e2⟩ := List.mem_map.1 hk
    exact ⟨q, hq', by rw [e2]; exact e1⟩
  have hts : textSum l' ≤ 6000 := by
    rw [textSum_td, h2, hl]
    have := tdSum_kws (toks s)
    omega
  refine (build_st w v l' h1 (by omega) (by omega) ?_ ?_).mono ?_
  · intro e he
    obtain ⟨q, hq', e1⟩ := hmem e he
    rw [← e1]
    have := (hq2 q hq').2
    show q.1.name.length ≤ _
    omega
  · intro e he
    obtain ⟨q, hq', e1⟩ := hmem e he
    have ha := h4 e he
    refine clones_any w _ _ _ _ ha ?_
    have h5 := (hq2 q hq').1
    have h6 := wa_len e.1.attrs
    have h7 := ha.1
    rw [← e1] at h6
    have h6 : q.1.attrs.length ≤ waL q.1.attrs := h6
    rw [← e1] at h7
    have h7 : _ = q.1.attrs.length := h7
    omega
  · rintro e w' ⟨r, err, rfl, hE, hb⟩
    refine ⟨⟨r, err, rfl, ?_⟩, hb⟩
    cases hc : buildB (l'.map Prod.fst) with
    | none =>
      obtain ⟨e1, e2⟩ := hE.1 hc
      exact .inl ⟨e2, e1⟩
    | some ns =>
      obtain ⟨e1, fp, hk⟩ := hE.2 ns hc
      have hall := build_all hc (by
        intro k hk hk2 _
        rw [h2] at hk
        obtain ⟨k0, hk0, e3⟩ := List.mem_map.1 hk
        obtain ⟨q, hq', e4⟩ := List.mem_map.1 hk0
        subst e4
        subst e3
        have hk2 : (q.1.kind : Int) = 2 := hk2
        have hso := hok q hq' (by omega)
        refine ⟨hso.1, ?_⟩
        have hnd := (toks_ok s q.1 (by rw [← hl]; exact hk0)).nodup
        unfold mayA
        rw [Bool.and_eq_true]
        exact ⟨List.all_eq_true.2 hso.2, decide_eq_true hnd⟩)
      rw [h2, hl, tdws_map] at hall
      have hw : wsL ns ≤ 6001 := by have := hall.2.2; omega
      exact .inr ⟨e1, ns, ⟨_, kat_nat (ncL ns) r ns fp (Nat.le_refl _) (by omega) hk⟩, hall.1, hall.2.1, hw⟩

set_option maxRecDepth 100000 in
set_option maxHeartbeats 16000000 in
theorem lawSBuilt_walk (s : ByteArray) (w : World) (hg : Glob w) (hgm : GlobM w) :
    Calls Tryz.prog 4 #[.string s] w fun e w' => e = .returned (.bool true) ∧ Below w.heap.size w w' := by
  have HG : Hid (∀ wx, Below w.heap.size w wx → Glob wx ∧ GlobM wx) := hide (by
    intro wx hx
    obtain ⟨x, y, h⟩ := hg
    obtain ⟨m, h2⟩ := hgm
    exact ⟨⟨x, y, cell_keep h hx⟩, ⟨m, cell_keep h2 hx⟩⟩)
  clear hg hgm
  go_enter Tryz.func4, Tryz.ntmps4
  go_wp2_with fail
  refine (awake_nst _).mono ?_
  rintro e w1 ⟨rfl, hb1⟩
  have HB1 := hide hb1
  clear hb1
  by_cases hbig : 3000 < s.size
  · go_wp2_with fail
    all_goals
      go_ret
      exact ⟨rfl, HB1.out⟩
  have hs3 : s.size ≤ 3000 := by omega
  have HT1 := hide (tokens_any s w1 (by omega) (HG.out w1 HB1.out).1 (HG.out w1 HB1.out).2)
  go_wp2_with fail
  refine HT1.out.mono ?_
  rintro e w2 ⟨v, l, rfl, hl, htk, hb2⟩
  have HB2 := hide (bel2 HB1.out hb2)
  obtain ⟨p, c, rfl⟩ := own_len htk.1
  have HTK := hide htk
  have HL := hide hl
  have hlm : l.length ≤ 9223372036854775807 := own_most htk.1
  have hkw : ∀ q ∈ l, kw q.1 ≤ 6000 := fun q hq => by
    have h1 : q.1 ∈ toks (bl s) := by rw [← hl]; exact List.mem_map.2 ⟨q, hq, rfl⟩
    have h2 := kws_mem h1
    have h3 := toks_sum (bl s)
    rw [bl_len] at h3
    omega
  have HCE : Hid (∀ i q, l[i]? = some q → ∃ g ap ac, p = some ⟨g, 0, none⟩ ∧ w2.cell? ⟨g, i * 5, none⟩ = some (.int .i64 (q.1.kind : Int)) ∧ w2.cell? ⟨g, i * 5 + 1, none⟩ = some (.string ⟨q.1.name.toArray⟩) ∧ w2.cell? ⟨g, i * 5 + 2, none⟩ = some (.slice ap q.1.attrs.length ac) ∧ ARow w2 ap q.1.attrs.length q.1.attrs ∧ q.1.name.length ≤ 6000) := hide (by
    intro i q hq
    have hil := (List.getElem?_eq_some_iff.1 hq).1
    have hqm := List.mem_of_getElem? hq
    have hw := hkw q hqm
    unfold kw at hw
    obtain ⟨g, c', e, hcell⟩ := own_at htk.1 (by omega)
    injection e with e1
    have hat := htk.2 q hqm
    rw [← attr_same] at hat
    obtain ⟨ap, ac, e2, har⟩ := arow_own hat rfl (by omega)
    have hc := fun j hj => (hcell (i * 5 + j) (by omega)).trans (toksCells_at l i q hq j hj)
    have h2 : w2.cell? ⟨g, i * 5 + 2, none⟩ = some q.2 := hc 2 (by decide)
    rw [e2] at h2
    exact ⟨g, ap, ac, e1, hc 0 (by decide), hc 1 (by decide), h2, har, by omega⟩)
  obtain ⟨N, hN⟩ : ∃ N, N = l.length := ⟨_, rfl⟩
  rw [← hN] at hlm ⊢
  have HN := hide hN
  clear hb2 hl htk hkw HT1 HB1 hN
  go_wp2_with fail
  go_loopg [5] N (fun k v5 wr => ∃ i : Nat, i + k = N ∧ v5 = .int .i64 (i : Int) ∧ Hid (∀ q ∈ l.take i, StOk q.1) ∧ Hid (Below w2.heap.size w2 wr))
  case atStart => exact ⟨0, by omega, rfl, hide (fun q h => by simp at h), hide (Below.refl _ _)⟩
  case round =>
    obtain ⟨i, hik, rfl, HOK, HB⟩ := hrel
    by_cases hlt : i < N
    case pos =>
      have hil : i < l.length := by rw [← HN.out]; exact hlt
      have hge : l[i]? = some l[i] := List.getElem?_eq_getElem hil
      generalize l[i] = q at hge
      obtain ⟨g, ap, ac, rfl, x0, x1, x2, har, hnl⟩ := HCE.out i q hge
      have x0 := cell_keep x0 HB.out
      have x1 := cell_keep x1 HB.out
      have x2 := cell_keep x2 HB.out
      have HTKE : Hid (l.take (i + 1) = l.take i ++ [q]) := hide (by rw [List.take_add_one, hge]; rfl)
      have HOK2 : Hid (StOk q.1 → ∀ x ∈ l.take (i + 1), StOk x.1) := hide (by
        intro h x hx
        rw [HTKE.out] at hx
        rcases List.mem_append.1 hx with hx | hx
        · exact HOK.out x hx
        · have : x = q := by simpa using hx
          rw [this]
          exact h)
      by_cases hk : q.1.kind = 2
      case neg =>
        have HO := hide (HOK2.out (fun h => absurd h hk))
        have hk2 : ((q.1.kind : Int) == 2) = false := beq_eq_false_iff_ne.2 (by omega)
        clear hk HOK2 HOK HTKE hge hil har hnl x1 x2
        go_wp2_with fail
        go_roundg (gk - 1)
        case measure => omega
        case rel => exact ⟨i + 1, by omega, by first | rfl | simp, HO, HB⟩
      case pos =>
        rw [hk] at x0
        replace x0 : wr.cell? ⟨g, i * 5, none⟩ = some (.int .i64 2) := x0
        obtain ⟨XN, hXN⟩ : ∃ X : ByteArray, X = ⟨q.1.name.toArray⟩ := ⟨_, rfl⟩
        rw [← hXN] at x1
        have hN1 : bl XN = q.1.name := by rw [hXN]
        have hNs : XN.size = q.1.name.length := by rw [hXN]; rfl
        have HEL := hide (relement_any XN wr (by omega))
        rw [hN1] at HEL
        have HAR := hide (har.below HB.out)
        obtain ⟨ats, hats⟩ : ∃ ats, ats = q.1.attrs := ⟨_, rfl⟩
        rw [← hats] at HAR x2
        have ham := HAR.out.1.2
        obtain ⟨M, hM⟩ : ∃ M, M = ats.length := ⟨_, rfl⟩
        rw [← hM] at HAR x2 ham
        have HMM := hide hM
        have HSO : Hid (mayE q.1.name = true → (∀ kv ∈ ats, isNmL [45, 95, 58] kv.1 = true) → ∀ x ∈ l.take (i + 1), StOk x.1) := hide (fun h1 h2 => HOK2.out (fun _ => ⟨h1, by rw [← hats]; exact h2⟩))
        obtain ⟨mE, hmE⟩ : ∃ x, x = mayE q.1.name := ⟨_, rfl⟩
        rw [← hmE] at HEL HSO
        clear hXN hN1 hNs hats hM hmE HOK2 HOK HTKE hge hil har hnl hk
        cases mE with
        | false =>
          go_wp2_with fail
          refine HEL.out.mono ?_
          rintro e w3 ⟨rfl, hb3⟩
          have HB3 := hide (bel2 (bel2 HB2.out HB.out) hb3)
          clear hb3 HEL
          go_wp2_with fail
          all_goals
            try rw [Exit.noGoto_ret]
            go_ret
            exact ⟨rfl, HB3.out⟩
        | true =>
          have HSO2 := hide (HSO.out (by first | rfl | trivial))
          clear HSO
          go_wp2_with fail
          refine HEL.out.mono ?_
          rintro e w3 ⟨rfl, hb3⟩
          have x2 := cell_keep x2 hb3
          have HAR3 := hide (HAR.out.below hb3)
          have HB3 := hide (bel2 HB.out hb3)
          clear hb3 HEL HAR
          go_wp2_with fail
          obtain ⟨kk, hkk⟩ : ∃ kk, kk = gk := ⟨_, rfl⟩
          go_loopg [7] M (fun k2 v7 wq => ∃ j : Nat, j + k2 = M ∧ v7 = .int .i64 (j : Int) ∧ wq = w3 ∧ Hid (∀ kv ∈ ats.take j, isNmL [45, 95, 58] kv.1 = true))
          case atStart => exact ⟨0, by omega, rfl, rfl, hide (fun kv h => by simp at h)⟩
          case round =>
            obtain ⟨j, hjk, rfl, hwq, HQ⟩ := hrel
            have hwq := hwq.symm
            subst hwq
            by_cases hjl : j < M
            case pos =>
              have hjl2 : j < ats.length := by rw [← HMM.out]; exact hjl
              have hga : ats[j]? = some ats[j] := List.getElem?_eq_getElem hjl2
              generalize ats[j] = kv at hga
              obtain ⟨b, off2, hap, z0, z1, hz1, hz2⟩ := HAR3.out.2 j kv hga
              subst hap
              obtain ⟨XA, hXA⟩ : ∃ X : ByteArray, X = ⟨kv.1.toArray⟩ := ⟨_, rfl⟩
              rw [← hXA] at z0
              have hA1 : bl XA = kv.1 := by rw [hXA]
              have hAs : XA.size = kv.1.length := by rw [hXA]; rfl
              have HAT := hide (fun w => rattribute_any XA w (by omega))
              rw [hA1] at HAT
              have HQ2 : Hid (isNmL [45, 95, 58] kv.1 = true → ∀ x ∈ ats.take (j + 1), isNmL [45, 95, 58] x.1 = true) := hide (by
                intro h x hx
                rw [List.take_add_one, hga] at hx
                rcases List.mem_append.1 hx with hx | hx
                · exact HQ.out x hx
                · have : x = kv := by simpa using hx
                  rw [this]
                  exact h)
              obtain ⟨aB, haB⟩ : ∃ x, x = isNmL [45, 95, 58] kv.1 := ⟨_, rfl⟩
              rw [← haB] at HAT HQ2
              clear hXA hA1 hAs hga hjl2 haB HQ hz1 hz2 z1
              cases aB with
              | false =>
                go_wp2_with fail
                refine (HAT.out _).mono ?_
                rintro e w4 ⟨rfl, rfl⟩
                go_wp2_with fail
                all_goals
                  try rw [Exit.noGoto_ret]
                  go_ret
                  exact ⟨rfl, bel2 HB2.out HB3.out⟩
              | true =>
                have HQ3 := hide (HQ2.out (by first | rfl | trivial))
                clear HQ2
                go_wp2_with fail
                refine (HAT.out _).mono ?_
                rintro e w4 ⟨rfl, rfl⟩
                go_wp2_with fail
                go_roundg (gk - 1)
                case measure => omega
                case rel => exact ⟨j + 1, by omega, by first | rfl | simp, rfl, HQ3⟩
            case neg =>
              have HO := hide (HSO2.out (by
                have h := HQ.out
                rw [List.take_of_length_le (by rw [← HMM.out]; omega)] at h
                exact h))
              clear HQ HSO2
              go_wp2_with fail
              go_roundg (kk - 1)
              case measure => omega
              case rel => exact ⟨i + 1, by omega, by first | rfl | simp, HO, HB3⟩
    case neg =>
      have HOA : Hid (∀ q ∈ l, StOk q.1) := hide (by
        have h := HOK.out
        rw [List.take_of_length_le (by rw [← HN.out]; omega)] at h
        exact h)
      have HBU := hide (build_any wr _ (.slice p N c) l (bl s) (by rw [HN.out]; exact HTK.out.below HB.out) HL.out (by rw [bl_len]; exact hs3) HOA.out)
      have HBW := hide (bel2 HB2.out HB.out)
      clear HOK HOA HTK HL HCE HB HB2
      go_wp2_with fail
      refine HBU.out.mono ?_
      rintro e w3 ⟨⟨r, err, rfl, hcase⟩, hb3⟩
      have HB3 := hide (bel2 HBW.out hb3)
      clear hb3 HBU HBW
      rcases hcase with ⟨rfl, rfl⟩ | ⟨rfl, ns, hns, hst, hnc, hws⟩
      · have HSZ := hide (size_nst 1 w3 (.slice none 0 0) [] ⟨none, 0, rfl, by decide, fun i nd h => by simp at h⟩ (by decide))
        go_wp2_with fail
        refine HSZ.out.mono ?_
        rintro e w4 ⟨rfl, hb4⟩
        have HB4 := hide (bel2 HB3.out hb4)
        clear hb4 HSZ
        go_wp2_with fail
        all_goals
          go_ret
          exact ⟨rfl, HB4.out⟩
      · obtain ⟨D, hD⟩ := id hns
        have HNS := hide hns
        have HSZ := hide (size_nst D w3 r ns hD (by omega))
        have hdb := dpL_nc ns
        obtain ⟨n1, hn1⟩ : ∃ x, x = ncL ns := ⟨_, rfl⟩
        obtain ⟨d1, hd1⟩ : ∃ x, x = dpL ns := ⟨_, rfl⟩
        have HST : Hid (d1 ≤ 64 → stable ns = true) := hide (by
          intro h
          unfold stable
          rw [decide_eq_true hnc, decide_eq_true (by rw [← hd1]; exact h), hst]
          rfl)
        have HWN : Hid (wsL ns ≤ 20000 ∧ ncL ns ≤ 2000) := hide ⟨by omega, hnc⟩
        rw [← hn1, ← hd1] at HSZ hdb
        have hnb : n1 ≤ 2000 := by rw [hn1]; exact hnc
        clear hns hst hnc hws hD hn1 hd1
        go_wp2_with fail
        refine HSZ.out.mono ?_
        rintro e w4 ⟨rfl, hb4⟩
        have HB4 := hide (bel2 HB3.out hb4)
        have HN4 := hide (HNS.out.below hb4)
        clear hb4 HSZ HNS HB3
        by_cases hd64 : 64 < d1
        · go_wp2_with fail
          all_goals
            go_ret
            exact ⟨rfl, HB4.out⟩
        have HSS := hide (HST.out (by omega))
        clear HST
        have HHL : Hid ((htL ns).length ≤ 1000000) := hide (by have := htL_len ns; have := HWN.out; omega)
        have HH1 := hide (html_nst w4 r ns HN4.out (by have := HHL.out; omega))
        go_wp2_with fail
        refine HH1.out.mono ?_
        rintro e w5 ⟨⟨O, rfl, hO⟩, hb5⟩
        have HB5 := hide (bel2 HB4.out hb5)
        have HN5 := hide (HN4.out.below hb5)
        have hOs : O.size ≤ 1000000 := by rw [← bl_len, hO]; exact HHL.out
        have HT5 := hide (tokens_any O w5 (by omega) (HG.out w5 HB5.out).1 (HG.out w5 HB5.out).2)
        have HO := hide hO
        clear hb5 hO HH1 HB4 HN4
        go_wp2_with fail
        refine HT5.out.mono ?_
        rintro e w6 ⟨tv, l6, rfl, hl6, htk6, hb6⟩
        have HB6 := hide (bel2 HB5.out hb6)
        have HN6 := hide (HN5.out.below hb6)
        have HBP := hide (build_page w6 _ tv l6 ns htk6 (by rw [hl6, HO.out]; exact toks_stable HSS.out) HSS.out HWN.out.1)
        obtain ⟨p6, c6, rfl⟩ := own_len htk6.1
        clear hb6 hl6 htk6 HT5 HB5 HO HN5
        go_wp2_with fail
        refine HBP.out.mono ?_
        rintro e w7 ⟨⟨r7, rfl, hr7⟩, hb7⟩
        have HB7 := hide (bel2 HB6.out hb7)
        have HN7 := hide (HN6.out.below hb7)
        obtain ⟨D1, hD1⟩ := hr7
        obtain ⟨D2, hD2⟩ := HN7.out
        have HSM := hide (same_nst (max D1 D2) w7 r r7 ns ns (hD2.more (by omega)) (hD1.more (by omega)))
        rw [(sameL_iff ns ns).2 rfl] at HSM
        clear hb7 hD1 hD2 HBP HB6 HN6
        go_wp2_with fail
        refine HSM.out.mono ?_
        rintro e w8 ⟨rfl, hw8⟩
        have HB8 : Hid (Below w.heap.size w w8 ∧ Below w7.heap.size w7 w8) := hide (by
          obtain ⟨m, rfl⟩ := hw8
          exact ⟨bel2 HB7.out (bel_drewN _ _), bel_drewN _ _⟩)
        have HS9 := hide (stable_nst w8 r ns (HN7.out.below HB8.out.2) (by have := HWN.out.2; omega))
        rw [HSS.out] at HS9
        clear hw8 HSM HB7
        go_wp2_with fail
        refine HS9.out.mono ?_
        rintro e w9 ⟨rfl, hb9⟩
        have HB9 := hide (bel2 HB8.out.1 hb9)
        clear hb9 HS9
        go_wp2_with fail
        go_ret
        exact ⟨rfl, HB9.out⟩
end Go.Proofs.YtholfdfjapgfbaaGreatDoor.Dm
