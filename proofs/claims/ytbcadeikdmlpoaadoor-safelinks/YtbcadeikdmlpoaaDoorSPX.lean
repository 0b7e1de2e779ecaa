/-
  What a stable node is.
-/
import Derived.Test.YtbcadeikdmlpoaaDoorN10
import Derived.Test.YtbcadeikdmlpoaaDoorPM
import Derived.Test.YtbcadeikdmlpoaaDoorSM
import Derived.Test.YtbcadeikdmlpoaaDoorUM
import Derived.Test.YtbcadeikdmlpoaaDoorPC
import Derived.Deep.RegionHeld3
import Derived.Test.YtbcadeikdmlpoaaDoorPW
import Derived.Deep.WholeRow
import Derived.Laws.Tables
import Derived.KernelRfl
import Derived.Test.YtbcadeikdmlpoaaDoorYX
import Derived.OwnWalk
import Derived.Test.YtbcadeikdmlpoaaDoorUX
import Derived.Test.YtbcadeikdmlpoaaDoorRE
import Derived.Test.YtbcadeikdmlpoaaDoorR1
import Derived.OneCell
import Derived.Test.YtbcadeikdmlpoaaDoorN1
import Derived.Test.YtbcadeikdmlpoaaDoorQ10
namespace Utf1
theorem stN_text {p i b : Bool} {n : List UInt8} {a : List (List UInt8 × List UInt8)} {t : List UInt8} {k : List Nd} (hn : n = []) (h : stN p i b (.mk n a t k) = true) : t ≠ [] ∧ b = false ∧ a = [] ∧ k = [] := by
  rw [stN, if_pos hn] at h
  simp only [Bool.and_eq_true, Bool.not_eq_true', List.isEmpty_iff] at h
  refine ⟨?_, h.1.1.2, h.1.2, h.2⟩
  intro e
  rw [e] at h
  exact absurd h.1.1.1 (by decide)
theorem stN_elem {p i b : Bool} {n : List UInt8} {a : List (List UInt8 × List UInt8)} {t : List UInt8} {k : List Nd} (hn : n ≠ []) (h : stN p i b (.mk n a t k) = true) : t = [] ∧ mayE n = true ∧ mayA a = true ∧ ((p && decide (n ∈ blocks)) || (i && decide (n = [108, 105]))) = false ∧ (n ∈ voids → k = []) ∧ (n ∉ voids → stL (p || decide (n = [112])) (itm i n) false k = true) := by
  rw [stN, if_neg hn] at h
  rw [Bool.and_eq_true, Bool.and_eq_true, Bool.and_eq_true, Bool.and_eq_true] at h
  obtain ⟨⟨⟨⟨h1, h2⟩, h3⟩, h4⟩, h5⟩ := h
  refine ⟨List.isEmpty_iff.1 h1, h2, h3, by rw [Bool.not_eq_true'] at h4; exact h4, fun hv => ?_, fun hv => ?_⟩
  · rw [if_pos hv] at h5
    exact List.isEmpty_iff.1 h5
  · rw [if_neg hv] at h5
    exact h5
theorem stL_cons {p i b : Bool} {n : Nd} {r : List Nd} (h : stL p i b (n :: r) = true) : stN p i b n = true ∧ stL p i (decide (n.name = [])) r = true := by
  rw [stL, Bool.and_eq_true] at h
  exact h
end Utf1

namespace Saf
open Utf1 Pol8

def href : L := [104, 114, 101, 102]
def relN : L := [114, 101, 108]
def styN : L := [115, 116, 121, 108, 101]
def clsN : L := [99, 108, 97, 115, 115]
def aN : L := [97]
def forced : L := [110, 111, 102, 111, 108, 108, 111, 119, 32, 110, 111, 111, 112, 101, 110, 101, 114]
/-- Attributes whose values are places. -/
def placeL : List L := [[104, 114, 101, 102], [115, 114, 99], [99, 105, 116, 101], [97, 99, 116, 105, 111, 110], [98, 97, 99, 107, 103, 114, 111, 117, 110, 100], [108, 111, 110, 103, 100, 101, 115, 99], [112, 105, 110, 103], [112, 111, 115, 116, 101, 114], [115, 114, 99, 115, 101, 116], [117, 115, 101, 109, 97, 112]]
def placeB (n : L) : Bool := decide (n ∈ placeL)
/-- Parts that are all classes, and unlike one another and those ahead. -/
def clsFrom (cl seen : List L) : List L → Bool
  | [] => true
  | x :: r => (decide (x ∈ cl) && !decide (x ∈ seen)) && clsFrom cl (seen ++ [x]) r
def classesB (cl : List L) (v : L) : Bool := clsFrom cl [] (Pol8.segs 32 v)
/-- May an attribute of an element stay with its value? -/
def valueB (p : Pol) (e n v : L) : Bool := decide (e ∈ p.el) && (if n = relN then decide (e = aN) && decide (v = forced) else if n = styN then decide (v ≠ []) && decide (Sty.filt p.pr v = v) else attrB p e n && (if n = clsN then decide (v ≠ []) && classesB p.cl v else (!placeB n || allowed v p.sc)))
abbrev At := List (L × L)
def hasB (a : At) (n : L) : Bool := a.any fun kv => decide (kv.1 = n)
def lastB (a : At) (n : L) : Bool := decide (a.getLast?.map Prod.fst = some n)
def linkedB (a : At) : Bool := if hasB a href = true then lastB a relN else !hasB a relN
mutual
def innerN (p : Pol) : Nd → Bool
  | .mk n a _ k => if n = [] then true else a.all (fun kv => valueB p n kv.1 kv.2) && (decide (n ∈ p.el) && ((!decide (n = aN) || linkedB a) && innerL p k))
def innerL (p : Pol) : List Nd → Bool
  | [] => true
  | x :: r => innerN p x && innerL p r
end
theorem innerN_kids (p : Pol) (x : Nd) : innerN p x = if x.name = [] then true else x.attrs.all (fun kv => valueB p x.name kv.1 kv.2) && (decide (x.name ∈ p.el) && ((!decide (x.name = aN) || linkedB x.attrs) && innerL p x.kids)) := by
  cases x
  rw [innerN]
  rfl
def safeB (p : Pol) (ns : List Nd) : Bool := stable ns && (decide ((ncL ns : Int) ≤ p.nd) && (decide ((dpL ns : Int) ≤ p.dp) && innerL p ns))

/-! Stricter. -/
theorem clsFrom_more {cl cl' : List L} (h : ∀ x ∈ cl, x ∈ cl') : ∀ (l seen : List L), clsFrom cl seen l = true → clsFrom cl' seen l = true
  | [], _, _ => rfl
  | x :: r, seen, hc => by
    rw [clsFrom, Bool.and_eq_true, Bool.and_eq_true, decide_eq_true_eq] at hc ⊢
    exact ⟨⟨h x hc.1.1, hc.1.2⟩, clsFrom_more h r _ hc.2⟩
theorem allowed_sub {v : L} {s s' : List L} (h : ∀ x ∈ s, x ∈ s') (ha : allowed v s = true) : allowed v s' = true := by
  unfold allowed at ha ⊢
  cases e : scheme v with
  | none => rw [e] at ha; exact ha
  | some x =>
    rw [e] at ha
    simp only [decide_eq_true_eq] at ha ⊢
    exact h x ha
theorem word_cs {n : L} (h : isWord n = true) : n ≠ [] ∧ ∀ b ∈ n, wc b = true := by
  unfold isWord at h
  rw [Bool.and_eq_true, Bool.and_eq_true, decide_eq_true_eq, List.all_eq_true] at h
  exact ⟨fun e => by rw [e] at h; simp at h, h.2.1⟩
theorem wc_not (b : UInt8) (h : wc b = true) : Sty.cutset.contains b = false := by
  have := of_decide_eq_true h
  exact Sty.set_not b (by omega) (by omega) (by omega) (by omega) (by omega)
theorem word_pl {n : L} (h : isWord n = true) (a z : L) (ha : ∀ b ∈ a, Sty.cutset.contains b = true) (hz : ∀ b ∈ z, Sty.cutset.contains b = true) : Sty.pl (a ++ n ++ z) = n := by
  obtain ⟨h0, h1⟩ := word_cs h
  have h2 : ∀ b, n.head? = some b → Sty.cutset.contains b = false := fun b hb => wc_not b (h1 b (List.mem_of_mem_head? hb))
  have h3 : ∀ b, n.getLast? = some b → Sty.cutset.contains b = false := fun b hb => wc_not b (h1 b (List.mem_of_mem_getLast? hb))
  unfold Sty.pl
  rw [Sty.trim_around a n z h0 ha hz (Sty.trim_id n h2 h3) h2 h3]
  refine Sty.lower_id n fun b hb => ?_
  have := of_decide_eq_true (h1 b hb)
  omega
theorem good_word {n v : L} (hn : isWord n = true) (hv : Sty.okv v = true) : Sty.Good (n, v) := by
  have c32 : ∀ b ∈ ([32] : L), Sty.cutset.contains b = true := by decide
  have c0 : ∀ b ∈ ([] : L), Sty.cutset.contains b = true := by simp
  obtain ⟨h0, h1⟩ := word_cs hn
  obtain ⟨_, v1, _, _⟩ := Sty.okv_ends hv
  refine ⟨fun e => ?_, fun e => ?_, fun e => ?_, ?_, ?_, ?_⟩
  · have := h1 _ e; revert this; decide
  · have := h1 _ e; revert this; decide
  · have := v1 _ e; revert this; decide
  · have := word_pl hn [] [] c0 c0; simpa using this
  · have := word_pl hn [32] [] c32 c0; simpa using this
  · have := Sty.okv_pl hv [32] [] c32 c0; simpa using this
theorem filt_sub {P P' : List L} (hp : ∀ n ∈ P, isWord n = true) (hs : ∀ n ∈ P, n ∈ P') {v : L} (h : Sty.filt P v = v) : Sty.filt P' v = v := by
  have h1 : Sty.prts v = Sty.lastOnly (Sty.stay P v) := by
    have := Sty.prts_all (Sty.lastOnly (Sty.stay P v)) (fun x hx => good_word (hp x.1 (Sty.stay_keep hx).1) (Sty.stay_keep hx).2)
    rw [show (Sty.lastOnly (Sty.stay P v)).foldl Sty.emit [] = v from h] at this
    exact this
  have h2 : Sty.stay P' v = Sty.lastOnly (Sty.stay P v) := by
    show (Sty.prts v).filter (Sty.keep P') = _
    rw [h1]
    refine List.filter_eq_self.2 ?_
    · intro x hx
      obtain ⟨a, b⟩ := Sty.stay_keep hx
      unfold Sty.keep
      rw [decide_eq_true (hs _ a), b]
      rfl
  unfold Sty.filt
  rw [h2, Sty.last_last]
  exact h
theorem word_46 {n : L} (h : isWord n = true) : (46 : UInt8) ∉ n := fun e => by
  have := (word_cs h).2 _ e
  revert this
  decide
theorem value_more {p q : Pol} (hp : Right p) (hs : Str p q) {e n v : L} (h : valueB p e n v = true) : valueB q e n v = true := by
  unfold valueB at h ⊢
  rw [Bool.and_eq_true, decide_eq_true_eq] at h ⊢
  obtain ⟨he, h⟩ := h
  refine ⟨hs.el e he, ?_⟩
  by_cases hr : n = relN
  · rw [if_pos hr] at h ⊢
    exact h
  · rw [if_neg hr] at h ⊢
    by_cases hst : n = styN
    · rw [if_pos hst] at h ⊢
      rw [Bool.and_eq_true, decide_eq_true_eq, decide_eq_true_eq] at h ⊢
      exact ⟨h.1, filt_sub (words_all hp.pr) hs.pr h.2⟩
    · rw [if_neg hst] at h ⊢
      rw [Bool.and_eq_true] at h ⊢
      refine ⟨lets_more hs (word_46 (words_all hp.el e he)) h.1, ?_⟩
      have h := h.2
      by_cases hc : n = clsN
      · rw [if_pos hc] at h ⊢
        rw [Bool.and_eq_true] at h ⊢
        exact ⟨h.1, clsFrom_more hs.cl _ _ h.2⟩
      · rw [if_neg hc] at h ⊢
        rw [Bool.or_eq_true] at h ⊢
        exact h.imp id (allowed_sub hs.sc)
mutual
theorem innerN_more {p q : Pol} (hp : Right p) (hs : Str p q) : ∀ x : Nd, innerN p x = true → innerN q x = true
  | .mk n a t k, h => by
    rw [innerN] at h ⊢
    by_cases hn : n = []
    · rw [if_pos hn]
    · rw [if_neg hn] at h ⊢
      rw [Bool.and_eq_true, Bool.and_eq_true, Bool.and_eq_true, decide_eq_true_eq, List.all_eq_true] at h ⊢
      exact ⟨fun kv hkv => value_more hp hs (h.1 kv hkv), hs.el n h.2.1, h.2.2.1, innerL_more hp hs k h.2.2.2⟩
theorem innerL_more {p q : Pol} (hp : Right p) (hs : Str p q) : ∀ l : List Nd, innerL p l = true → innerL q l = true
  | [], _ => rfl
  | x :: r, h => by
    rw [innerL, Bool.and_eq_true] at h ⊢
    exact ⟨innerN_more hp hs x h.1, innerL_more hp hs r h.2⟩
end
theorem safe_more {p q : Pol} (hp : Right p) (hs : Str p q) {ns : List Nd} (h : safeB p ns = true) : safeB q ns = true := by
  unfold safeB at h ⊢
  rw [Bool.and_eq_true, Bool.and_eq_true, Bool.and_eq_true, decide_eq_true_eq, decide_eq_true_eq] at h ⊢
  have := hs.c
  exact ⟨h.1, by omega, by omega, innerL_more hp hs ns h.2.2.2⟩
end Saf

namespace Saf
open Utf1 Pol8

theorem imp_b {a b : Bool} (h : a = true → b = true) (hb : b = false) : a = false := by
  cases a
  · rfl
  · rw [h rfl] at hb
    cases hb
theorem itm_mono {i i' : Bool} (h : i' = true → i = true) (n : L) : itm i' n = true → itm i n = true := by
  unfold itm
  split
  · exact id
  · split
    · exact id
    · exact h
mutual
theorem stN_weak : ∀ (x : Nd) {p i b p' i' b' : Bool}, (p' = true → p = true) → (i' = true → i = true) → (b' = true → b = true) → stN p i b x = true → stN p' i' b' x = true
  | .mk n a t k, p, i, b, p', i', b', hp, hi, hb, h => by
    rw [stN] at h ⊢
    by_cases hn : n = []
    · rw [if_pos hn] at h ⊢
      simp only [Bool.and_eq_true, Bool.not_eq_true'] at h ⊢
      exact ⟨⟨⟨h.1.1.1, imp_b hb h.1.1.2⟩, h.1.2⟩, h.2⟩
    · rw [if_neg hn] at h ⊢
      rw [Bool.and_eq_true, Bool.and_eq_true, Bool.and_eq_true, Bool.and_eq_true] at h ⊢
      obtain ⟨⟨⟨⟨h1, h2⟩, h3⟩, h4⟩, h5⟩ := h
      refine ⟨⟨⟨⟨h1, h2⟩, h3⟩, ?_⟩, ?_⟩
      · rw [Bool.not_eq_true'] at h4 ⊢
        refine imp_b (fun e => ?_) h4
        rw [Bool.or_eq_true, Bool.and_eq_true, Bool.and_eq_true] at e ⊢
        exact e.imp (fun x => ⟨hp x.1, x.2⟩) (fun x => ⟨hi x.1, x.2⟩)
      · by_cases hv : n ∈ voids
        · rw [if_pos hv] at h5 ⊢
          exact h5
        · rw [if_neg hv] at h5 ⊢
          refine stL_weak k (fun e => ?_) (itm_mono hi n) id h5
          rw [Bool.or_eq_true] at e ⊢
          exact e.imp hp id
theorem stL_weak : ∀ (l : List Nd) {p i b p' i' b' : Bool}, (p' = true → p = true) → (i' = true → i = true) → (b' = true → b = true) → stL p i b l = true → stL p' i' b' l = true
  | [], _, _, _, _, _, _, _, _, _, _ => by rw [stL]
  | x :: r, p, i, b, p', i', b', hp, hi, hb, h => by
    rw [stL, Bool.and_eq_true] at h ⊢
    exact ⟨stN_weak x hp hi hb h.1, stL_weak r hp hi id h.2⟩
end
theorem stL_take : ∀ (l : List Nd) (k : Nat) {p i b : Bool}, stL p i b l = true → stL p i b (l.take k) = true
  | [], k, _, _, _, h => by rw [List.take_nil]; exact h
  | x :: r, 0, _, _, _, _ => by rw [List.take_zero, stL]
  | x :: r, k + 1, p, i, b, h => by
    rw [List.take_succ_cons, stL, Bool.and_eq_true]
    rw [stL, Bool.and_eq_true] at h
    exact ⟨h.1, stL_take r k h.2⟩
theorem stL_drop : ∀ (l : List Nd) (k : Nat) {p i b : Bool}, stL p i b l = true → stL p i false (l.drop k) = true
  | [], k, _, _, _, h => by rw [List.drop_nil, stL]
  | x :: r, 0, _, _, _, h => by
    rw [List.drop_zero]
    exact stL_weak _ id id (fun e => by cases e) h
  | x :: r, k + 1, p, i, b, h => by
    rw [List.drop_succ_cons]
    rw [stL, Bool.and_eq_true] at h
    exact stL_drop r k h.2
theorem stL_kids : ∀ (l : List Nd) (k : Nat) (x : Nd) {p i b : Bool}, stL p i b l = true → l[k]? = some x → stL false false false x.kids = true
  | [], k, x, _, _, _, _, h => by simp at h
  | y :: r, 0, x, p, i, b, hs, h => by
    have e : y = x := by simpa using h
    subst e
    rw [stL, Bool.and_eq_true] at hs
    cases y with
    | mk n a t ks =>
      show stL false false false ks = true
      by_cases hn : n = []
      · have := (stN_text hn hs.1).2.2.2
        rw [this, stL]
      · obtain ⟨-, -, -, -, h1, h2⟩ := stN_elem hn hs.1
        by_cases hv : n ∈ voids
        · rw [h1 hv, stL]
        · exact stL_weak _ (fun e => by cases e) (fun e => by cases e) id (h2 hv)
  | y :: r, k + 1, x, p, i, b, hs, h => by
    rw [stL, Bool.and_eq_true] at hs
    exact stL_kids r k x hs.2 (by simpa using h)
theorem nc_take (l : List Nd) (k : Nat) : ncL (l.take k) ≤ ncL l := by
  have := ncL_app (l.take k) (l.drop k)
  rw [List.take_append_drop] at this
  omega
theorem nc_drop (l : List Nd) (k : Nat) : ncL (l.drop k) ≤ ncL l := by
  have := ncL_app (l.take k) (l.drop k)
  rw [List.take_append_drop] at this
  omega
theorem dp_take (l : List Nd) (k : Nat) : dpL (l.take k) ≤ dpL l := by
  have := dpL_app (l.take k) (l.drop k)
  rw [List.take_append_drop] at this
  omega
theorem dp_drop (l : List Nd) (k : Nat) : dpL (l.drop k) ≤ dpL l := by
  have := dpL_app (l.take k) (l.drop k)
  rw [List.take_append_drop] at this
  omega
theorem one_kids : ∀ (l : List Nd) (k : Nat) (x : Nd), l[k]? = some x → ncL x.kids ≤ ncL l ∧ dpL x.kids ≤ dpL l
  | [], k, x, h => by simp at h
  | y :: r, 0, x, h => by
    have e : y = x := by simpa using h
    subst e
    rw [ncL, dpL, ncN_kids, dpN_kids]
    omega
  | y :: r, k + 1, x, h => by
    have := one_kids r k x (by simpa using h)
    rw [ncL, dpL]
    omega
theorem inner_app (p : Pol) : ∀ a b : List Nd, innerL p (a ++ b) = (innerL p a && innerL p b)
  | [], b => by rw [List.nil_append, innerL, Bool.true_and]
  | x :: a, b => by rw [List.cons_append, innerL, innerL, inner_app p a b, Bool.and_assoc]
theorem inner_kids (p : Pol) : ∀ (l : List Nd) (k : Nat) (x : Nd), innerL p l = true → l[k]? = some x → (x.name = [] → x.kids = []) → innerL p x.kids = true
  | [], k, x, _, h, _ => by simp at h
  | y :: r, 0, x, hi, h, ht => by
    have e : y = x := by simpa using h
    subst e
    rw [innerL, Bool.and_eq_true, innerN_kids] at hi
    by_cases hn : y.name = []
    · rw [ht hn, innerL]
    · rw [if_neg hn] at hi
      rw [Bool.and_eq_true, Bool.and_eq_true, Bool.and_eq_true] at hi
      exact hi.1.2.2.2
  | y :: r, k + 1, x, hi, h, ht => by
    rw [innerL, Bool.and_eq_true] at hi
    exact inner_kids p r k x hi.2 (by simpa using h) ht
theorem stL_text : ∀ (l : List Nd) (k : Nat) (x : Nd) {p i b : Bool}, stL p i b l = true → l[k]? = some x → x.name = [] → x.kids = []
  | [], k, x, _, _, _, _, h, _ => by simp at h
  | y :: r, 0, x, p, i, b, hs, h, hn => by
    have e : y = x := by simpa using h
    subst e
    rw [stL, Bool.and_eq_true] at hs
    cases y with
    | mk n a t ks => exact (stN_text hn hs.1).2.2.2
  | y :: r, k + 1, x, p, i, b, hs, h, hn => by
    rw [stL, Bool.and_eq_true] at hs
    exact stL_text r k x hs.2 (by simpa using h) hn
structure SafeP (p : Pol) (ns : List Nd) : Prop where
  n : ncL ns ≤ 2000
  d : dpL ns ≤ 64
  s : stL false false false ns = true
  pn : (ncL ns : Int) ≤ p.nd
  pd : (dpL ns : Int) ≤ p.dp
  i : innerL p ns = true
theorem safe_iff (p : Pol) (ns : List Nd) : safeB p ns = true ↔ SafeP p ns := by
  unfold safeB stable
  simp only [Bool.and_eq_true, decide_eq_true_eq]
  constructor
  · rintro ⟨⟨⟨h1, h2⟩, h3⟩, h4, h5, h6⟩
    exact ⟨h1, h2, h3, h4, h5, h6⟩
  · rintro ⟨h1, h2, h3, h4, h5, h6⟩
    exact ⟨⟨⟨h1, h2⟩, h3⟩, h4, h5, h6⟩
/-- What stands within an element of a safe tree is safe alone; so is a part of the list. -/
theorem safe_parts {p : Pol} {ns : List Nd} (h : safeB p ns = true) {k : Nat} {x : Nd} (hx : ns[k]? = some x) : safeB p x.kids = true ∧ safeB p (ns.take k) = true ∧ safeB p (ns.drop k) = true := by
  have h := (safe_iff p ns).1 h
  obtain ⟨k1, k2⟩ := one_kids ns k x hx
  have t1 := nc_take ns k
  have t2 := dp_take ns k
  have d1 := nc_drop ns k
  have d2 := dp_drop ns k
  have hn := h.n
  have hd := h.d
  have hpn := h.pn
  have hpd := h.pd
  have hi := h.i
  rw [← List.take_append_drop k ns, inner_app, Bool.and_eq_true] at hi
  refine ⟨(safe_iff _ _).2 ⟨by omega, by omega, stL_kids ns k x h.s hx, by omega, by omega, inner_kids p ns k x h.i hx (stL_text ns k x h.s hx)⟩, (safe_iff _ _).2 ⟨by omega, by omega, stL_take ns k h.s, by omega, by omega, hi.1⟩, (safe_iff _ _).2 ⟨by omega, by omega, stL_drop ns k h.s, by omega, by omega, hi.2⟩⟩
theorem safe_nil {p : Pol} (h : Right p) : safeB p [] = true := by
  have := h.c
  refine (safe_iff _ _).2 ⟨by simp [ncL], by simp [dpL], by rw [stL], ?_, ?_, by rw [innerL]⟩
  · rw [ncL]
    omega
  · rw [dpL]
    omega
theorem safe_text {p : Pol} (h : Right p) (t : L) : safeB p [.mk [] [] t []] = decide (t ≠ []) := by
  have hc := h.c
  by_cases ht : t = []
  · subst ht
    rw [decide_eq_false (fun e => e rfl)]
    cases hs : safeB p [.mk [] [] [] []] with
    | false => rfl
    | true =>
      have := (safe_iff _ _).1 hs
      have h1 := this.s
      rw [stL, Bool.and_eq_true] at h1
      exact absurd rfl (stN_text rfl h1.1).1
  · rw [decide_eq_true ht]
    have e1 : ncL [Nd.mk [] [] t []] = 1 := by simp [ncL, ncN]
    have e2 : dpL [Nd.mk [] [] t []] = 0 := by simp [dpL, dpN]
    refine (safe_iff _ _).2 ⟨by rw [e1]; omega, by rw [e2]; omega, ?_, by rw [e1]; omega, by rw [e2]; omega, ?_⟩
    · rw [stL, stL, stN, if_pos rfl]
      have : t.isEmpty = false := by
        cases t with
        | nil => exact absurd rfl ht
        | cons a r => rfl
      simp [this]
    · rw [innerL, innerL, innerN, if_pos rfl]
      rfl
end Saf

namespace Saf
open Utf1 Pol8

/-- The place of the first attribute of a name; -1 if there is none. -/
def fi (n : L) : At → Int
  | [] => -1
  | kv :: r => if kv.1 = n then 0 else if fi n r < 0 then -1 else fi n r + 1
theorem fi_none : ∀ (a : At) (n : L), hasB a n = false → fi n a = -1
  | [], _, _ => rfl
  | kv :: r, n, h => by
    unfold hasB at h
    rw [List.any_cons, Bool.or_eq_false_iff, decide_eq_false_iff_not] at h
    rw [fi, if_neg h.1, fi_none r n h.2]
    rfl
theorem fi_at : ∀ (a : At) (n : L) (i : Nat) (kv : L × L), a[i]? = some kv → kv.1 = n → (∀ (j : Nat) (x : L × L), j < i → a[j]? = some x → x.1 ≠ n) → fi n a = (i : Int)
  | [], n, i, kv, h, _, _ => by simp at h
  | x :: r, n, 0, kv, h, e, _ => by
    have : x = kv := by simpa using h
    subst this
    rw [fi, if_pos e]
    rfl
  | x :: r, n, i + 1, kv, h, e, hb => by
    have h0 := hb 0 x (by omega) rfl
    have := fi_at r n i kv (by simpa using h) e (fun j y hj hy => hb (j + 1) y (by omega) (by simpa using hy))
    rw [fi, if_neg h0, this, if_neg (by omega)]
    omega
theorem has_first : ∀ (a : At) (n : L), hasB a n = true → ∃ (i : Nat) (kv : L × L), a[i]? = some kv ∧ kv.1 = n ∧ ∀ (j : Nat) (x : L × L), j < i → a[j]? = some x → x.1 ≠ n
  | [], n, h => by cases h
  | x :: r, n, h => by
    by_cases e : x.1 = n
    · exact ⟨0, x, rfl, e, fun j y hj => by omega⟩
    · unfold hasB at h
      rw [List.any_cons, decide_eq_false e, Bool.false_or] at h
      obtain ⟨i, kv, h1, h2, h3⟩ := has_first r n h
      refine ⟨i + 1, kv, by simpa using h1, h2, fun j y hj hy => ?_⟩
      cases j with
      | zero =>
        have : x = y := by simpa using hy
        subst this
        exact e
      | succ j => exact h3 j y (by omega) (by simpa using hy)
theorem fi_has (a : At) (n : L) : decide (fi n a < 0) = !hasB a n := by
  cases h : hasB a n with
  | false => rw [fi_none a n h]; rfl
  | true =>
    obtain ⟨i, kv, h1, h2, h3⟩ := has_first a n h
    rw [fi_at a n i kv h1 h2 h3, decide_eq_false (by omega)]
    rfl
/-- Has an a its rel at the end, if it leads anywhere, and none, if it does not? -/
def relB (a : At) : Bool := if fi href a < 0 then decide (fi relN a < 0) else decide (fi relN a = (a.length : Int) - 1)
theorem rel_linked (a : At) (hd : (a.map Prod.fst).Nodup) : relB a = linkedB a := by
  unfold relB linkedB
  cases hh : hasB a href with
  | false =>
    rw [fi_none a href hh, if_pos (by omega), if_neg (by decide), fi_has]
  | true =>
    obtain ⟨i, kv, h1, h2, h3⟩ := has_first a href hh
    have hl := (List.getElem?_eq_some_iff.1 h1).1
    rw [fi_at a href i kv h1 h2 h3, if_neg (by omega), if_pos rfl]
    unfold lastB
    cases hr : hasB a relN with
    | false =>
      rw [fi_none a relN hr, decide_eq_false (by omega), eq_comm, decide_eq_false_iff_not]
      intro e
      cases hg : a.getLast? with
      | none => rw [hg] at e; cases e
      | some x =>
        rw [hg] at e
        have e : x.1 = relN := Option.some.inj e
        have hm := List.mem_of_getLast? hg
        have : hasB a relN = true := List.any_eq_true.2 ⟨x, hm, decide_eq_true e⟩
        rw [this] at hr
        cases hr
    | true =>
      obtain ⟨k, x, g1, g2, g3⟩ := has_first a relN hr
      have hk := (List.getElem?_eq_some_iff.1 g1).1
      rw [fi_at a relN k x g1 g2 g3, List.getLast?_eq_getElem?]
      by_cases e : k = a.length - 1
      · rw [decide_eq_true (by omega), ← e, g1]
        show true = decide (some x.1 = some relN)
        rw [g2, decide_eq_true rfl]
      · rw [decide_eq_false (by omega), eq_comm, decide_eq_false_iff_not]
        intro hl2
        have hlt : a.length - 1 < a.length := by omega
        rw [List.getElem?_eq_getElem hlt] at hl2
        have hl2 : (a[a.length - 1]).1 = relN := Option.some.inj hl2
        have hx := (List.getElem?_eq_some_iff.1 g1).2
        have hd' := (List.pairwise_iff_getElem.1 hd) k (a.length - 1) (by rw [List.length_map]; exact hk) (by rw [List.length_map]; exact hlt) (by omega)
        rw [List.getElem_map, List.getElem_map, hl2, hx, g2] at hd'
        exact hd' rfl
/-- What is asked of one element. -/
def elemB (p : Pol) (n : L) (a : At) : Bool := decide (n ∈ p.el) && (a.all (fun kv => valueB p n kv.1 kv.2) && (!decide (n = aN) || relB a))
mutual
def eachN (p : Pol) : Nd → Bool
  | .mk n a _ k => (decide (n = []) || elemB p n a) && eachL p k
def eachL (p : Pol) : List Nd → Bool
  | [] => true
  | x :: r => eachN p x && eachL p r
end
theorem eachN_kids (p : Pol) (x : Nd) : eachN p x = ((decide (x.name = []) || elemB p x.name x.attrs) && eachL p x.kids) := by
  cases x
  rw [eachN]
  rfl
theorem eachL_no {p : Pol} : ∀ {ns : List Nd} {i : Nat} {x : Nd}, ns[i]? = some x → eachN p x = false → eachL p ns = false
  | [], i, x, h, _ => by simp at h
  | y :: r, 0, x, h, hx => by
    have e : y = x := by simpa using h
    subst e
    rw [eachL, hx]
    rfl
  | y :: r, i + 1, x, h, hx => by
    rw [eachL, eachL_no (ns := r) (i := i) (by simpa using h) hx, Bool.and_false]
theorem eachL_yes {p : Pol} : ∀ {ns : List Nd}, (∀ (i : Nat) (x : Nd), ns[i]? = some x → eachN p x = true) → eachL p ns = true
  | [], _ => by rw [eachL]
  | y :: r, h => by
    rw [eachL, h 0 y rfl, eachL_yes (ns := r) (fun i x hx => h (i + 1) x (by simpa using hx))]
    rfl
mutual
theorem each_innerN (pl : Pol) : ∀ (x : Nd) {p i b : Bool}, stN p i b x = true → eachN pl x = innerN pl x
  | .mk n a t k, p, i, b, h => by
    rw [eachN, innerN]
    by_cases hn : n = []
    · rw [(stN_text hn h).2.2.2, if_pos hn, decide_eq_true hn, eachL]
      rfl
    · obtain ⟨-, -, ha, -, h1, h2⟩ := stN_elem hn h
      have hk : eachL pl k = innerL pl k := by
        by_cases hv : n ∈ voids
        · rw [h1 hv, eachL, innerL]
        · exact each_innerL pl k (h2 hv)
      unfold mayA at ha
      rw [Bool.and_eq_true, decide_eq_true_eq] at ha
      rw [if_neg hn, decide_eq_false hn, Bool.false_or, hk]
      unfold elemB
      rw [rel_linked a ha.2]
      generalize decide (n ∈ pl.el) = A
      generalize (a.all fun kv => valueB pl n kv.1 kv.2) = B
      generalize (!decide (n = aN) || linkedB a) = C
      generalize innerL pl k = D
      cases A <;> cases B <;> cases C <;> rfl
theorem each_innerL (pl : Pol) : ∀ (l : List Nd) {p i b : Bool}, stL p i b l = true → eachL pl l = innerL pl l
  | [], _, _, _, _ => by rw [eachL, innerL]
  | x :: r, p, i, b, h => by
    rw [stL, Bool.and_eq_true] at h
    rw [eachL, innerL, each_innerN pl x h.1, each_innerL pl r h.2]
end
theorem safe_each (p : Pol) (ns : List Nd) : safeB p ns = (stable ns && (decide ((ncL ns : Int) ≤ p.nd) && (decide ((dpL ns : Int) ≤ p.dp) && eachL p ns))) := by
  unfold safeB
  cases h : stable ns with
  | false => rfl
  | true =>
    unfold stable at h
    rw [Bool.and_eq_true] at h
    rw [each_innerL p ns h.2]
end Saf

namespace Go.Proofs.YtbcadeikdmlpoaaDoor
open Go.RowKit
open Utf1 Pol8

theorem wpAnyH_at {P : Program} {ops : Array Oper} {Q : Exit → Act → World → Prop} {md : Region.Mode} {S : World → Prop} {i : Nat} {oi : Oper} {v : Value} {fuel : Nat} {listed : Array Bool} {a a1 : Act} {w : World} (hi : ops[i]? = some oi)
    (hs : Region.noSelect ops = true) (hf : Region.free md ops listed i = true) (hr : (Region.ready md ops listed).contains i = true)
    (hQ : ∀ c a w, Q (.panic c) (a.put oi.dst v) w → Q (.panic c) a w) (hy : YieldsIf P ops S oi v a) (hS : S w) (ha : a.put oi.dst v = a1)
    (h : wpAnyH P md ops Q S fuel (listed.setIfInBounds i true) a1 w) : wpAnyH P md ops Q S (fuel + 1) listed a w := by
  subst ha
  exact wpAnyH_take hi hs hf hr hQ hy hS h
/-- A policy and an attribute in their blocks. -/
def BoxV (w : World) (A B : Array Value) (wx : World) : Prop := wx.heap[w.heap.size]? = some (.cells A 24 (0, 0)) ∧ wx.heap[w.heap.size + 1]? = some (.cells B 26 (0, 0)) ∧ Below w.heap.size w wx
theorem BoxV.keep {w wx wy : World} {A B : Array Value} (h : BoxV w A B wx) (hb : Below wx.heap.size wx wy) : BoxV w A B wy :=
  ⟨(hb.block _ (Array.getElem?_eq_some_iff.1 h.1).1).trans h.1, (hb.block _ (Array.getElem?_eq_some_iff.1 h.2.1).1).trans h.2.1, h.2.2.trans (hb.mono h.2.2.size)⟩
theorem BoxV.a {w wx : World} {A B : Array Value} (h : BoxV w A B wx) (i : Nat) (v : Value) (hv : A[i]? = some v) : wx.cell? ⟨w.heap.size, i, none⟩ = some v := tag_cell h.1 i v hv
theorem BoxV.b {w wx : World} {A B : Array Value} (h : BoxV w A B wx) (i : Nat) (v : Value) (hv : B[i]? = some v) : wx.cell? ⟨w.heap.size + 1, i, none⟩ = some v := tag_cell h.2.1 i v hv
theorem BoxV.new (w : World) (A B : Array Value) : BoxV w A B ((w.alloc (.cells A 24)).alloc (.cells B 26)) := by
  have s1 : (w.alloc (.cells A 24)).heap.size = w.heap.size + 1 := by simp
  have k2 := new_block (w.alloc (.cells A 24)) B 26
  rw [s1] at k2
  refine ⟨?_, k2, bel_alloc (bel_alloc (Below.refl _ _) _) _⟩
  rw [Below.heap_alloc _ _ _ (by rw [s1]; omega)]
  exact new_block _ _ _
theorem ne_empty (a : ByteArray) : (a.toList != []) = decide (bl a ≠ []) := by
  rw [ByteArray.toList_eq]
  by_cases h : bl a = []
  · rw [decide_eq_false (fun e => e h), show a.data.toList = [] from h]
    rfl
  · rw [decide_eq_true h]
    simpa using h

/-- A node's parameter in its block. -/
def BoxN (w : World) (A : Array Value) (wx : World) : Prop := wx.heap[w.heap.size]? = some (.cells A 36 (0, 0)) ∧ Below w.heap.size w wx
theorem BoxN.keep {w wx wy : World} {A : Array Value} (h : BoxN w A wx) (hb : Below wx.heap.size wx wy) : BoxN w A wy :=
  ⟨(hb.block _ (Array.getElem?_eq_some_iff.1 h.1).1).trans h.1, h.2.trans (hb.mono h.2.size)⟩
theorem BoxN.cell {w wx : World} {A : Array Value} (h : BoxN w A wx) (i : Nat) (v : Value) (hv : A[i]? = some v) : wx.cell? ⟨w.heap.size, i, none⟩ = some v := tag_cell h.1 i v hv
theorem BoxN.new (w : World) (A : Array Value) : BoxN w A (w.alloc (.cells A 36)) := ⟨new_block _ _ _, bel_alloc (Below.refl _ _) _⟩
end Go.Proofs.YtbcadeikdmlpoaaDoor

namespace Go.Proofs.YtbcadeikdmlpoaaDoor
open Go.RowKit
open Utf1 Pol8

abbrev plS : List ByteArray := [⟨#[104, 114, 101, 102]⟩, ⟨#[115, 114, 99]⟩, ⟨#[99, 105, 116, 101]⟩, ⟨#[97, 99, 116, 105, 111, 110]⟩, ⟨#[98, 97, 99, 107, 103, 114, 111, 117, 110, 100]⟩, ⟨#[108, 111, 110, 103, 100, 101, 115, 99]⟩, ⟨#[112, 105, 110, 103]⟩, ⟨#[112, 111, 115, 116, 101, 114]⟩, ⟨#[115, 114, 99, 115, 101, 116]⟩, ⟨#[117, 115, 101, 109, 97, 112]⟩]
def plCells : Array Value := #[.string ⟨#[104, 114, 101, 102]⟩, .string ⟨#[115, 114, 99]⟩, .string ⟨#[99, 105, 116, 101]⟩, .string ⟨#[97, 99, 116, 105, 111, 110]⟩, .string ⟨#[98, 97, 99, 107, 103, 114, 111, 117, 110, 100]⟩, .string ⟨#[108, 111, 110, 103, 100, 101, 115, 99]⟩, .string ⟨#[112, 105, 110, 103]⟩, .string ⟨#[112, 111, 115, 116, 101, 114]⟩, .string ⟨#[115, 114, 99, 115, 101, 116]⟩, .string ⟨#[117, 115, 101, 109, 97, 112]⟩]
theorem wpList_loadV {P : Program} {ops : Array Oper} {rest : List Oper} {o : Oper} {a : Act} {w w' : World} {Q : Exit → Act → World → Prop} (hg : o.guard = none) (t : TypeId) (x : Operand) (ho : o.op = .load t x) (v : Value)
    (hx : (Instr.loadAt t (a.eval x)).run P w = .ok v w') (h : wpList P ops Q rest (a.put o.dst v) w') : wpList P ops Q (o :: rest) a w :=
  wpList_plain hg fun K hK => by
    unfold Oper.wp execOp
    simp only [ho, Sem.run_bind, hx, Result.andThen_ok]
    exact hK _ _ h
theorem pl_load (w : World) : (Instr.loadAt 46 (.pointer (some ⟨w.heap.size, 0, none⟩))).run Tryd.prog (w.alloc (.cells plCells 46)) = .ok (.agg plCells) (w.alloc (.cells plCells 46)) := run_loadAt_new w 46 plCells 10 9 Tryd.underlying46 (by kernel_rfl)
theorem pl_index : ∀ (k : Nat) (x : ByteArray) (_ : plS[k]? = some x) (w : World), (Instr.index 46 (.agg plCells) (.int .i64 (k : Int))).run Tryd.prog w = .ok (.string x) w
  | 0, x, h, w => by cases h; kernel_rfl
  | 1, x, h, w => by cases h; kernel_rfl
  | 2, x, h, w => by cases h; kernel_rfl
  | 3, x, h, w => by cases h; kernel_rfl
  | 4, x, h, w => by cases h; kernel_rfl
  | 5, x, h, w => by cases h; kernel_rfl
  | 6, x, h, w => by cases h; kernel_rfl
  | 7, x, h, w => by cases h; kernel_rfl
  | 8, x, h, w => by cases h; kernel_rfl
  | 9, x, h, w => by cases h; kernel_rfl
  | k + 10, x, h, _ => by simp at h

set_option maxHeartbeats 4000000 in
set_option maxRecDepth 100000 in
theorem pplace_any (n : ByteArray) (w : World) :
    Calls Tryd.prog 11 #[.string n] w fun e w' => e = .returned (.bool (decide (bl n ∈ plS.map bl))) ∧ Below w.heap.size w w' := by
  obtain ⟨R, hR⟩ : ∃ R, R = decide (bl n ∈ plS.map bl) := ⟨_, rfl⟩
  rw [← hR]
  have HR := hide hR
  clear hR
  go_enter Tryd.func11, Tryd.ntmps11
  go_upto_region 2 with fail
  have hix := pl_index
  have hld := pl_load w
  obtain ⟨N, hN⟩ : ∃ N : Array Value, N = plCells := ⟨_, rfl⟩
  have hN' : N = #[.string ⟨#[104, 114, 101, 102]⟩, .string ⟨#[115, 114, 99]⟩, .string ⟨#[99, 105, 116, 101]⟩, .string ⟨#[97, 99, 116, 105, 111, 110]⟩, .string ⟨#[98, 97, 99, 107, 103, 114, 111, 117, 110, 100]⟩, .string ⟨#[108, 111, 110, 103, 100, 101, 115, 99]⟩, .string ⟨#[112, 105, 110, 103]⟩, .string ⟨#[112, 111, 115, 116, 101, 114]⟩, .string ⟨#[115, 114, 99, 115, 101, 116]⟩, .string ⟨#[117, 115, 101, 109, 97, 112]⟩] := hN
  rw [← hN']
  rw [← hN] at hix hld
  clear hN hN'
  obtain ⟨W, hW⟩ : ∃ W, W = w.alloc (.cells N 46) := ⟨_, rfl⟩
  have HB : Hid (Below w.heap.size w W) := hide (by rw [hW]; exact bel_alloc (Below.refl _ _) _)
  rw [← hW] at hld ⊢
  clear hW
  go_step
  refine wpList_loadV rfl 46 (Operand.tmp 3) rfl (.agg N) hld ?_
  simp only [Act.put]
  clear hld
  go_wp2_with fail
  go_loopg [8] 10 (fun g v wx => wx = W ∧ ∃ k : Nat, k + g = 10 ∧ v = .int .i64 (k : Int) ∧ Hid (∀ j x, j < k → plS[j]? = some x → bl n ≠ bl x))
  case atStart => exact ⟨rfl, 0, by omega, rfl, hide (fun j x hj => by omega)⟩
  case round =>
    obtain ⟨rfl, k, hk, rfl, HU⟩ := hrel
    by_cases hlt : k < 10
    · obtain ⟨x, hx⟩ : ∃ x, plS[k]? = some x := ⟨_, List.getElem?_eq_getElem hlt⟩
      have hi := fun w => hix k x hx w
      have HX := hide hx
      have heq := eq_two x n
      clear hix hx
      by_cases e : bl x = bl n
      · rw [decide_eq_true e] at heq
        have HN : Hid (R = true) := hide (by rw [HR.out]; exact decide_eq_true (by rw [← e]; exact List.mem_map_of_mem (List.mem_of_getElem? HX.out)))
        clear e HR HU HX
        go_wp2_with fail
        go_ret
        rw [HN.out]
        exact ⟨rfl, HB.out⟩
      · rw [decide_eq_false e] at heq
        have HNE := hide e
        clear e
        go_wp2_with fail
        go_roundg (10 - k - 1)
        case measure => omega
        case rel => exact ⟨rfl, k + 1, by omega, by first | rfl | simp, hide (fun j y hj hy => by
          by_cases e : j = k
          · subst e
            rw [HX.out] at hy
            cases hy
            exact fun h => HNE.out h.symm
          · exact HU.out j y (by omega) hy)⟩
    · have HN : Hid (R = false) := hide (by
        rw [HR.out]
        refine decide_eq_false (fun h => ?_)
        obtain ⟨y, hy, e⟩ := List.mem_map.1 h
        obtain ⟨j, hj⟩ := List.getElem?_of_mem hy
        exact HU.out j y (by have : j < 10 := (List.getElem?_eq_some_iff.1 hj).1; omega) hj e.symm)
      clear HR HU hix
      go_wp2_with fail
      go_ret
      rw [HN.out]
      exact ⟨rfl, HB.out⟩
end Go.Proofs.YtbcadeikdmlpoaaDoor

namespace Go.Proofs.YtbcadeikdmlpoaaDoor
open Go.RowKit Go.WideMaps
open Utf1 Pol8

/-- A value's first part, and what is left of it. -/
theorem cut_seg (V : ByteArray) (hV : V.size ≤ 100000) : ∃ (A B : ByteArray) (f : Bool), (∀ w, Calls Tryd.prog 34 #[.string V, .string ⟨#[32]⟩] w fun e w' => e = .returned (.tuple #[.string A, .string B, .bool f]) ∧ Below w.heap.size w w') ∧ A.size ≤ V.size ∧ B.size ≤ V.size ∧ (f = true → A.size + 1 + B.size = V.size ∧ Pol8.segs 32 (bl V) = bl A :: Pol8.segs 32 (bl B)) ∧ (f = false → Pol8.segs 32 (bl V) = [bl A]) := by
  by_cases h : (32 : UInt8) ∈ bl V
  · obtain ⟨A, B, e, hn⟩ := Sy.split_ba V 32 h
    have hsz : A.size + 1 + B.size = V.size := by
      have := congrArg List.length e
      rw [bl_len, List.length_append, List.length_cons, bl_len, bl_len] at this
      omega
    exact ⟨A, B, true, fun w => Sy.cut_some V 32 A B e hn hV w, by omega, by omega, fun _ => ⟨hsz, by rw [e]; exact Pol8.segs_semi 32 _ _ hn⟩, fun h => by cases h⟩
  · exact ⟨V, ⟨#[]⟩, false, fun w => Sy.cut_none V 32 h w, Nat.le_refl _, Nat.zero_le _, (fun h => by cases h), fun _ => Pol8.segs_end 32 _ h⟩

/-- The map tells of each part whether it was met. -/
def MOk (D : DataW Unit) (seen : List L) : Prop := ∀ x : L, D.atKey (.string x) (.lit (.int .i64 0)) = .lit (.int .i64 (if x ∈ seen then 1 else 0))
theorem MOk.nil : MOk (.map []) [] := fun _ => rfl
theorem MOk.put {D : DataW Unit} {seen : List L} (h : MOk D seen) (hD : Maps.IsMap D) (x : L) : MOk (D.put (.string x) (.lit (.int .i64 1))) (seen ++ [x]) := by
  intro y
  by_cases e : y = x
  · subst e
    rw [Maps.atKey_put_same hD (by simp [WideAt.IsKeyLit]) _ _, if_pos (by simp)]
  · rw [Maps.atKey_put_other (fun e' => e (by injection e')) _ _, h y]
    simp [e]
/-- What is held while a value's parts are gone through. -/
structure MetI (w : World) (mb : Nat) (R : Bool) (cl : List L) (V : L) (more : Bool) (n : Nat) (seen : List L) (wx : World) : Prop where
  b : Below w.heap.size w wx
  m : ∃ D : DataW Unit, wx.ownsMap Tryd.prog 9 (plainElem Tryd.prog 3) mb n D ∧ Maps.IsMap D ∧ MOk D seen
  on : more = true → R = Saf.clsFrom cl seen (Pol8.segs 32 V)
  off : more = false → R = true
theorem lit_int {a c : Int} (h : (DataW.lit (.int .i64 a) : DataW Unit) = .lit (.int .i64 c)) : c = a := by
  injection h with e
  injection e with _ e
  exact e.symm

set_option maxRecDepth 100000 in
set_option maxHeartbeats 8000000 in
theorem pclasses_any (s : ByteArray) (v : Value) (cs : List ByteArray) (hs : s.size ≤ 90000) (hl : cs.length ≤ 100000) (w : World) (hv : StrArg w v cs) :
    Calls Tryd.prog 20 #[.string s, v] w fun e w' => e = .returned (.bool (decide (bl s ≠ []) && Saf.classesB (cs.map bl) (bl s))) ∧ Below w.heap.size w w' := by
  have g1 := eq_lit s []
  have g2 := empty_bl s
  by_cases he : bl s = []
  · rw [decide_eq_true he] at g1 g2
    rw [decide_eq_false (fun h => h he)]
    clear he
    obtain ⟨p, cap, rfl, -, -⟩ := hv
    go_enter Tryd.func20, Tryd.ntmps20
    go_wp2_with fail
    go_ret
    exact ⟨rfl, Below.refl _ _⟩
  rw [decide_eq_false he] at g1 g2
  rw [decide_eq_true he, Bool.true_and]
  obtain ⟨R, hR⟩ : ∃ R, R = Saf.classesB (cs.map bl) (bl s) := ⟨_, rfl⟩
  rw [← hR]
  unfold Saf.classesB at hR
  have hmm := @run_makeMap Tryd.prog
  have HZ3 : Hid (∀ w : World, (zeroValue 3).run Tryd.prog w = .ok (.int .i64 0) w) := hide (fun w => by kernel_rfl)
  have HC : Hid (∀ (X : ByteArray) wx, Below w.heap.size w wx → Calls Tryd.prog 47 #[v, .string X] wx fun e w' => e = .returned (.bool (decide (bl X ∈ cs.map bl))) ∧ w' = wx) := hide (fun X wx h => Sy.contains_any X v cs hl wx (hv.below h))
  have H0 : Hid (MetI w w.heap.size R (cs.map bl) (bl s) true 0 [] (w.alloc (.map #[] 0))) := hide ⟨bel_alloc (Below.refl _ _) _, ⟨.map [], World.ownsMap_made (H := Unit) w Tryd.prog 9 (plainElem Tryd.prog 3), Maps.isMap_empty, MOk.nil⟩, fun _ => hR, fun h => by cases h⟩
  obtain ⟨p, cap, rfl, -, -⟩ := hv
  generalize cs.length = NL at *
  clear hR he hl
  go_enter Tryd.func20, Tryd.ntmps20
  go_wp2_with fail
  clear g1 g2 hmm
  go_loopg [0, 6] (s.size + 1) (fun g v0 v6 wx => ∃ (V : ByteArray) (more : Bool) (n : Nat) (seen : List L), v0 = .string V ∧ v6 = .bool more ∧ n + g ≤ s.size + 1 ∧ V.size ≤ 90000 ∧ (more = true → V.size + 1 ≤ g) ∧ Hid (MetI w w.heap.size R (cs.map bl) (bl V) more n seen wx))
  case atStart => exact ⟨s, true, 0, [], rfl, rfl, by omega, hs, fun _ => by omega, H0⟩
  case round =>
    obtain ⟨V, more, n, seen, rfl, rfl, hn, hV, hg, HU⟩ := hrel
    clear H0
    cases more with
    | false =>
      have HR : Hid (R = true) := hide (HU.out.off rfl)
      have HB := hide HU.out.b
      clear HU hg
      go_wp2_with fail
      go_ret
      rw [HR.out]
      exact ⟨rfl, HB.out⟩
    | true =>
      have hg := hg rfl
      obtain ⟨A, B, f, hcut, hA, hBs, hf1, hf0⟩ := cut_seg V (by omega)
      have HF1 := hide hf1
      have HF0 := hide hf0
      have HON : Hid (R = Saf.clsFrom (cs.map bl) seen (Pol8.segs 32 (bl V))) := hide (HU.out.on rfl)
      have CC := hide (hcut wr)
      clear hcut hf1 hf0
      go_wp2_with fail
      refine CC.out.mono ?_
      rintro e w1 ⟨rfl, h1⟩
      clear CC
      obtain ⟨D, hmap, hD, hok⟩ := HU.out.m
      have hmap := hmap.kept (below_grown h1) (by simp)
      have HB := hide (bel2 HU.out.b h1)
      have hkey : keyOf Tryd.prog 9 (.string A) = some (.string (bl A)) := keyOf_string_mk Tryd.underlying9 (by unfold maxLen; omega)
      obtain ⟨c, hlk, hat, -⟩ := hmap.lookup_int (Maps.string_keyed Tryd.underlying9) Tryd.underlying64 Tryd.underlying3 (HZ3.out _) hkey
      rw [hok (bl A)] at hat
      have hc := lit_int hat
      have HMAP := hide hmap
      have HD := hide hD
      have HOK := hide hok
      have CA := hide (HC.out A)
      clear hmap hD hok hat h1 HU
      by_cases hin : bl A ∈ seen
      · rw [if_pos hin] at hc
        subst hc
        have HN : Hid (R = false) := hide (by
          rw [HON.out]
          cases f with
          | true => rw [(HF1.out rfl).2, Saf.clsFrom, decide_eq_true hin]; simp
          | false => rw [HF0.out rfl, Saf.clsFrom, decide_eq_true hin]; simp)
        clear hin HON HF1 HF0
        go_wp2_with (at_mapUpdate; refine wpList_mapUpdate_own _ rfl _ _ _ 64 rfl 9 3 (Maps.string_keyed Tryd.underlying9) Tryd.underlying64 _ w.heap.size n _ rfl HMAP.out (by unfold maxLen; omega) _ _ _ rfl rfl hkey _ [] (plainElem_int Tryd.underlying3 (by decide)) ?_)
        intro w2 hmap1 hg1
        have HB2 : Hid (Below w.heap.size w w2) := hide (HB.out.grown hg1 HB.out.size (fun j hj => by injection hj with hj; omega))
        obtain ⟨c2, hlk2, hat2, -⟩ := hmap1.lookup_int (Maps.string_keyed Tryd.underlying9) Tryd.underlying64 Tryd.underlying3 (HZ3.out _) hkey
        rw [Maps.atKey_put_same HD.out (by simp [WideAt.IsKeyLit]) _ _] at hat2
        have hc2 := lit_int hat2
        subst hc2
        clear hmap1 hg1 hat2 hlk hkey HMAP HB
        go_wp2_with fail
        go_ret
        rw [HN.out]
        exact ⟨rfl, HB2.out⟩
      · rw [if_neg hin] at hc
        subst hc
        go_wp2_with (at_mapUpdate; refine wpList_mapUpdate_own _ rfl _ _ _ 64 rfl 9 3 (Maps.string_keyed Tryd.underlying9) Tryd.underlying64 _ w.heap.size n _ rfl HMAP.out (by unfold maxLen; omega) _ _ _ rfl rfl hkey _ [] (plainElem_int Tryd.underlying3 (by decide)) ?_)
        intro w2 hmap1 hg1
        have HB2 : Hid (Below w.heap.size w w2) := hide (HB.out.grown hg1 HB.out.size (fun j hj => by injection hj with hj; omega))
        obtain ⟨c2, hlk2, hat2, -⟩ := hmap1.lookup_int (Maps.string_keyed Tryd.underlying9) Tryd.underlying64 Tryd.underlying3 (HZ3.out _) hkey
        rw [Maps.atKey_put_same HD.out (by simp [WideAt.IsKeyLit]) _ _] at hat2
        have hc2 := lit_int hat2
        subst hc2
        have HM2 := hide hmap1
        have CA := hide (CA.out w2 HB2.out)
        clear hmap1 hg1 hat2 hlk hkey HMAP HB
        by_cases hcl : bl A ∈ cs.map bl
        · rw [decide_eq_true hcl] at CA
          have HNX : Hid (MetI w w.heap.size R (cs.map bl) (bl B) f (n + 1) (seen ++ [bl A]) w2) := hide ⟨HB2.out, ⟨_, HM2.out, HD.out.put _ _, HOK.out.put HD.out (bl A)⟩, fun h => by
            rw [HON.out, (HF1.out h).2, Saf.clsFrom, decide_eq_true hcl, decide_eq_false hin]
            rfl, fun h => by
            rw [HON.out, HF0.out h, Saf.clsFrom, decide_eq_true hcl, decide_eq_false hin, Saf.clsFrom]
            rfl⟩
          have HSZ : Hid ((f = true → B.size + 1 ≤ gk - 1) ∧ (B.size ≤ 90000)) := hide ⟨fun h => by have := (HF1.out h).1; omega, by omega⟩
          clear hcl hin HON HF1 HF0 HM2
          go_wp2_with fail
          refine CA.out.mono ?_
          rintro e w3 ⟨rfl, rfl⟩
          clear CA
          go_wp2_with fail
          go_roundg (gk - 1)
          case measure => omega
          case rel => exact ⟨B, f, n + 1, seen ++ [bl A], rfl, rfl, by omega, HSZ.out.2, HSZ.out.1, HNX⟩
        · rw [decide_eq_false hcl] at CA
          have HN : Hid (R = false) := hide (by
            rw [HON.out]
            cases f with
            | true => rw [(HF1.out rfl).2, Saf.clsFrom, decide_eq_false hcl]; simp
            | false => rw [HF0.out rfl, Saf.clsFrom, decide_eq_false hcl]; simp)
          clear hcl hin HON HF1 HF0 HM2
          go_wp2_with fail
          refine CA.out.mono ?_
          rintro e w3 ⟨rfl, rfl⟩
          clear CA
          go_wp2_with fail
          go_ret
          rw [HN.out]
          exact ⟨rfl, HB2.out⟩
end Go.Proofs.YtbcadeikdmlpoaaDoor

namespace Go.Proofs.YtbcadeikdmlpoaaDoor
open Go.RowKit
open Utf1 Pol8

set_option maxRecDepth 100000 in
set_option maxHeartbeats 16000000 in
theorem pvalue_any (v1 v2 v3 v4 v5 : Value) (p : Pol) (l1 l2 l3 l4 l5 : List ByteArray) (e n v : ByteArray) (w : World) (hv : PolV w v1 v2 v3 v4 v5 p l1 l2 l3 l4 l5) (hf : fits p) (he : e.size ≤ 100000) (hn : n.size ≤ 100000) (hz : v.size ≤ 90000) :
    Calls Tryd.prog 9 #[pval p v1 v2 v3 v4 v5, .string e, .agg #[.string n, .string v]] w fun r w' => r = .returned (.bool (Saf.valueB p (bl e) (bl n) (bl v))) ∧ Below w.heap.size w w' := by
  obtain ⟨R, hR⟩ : ∃ R, R = Saf.valueB p (bl e) (bl n) (bl v) := ⟨_, rfl⟩
  rw [← hR]
  unfold Saf.valueB at hR
  have HR := hide hR
  clear hR
  obtain ⟨f1, -⟩ := fits_of hf (by simp) hv.e1
  obtain ⟨f3, -⟩ := fits_of hf (by simp) hv.e3
  obtain ⟨f4, -⟩ := fits_of hf (by simp) hv.e4
  obtain ⟨f5, -⟩ := fits_of hf (by simp) hv.e5
  have HV := hide hv
  obtain ⟨o1, k1, rfl, -, -⟩ := hv.s1
  obtain ⟨o2, k2, rfl, -, -⟩ := hv.s2
  obtain ⟨o3, k3, rfl, -, -⟩ := hv.s3
  obtain ⟨o4, k4, rfl, -, -⟩ := hv.s4
  obtain ⟨o5, k5, rfl, -, -⟩ := hv.s5
  clear hv
  obtain ⟨w1, hw1⟩ : ∃ w1, w1 = (w.alloc (.cells #[.int .i64 p.ep, .slice o1 (List.length l1) k1, .slice o2 (List.length l2) k2, .slice o3 (List.length l3) k3, .slice o4 (List.length l4) k4, .slice o5 (List.length l5) k5, .int .i64 p.dp, .int .i64 p.nd, .int .i64 p.bt] 24)).alloc (.cells #[.string n, .string v] 26) := ⟨_, rfl⟩
  have H1 : Hid (BoxV w #[.int .i64 p.ep, .slice o1 (List.length l1) k1, .slice o2 (List.length l2) k2, .slice o3 (List.length l3) k3, .slice o4 (List.length l4) k4, .slice o5 (List.length l5) k5, .int .i64 p.dp, .int .i64 p.nd, .int .i64 p.bt] #[.string n, .string v] w1) := hide (by rw [hw1]; exact BoxV.new _ _ _)
  have SK : Hid (∀ wx, BoxV w #[.int .i64 p.ep, .slice o1 (List.length l1) k1, .slice o2 (List.length l2) k2, .slice o3 (List.length l3) k3, .slice o4 (List.length l4) k4, .slice o5 (List.length l5) k5, .int .i64 p.dp, .int .i64 p.nd, .int .i64 p.bt] #[.string n, .string v] wx → wx.cell? ⟨w.heap.size, 0, none⟩ = some (.int .i64 p.ep) ∧ wx.cell? ⟨w.heap.size, 1, none⟩ = some (.slice o1 (List.length l1) k1) ∧ wx.cell? ⟨w.heap.size, 2, none⟩ = some (.slice o2 (List.length l2) k2) ∧ wx.cell? ⟨w.heap.size, 3, none⟩ = some (.slice o3 (List.length l3) k3) ∧ wx.cell? ⟨w.heap.size, 4, none⟩ = some (.slice o4 (List.length l4) k4) ∧ wx.cell? ⟨w.heap.size, 5, none⟩ = some (.slice o5 (List.length l5) k5) ∧ wx.cell? ⟨w.heap.size, 6, none⟩ = some (.int .i64 p.dp) ∧ wx.cell? ⟨w.heap.size, 7, none⟩ = some (.int .i64 p.nd) ∧ wx.cell? ⟨w.heap.size, 8, none⟩ = some (.int .i64 p.bt) ∧ wx.cell? ⟨w.heap.size + 1, 0, none⟩ = some (.string n) ∧ wx.cell? ⟨w.heap.size + 1, 1, none⟩ = some (.string v) ∧ Hid (BoxV w #[.int .i64 p.ep, .slice o1 (List.length l1) k1, .slice o2 (List.length l2) k2, .slice o3 (List.length l3) k3, .slice o4 (List.length l4) k4, .slice o5 (List.length l5) k5, .int .i64 p.dp, .int .i64 p.nd, .int .i64 p.bt] #[.string n, .string v] wx)) := hide (fun wx h => ⟨h.a 0 _ rfl, h.a 1 _ rfl, h.a 2 _ rfl, h.a 3 _ rfl, h.a 4 _ rfl, h.a 5 _ rfl, h.a 6 _ rfl, h.a 7 _ rfl, h.a 8 _ rfl, h.b 0 _ rfl, h.b 1 _ rfl, hide h⟩)
  have SB : Hid (∀ wx, (wx.cell? ⟨w.heap.size, 0, none⟩ = some (.int .i64 p.ep) ∧ wx.cell? ⟨w.heap.size, 1, none⟩ = some (.slice o1 (List.length l1) k1) ∧ wx.cell? ⟨w.heap.size, 2, none⟩ = some (.slice o2 (List.length l2) k2) ∧ wx.cell? ⟨w.heap.size, 3, none⟩ = some (.slice o3 (List.length l3) k3) ∧ wx.cell? ⟨w.heap.size, 4, none⟩ = some (.slice o4 (List.length l4) k4) ∧ wx.cell? ⟨w.heap.size, 5, none⟩ = some (.slice o5 (List.length l5) k5) ∧ wx.cell? ⟨w.heap.size, 6, none⟩ = some (.int .i64 p.dp) ∧ wx.cell? ⟨w.heap.size, 7, none⟩ = some (.int .i64 p.nd) ∧ wx.cell? ⟨w.heap.size, 8, none⟩ = some (.int .i64 p.bt) ∧ wx.cell? ⟨w.heap.size + 1, 0, none⟩ = some (.string n) ∧ wx.cell? ⟨w.heap.size + 1, 1, none⟩ = some (.string v) ∧ Hid (BoxV w #[.int .i64 p.ep, .slice o1 (List.length l1) k1, .slice o2 (List.length l2) k2, .slice o3 (List.length l3) k3, .slice o4 (List.length l4) k4, .slice o5 (List.length l5) k5, .int .i64 p.dp, .int .i64 p.nd, .int .i64 p.bt] #[.string n, .string v] wx)) → BoxV w #[.int .i64 p.ep, .slice o1 (List.length l1) k1, .slice o2 (List.length l2) k2, .slice o3 (List.length l3) k3, .slice o4 (List.length l4) k4, .slice o5 (List.length l5) k5, .int .i64 p.dp, .int .i64 p.nd, .int .i64 p.bt] #[.string n, .string v] wx) := hide (fun wx h => h.2.2.2.2.2.2.2.2.2.2.2.out)
  have C1 : Hid (∀ wx, BoxV w #[.int .i64 p.ep, .slice o1 (List.length l1) k1, .slice o2 (List.length l2) k2, .slice o3 (List.length l3) k3, .slice o4 (List.length l4) k4, .slice o5 (List.length l5) k5, .int .i64 p.dp, .int .i64 p.nd, .int .i64 p.bt] #[.string n, .string v] wx → Calls Tryd.prog 17 #[.agg #[.int .i64 p.ep, .slice o1 (List.length l1) k1, .slice o2 (List.length l2) k2, .slice o3 (List.length l3) k3, .slice o4 (List.length l4) k4, .slice o5 (List.length l5) k5, .int .i64 p.dp, .int .i64 p.nd, .int .i64 p.bt], .string e] wx fun r w' => r = .returned (.bool (decide (bl e ∈ p.el))) ∧ BoxV w #[.int .i64 p.ep, .slice o1 (List.length l1) k1, .slice o2 (List.length l2) k2, .slice o3 (List.length l3) k3, .slice o4 (List.length l4) k4, .slice o5 (List.length l5) k5, .int .i64 p.dp, .int .i64 p.nd, .int .i64 p.bt] #[.string n, .string v] w') := hide (fun wx h => (pelemC_any _ _ _ _ _ p _ _ _ _ _ e wx (HV.out.below h.2.2) hf he).mono fun _ w' ⟨h1, h2⟩ => ⟨h1, h.keep h2⟩)
  have C2 : Hid (∀ wx, BoxV w #[.int .i64 p.ep, .slice o1 (List.length l1) k1, .slice o2 (List.length l2) k2, .slice o3 (List.length l3) k3, .slice o4 (List.length l4) k4, .slice o5 (List.length l5) k5, .int .i64 p.dp, .int .i64 p.nd, .int .i64 p.bt] #[.string n, .string v] wx → Calls Tryd.prog 18 #[.string v, .slice o5 l5.length k5] wx fun r w' => r = .returned (.string ⟨(Sty.filt p.pr (bl v)).toArray⟩) ∧ BoxV w #[.int .i64 p.ep, .slice o1 (List.length l1) k1, .slice o2 (List.length l2) k2, .slice o3 (List.length l3) k3, .slice o4 (List.length l4) k4, .slice o5 (List.length l5) k5, .int .i64 p.dp, .int .i64 p.nd, .int .i64 p.bt] #[.string n, .string v] w') := hide (fun wx h => by
    have := Sy.filter_any v (.slice o5 l5.length k5) l5 hz f5 wx ((HV.out.below h.2.2).s5)
    rw [HV.out.e5] at this
    exact this.mono fun _ w' ⟨h1, h2⟩ => ⟨h1, h.keep h2⟩)
  have C3 : Hid (∀ wx, BoxV w #[.int .i64 p.ep, .slice o1 (List.length l1) k1, .slice o2 (List.length l2) k2, .slice o3 (List.length l3) k3, .slice o4 (List.length l4) k4, .slice o5 (List.length l5) k5, .int .i64 p.dp, .int .i64 p.nd, .int .i64 p.bt] #[.string n, .string v] wx → Calls Tryd.prog 19 #[.agg #[.int .i64 p.ep, .slice o1 (List.length l1) k1, .slice o2 (List.length l2) k2, .slice o3 (List.length l3) k3, .slice o4 (List.length l4) k4, .slice o5 (List.length l5) k5, .int .i64 p.dp, .int .i64 p.nd, .int .i64 p.bt], .string e, .string n] wx fun r w' => r = .returned (.bool (attrB p (bl e) (bl n))) ∧ BoxV w #[.int .i64 p.ep, .slice o1 (List.length l1) k1, .slice o2 (List.length l2) k2, .slice o3 (List.length l3) k3, .slice o4 (List.length l4) k4, .slice o5 (List.length l5) k5, .int .i64 p.dp, .int .i64 p.nd, .int .i64 p.bt] #[.string n, .string v] w') := hide (fun wx h => (pattrB_any _ _ _ _ _ p _ _ _ _ _ e n wx (HV.out.below h.2.2) hf he hn).mono fun _ w' ⟨h1, h2⟩ => ⟨h1, h.keep h2⟩)
  have C4 : Hid (∀ wx, BoxV w #[.int .i64 p.ep, .slice o1 (List.length l1) k1, .slice o2 (List.length l2) k2, .slice o3 (List.length l3) k3, .slice o4 (List.length l4) k4, .slice o5 (List.length l5) k5, .int .i64 p.dp, .int .i64 p.nd, .int .i64 p.bt] #[.string n, .string v] wx → Calls Tryd.prog 20 #[.string v, .slice o4 l4.length k4] wx fun r w' => r = .returned (.bool (decide (bl v ≠ []) && Saf.classesB p.cl (bl v))) ∧ BoxV w #[.int .i64 p.ep, .slice o1 (List.length l1) k1, .slice o2 (List.length l2) k2, .slice o3 (List.length l3) k3, .slice o4 (List.length l4) k4, .slice o5 (List.length l5) k5, .int .i64 p.dp, .int .i64 p.nd, .int .i64 p.bt] #[.string n, .string v] w') := hide (fun wx h => by
    have := pclasses_any v (.slice o4 l4.length k4) l4 hz f4 wx ((HV.out.below h.2.2).s4)
    rw [HV.out.e4] at this
    exact this.mono fun _ w' ⟨h1, h2⟩ => ⟨h1, h.keep h2⟩)
  have C5 : Hid (∀ wx, BoxV w #[.int .i64 p.ep, .slice o1 (List.length l1) k1, .slice o2 (List.length l2) k2, .slice o3 (List.length l3) k3, .slice o4 (List.length l4) k4, .slice o5 (List.length l5) k5, .int .i64 p.dp, .int .i64 p.nd, .int .i64 p.bt] #[.string n, .string v] wx → Calls Tryd.prog 11 #[.string n] wx fun r w' => r = .returned (.bool (Saf.placeB (bl n))) ∧ BoxV w #[.int .i64 p.ep, .slice o1 (List.length l1) k1, .slice o2 (List.length l2) k2, .slice o3 (List.length l3) k3, .slice o4 (List.length l4) k4, .slice o5 (List.length l5) k5, .int .i64 p.dp, .int .i64 p.nd, .int .i64 p.bt] #[.string n, .string v] w') := hide (fun wx h => (pplace_any n wx).mono fun _ w' ⟨h1, h2⟩ => ⟨h1, h.keep h2⟩)
  have C6 : Hid (∀ wx, BoxV w #[.int .i64 p.ep, .slice o1 (List.length l1) k1, .slice o2 (List.length l2) k2, .slice o3 (List.length l3) k3, .slice o4 (List.length l4) k4, .slice o5 (List.length l5) k5, .int .i64 p.dp, .int .i64 p.nd, .int .i64 p.bt] #[.string n, .string v] wx → Calls Tryd.prog 16 #[.string v, .slice o3 l3.length k3] wx fun r w' => r = .returned (.bool (allowed (bl v) p.sc)) ∧ BoxV w #[.int .i64 p.ep, .slice o1 (List.length l1) k1, .slice o2 (List.length l2) k2, .slice o3 (List.length l3) k3, .slice o4 (List.length l4) k4, .slice o5 (List.length l5) k5, .int .i64 p.dp, .int .i64 p.nd, .int .i64 p.bt] #[.string n, .string v] w') := hide (fun wx h => by
    have := Ul.allowed_any v (.slice o3 l3.length k3) l3 wx (by omega) f3 ((HV.out.below h.2.2).s3)
    rw [HV.out.e3] at this
    exact this.mono fun _ w' ⟨h1, h2⟩ => ⟨h1, h.keep h2⟩)
  clear HV hf f1 f3 f4 f5
  generalize decide (bl e ∈ p.el) = r1 at C1 HR
  generalize attrB p (bl e) (bl n) = r3 at C3 HR
  generalize (decide (bl v ≠ []) && Saf.classesB p.cl (bl v)) = r4 at C4 HR
  generalize Saf.placeB (bl n) = r5 at C5 HR
  generalize allowed (bl v) p.sc = r6 at C6 HR
  obtain ⟨F, hF⟩ : ∃ F : ByteArray, F = ⟨(Sty.filt p.pr (bl v)).toArray⟩ := ⟨_, rfl⟩
  have hFb : bl F = Sty.filt p.pr (bl v) := by rw [hF]
  rw [← hF] at C2
  rw [← hFb] at HR
  clear hF hFb
  have g1 := eq_lit n [114, 101, 108]
  have g2 := eq_lit n [115, 116, 121, 108, 101]
  have g3 := eq_lit n [99, 108, 97, 115, 115]
  have g4 := eq_lit e [97]
  have g5 := eq_lit v [110, 111, 102, 111, 108, 108, 111, 119, 32, 110, 111, 111, 112, 101, 110, 101, 114]
  have g6 := ne_empty v
  have g6' := empty_bl v
  have g7 := eq_two F v
  obtain ⟨y0, y1, y2, y3, y4, y5, y6, y7, y8, z0, z1, -⟩ := SK.out w1 H1.out
  go_enter Tryd.func9, Tryd.ntmps9
  go_upto_region 1 with fail
  rw [← hw1]
  clear hw1
  go_wp2_with fail
  refine (C1.out _ H1.out).mono ?_
  rintro r w2 ⟨rfl, h2⟩
  have H2 := hide h2
  clear h2 C1 H1 y0 y1 y2 y3 y4 y5 y6 y7 y8 z0 z1
  obtain ⟨y0, y1, y2, y3, y4, y5, y6, y7, y8, z0, z1, -⟩ := SK.out w2 H2.out
  cases r1 with
  | false =>
    have HN : Hid (R = false) := hide (by rw [HR.out]; rfl)
    clear HR
    go_wp2_with fail
    go_ret
    rw [HN.out]
    exact ⟨rfl, H2.out.2.2⟩
  | true =>
    rw [Bool.true_and] at HR
    by_cases hrel : bl n = [114, 101, 108]
    · rw [decide_eq_true hrel] at g1
      have HN : Hid (R = (decide (bl e = [97]) && decide (bl v = [110, 111, 102, 111, 108, 108, 111, 119, 32, 110, 111, 111, 112, 101, 110, 101, 114]))) := hide (by rw [HR.out, if_pos (show bl n = Saf.relN from hrel)]; rfl)
      clear HR hrel
      generalize decide (bl e = [97]) = t1 at g4 HN
      generalize decide (bl v = [110, 111, 102, 111, 108, 108, 111, 119, 32, 110, 111, 111, 112, 101, 110, 101, 114]) = t2 at g5 HN
      cases t1 with
      | false =>
        go_wp2_with fail
        go_ret
        rw [HN.out]
        exact ⟨rfl, H2.out.2.2⟩
      | true =>
        go_wp2_with fail
        go_ret
        rw [HN.out]
        exact ⟨ret_bool (by simp), H2.out.2.2⟩
    · rw [decide_eq_false hrel] at g1
      have HR2 := hide (HR.out.trans (if_neg hrel))
      clear HR hrel g4 g5
      by_cases hsty : bl n = [115, 116, 121, 108, 101]
      · rw [decide_eq_true hsty] at g2
        have HN : Hid (R = (decide (bl v ≠ []) && decide (bl F = bl v))) := hide (by rw [HR2.out, if_pos (show bl n = Saf.styN from hsty)])
        clear HR2 hsty
        by_cases hve : bl v = []
        · rw [decide_eq_false (fun h => h hve)] at g6 HN
          rw [decide_eq_true hve] at g6'
          go_wp2_with fail
          clear y0 y1 y2 y3 y4 y5 y6 y7 y8 z0 z1
          refine wp_region_held_drew (S := (fun wx => wx.cell? ⟨w.heap.size, 0, none⟩ = some (.int .i64 p.ep) ∧ wx.cell? ⟨w.heap.size, 1, none⟩ = some (.slice o1 (List.length l1) k1) ∧ wx.cell? ⟨w.heap.size, 2, none⟩ = some (.slice o2 (List.length l2) k2) ∧ wx.cell? ⟨w.heap.size, 3, none⟩ = some (.slice o3 (List.length l3) k3) ∧ wx.cell? ⟨w.heap.size, 4, none⟩ = some (.slice o4 (List.length l4) k4) ∧ wx.cell? ⟨w.heap.size, 5, none⟩ = some (.slice o5 (List.length l5) k5) ∧ wx.cell? ⟨w.heap.size, 6, none⟩ = some (.int .i64 p.dp) ∧ wx.cell? ⟨w.heap.size, 7, none⟩ = some (.int .i64 p.nd) ∧ wx.cell? ⟨w.heap.size, 8, none⟩ = some (.int .i64 p.bt) ∧ wx.cell? ⟨w.heap.size + 1, 0, none⟩ = some (.string n) ∧ wx.cell? ⟨w.heap.size + 1, 1, none⟩ = some (.string v) ∧ Hid (BoxV w #[.int .i64 p.ep, .slice o1 (List.length l1) k1, .slice o2 (List.length l2) k2, .slice o3 (List.length l3) k3, .slice o4 (List.length l4) k4, .slice o5 (List.length l5) k5, .int .i64 p.dp, .int .i64 p.nd, .int .i64 p.bt] #[.string n, .string v] wx))) (by kernel_rfl) (SK.out _ (H2.out.keep ((Below.refl _ _).drew))) (fun hHeld => ?_)
          refine wpAnyH_at (i := 0) (v := ?ve0) (a1 := ?xe0) rfl (by kernel_rfl) (by kernel_rfl) (by kernel_rfl) (fun _ _ _ h => h) (Or.inl ⟨by rfl, ?ye0⟩) (by assumption) ?he0 ?ze0
          case ye0 => (intro w hSw; (try dsimp only at hSw); go_simp; try (with_reducible rfl))
          case he0 => (go_simp; exact rfl)
          case ze0 =>
          refine wpAnyH_at (i := 1) (v := ?ve1) (a1 := ?xe1) rfl (by kernel_rfl) (by kernel_rfl) (by kernel_rfl) (fun _ _ _ h => h) (Or.inl ⟨by rfl, ?ye1⟩) (by assumption) ?he1 ?ze1
          case ye1 => (intro w hSw; (try dsimp only at hSw); go_simp; try (with_reducible rfl))
          case he1 => (go_simp; exact rfl)
          case ze1 =>
          refine wpAnyH_at (i := 2) (v := ?ve2) (a1 := ?xe2) rfl (by kernel_rfl) (by kernel_rfl) (by kernel_rfl) (fun _ _ _ h => h) (Or.inl ⟨by rfl, ?ye2⟩) (by assumption) ?he2 ?ze2
          case ye2 => (intro w hSw; (try dsimp only at hSw); go_simp; try (with_reducible rfl))
          case he2 => (go_simp; exact rfl)
          case ze2 =>
          refine wpAnyH_at (i := 3) (v := ?ve3) (a1 := ?xe3) rfl (by kernel_rfl) (by kernel_rfl) (by kernel_rfl) (fun _ _ _ h => h) (Or.inl ⟨by rfl, ?ye3⟩) (by assumption) ?he3 ?ze3
          case ye3 => (intro w hSw; (try dsimp only at hSw); go_simp; try (with_reducible rfl))
          case he3 => (go_simp; exact rfl)
          case ze3 =>
          refine wpAnyH_at (i := 4) (v := undef) (a1 := ?xe4) rfl (by kernel_rfl) (by kernel_rfl) (by kernel_rfl) (fun _ _ _ h => h) (Or.inr ⟨by rfl, rfl⟩) (by assumption) ?he4 ?ze4
          case he4 => (go_simp; exact rfl)
          case ze4 =>
          refine wpAnyH_at (i := 5) (v := undef) (a1 := ?xe5) rfl (by kernel_rfl) (by kernel_rfl) (by kernel_rfl) (fun _ _ _ h => h) (Or.inr ⟨by rfl, rfl⟩) (by assumption) ?he5 ?ze5
          case he5 => (go_simp; exact rfl)
          case ze5 =>
          refine wpAnyH_at (i := 6) (v := undef) (a1 := ?xe6) rfl (by kernel_rfl) (by kernel_rfl) (by kernel_rfl) (fun _ _ _ h => h) (Or.inr ⟨by rfl, rfl⟩) (by assumption) ?he6 ?ze6
          case he6 => (go_simp; exact rfl)
          case ze6 =>
          refine wpAnyH_at (i := 7) (v := undef) (a1 := ?xe7) rfl (by kernel_rfl) (by kernel_rfl) (by kernel_rfl) (fun _ _ _ h => h) (Or.inr ⟨by rfl, rfl⟩) (by assumption) ?he7 ?ze7
          case he7 => (go_simp; exact rfl)
          case ze7 =>
          refine wpAnyH_at (i := 8) (v := undef) (a1 := ?xe8) rfl (by kernel_rfl) (by kernel_rfl) (by kernel_rfl) (fun _ _ _ h => h) (Or.inr ⟨by rfl, rfl⟩) (by assumption) ?he8 ?ze8
          case he8 => (go_simp; exact rfl)
          case ze8 =>
          refine wpAnyH_at (i := 9) (v := undef) (a1 := ?xe9) rfl (by kernel_rfl) (by kernel_rfl) (by kernel_rfl) (fun _ _ _ h => h) (Or.inr ⟨by rfl, rfl⟩) (by assumption) ?he9 ?ze9
          case he9 => (go_simp; exact rfl)
          case ze9 =>
          refine wpAnyH_at (i := 10) (v := undef) (a1 := ?xe10) rfl (by kernel_rfl) (by kernel_rfl) (by kernel_rfl) (fun _ _ _ h => h) (Or.inr ⟨by rfl, rfl⟩) (by assumption) ?he10 ?ze10
          case he10 => (go_simp; exact rfl)
          case ze10 =>
          refine wpAnyH_at (i := 11) (v := undef) (a1 := ?xe11) rfl (by kernel_rfl) (by kernel_rfl) (by kernel_rfl) (fun _ _ _ h => h) (Or.inr ⟨by rfl, rfl⟩) (by assumption) ?he11 ?ze11
          case he11 => (go_simp; exact rfl)
          case ze11 =>
          refine wpAnyH_at (i := 12) (v := ?ve12) (a1 := ?xe12) rfl (by kernel_rfl) (by kernel_rfl) (by kernel_rfl) (fun _ _ _ h => h) (Or.inl ⟨by rfl, ?ye12⟩) (by assumption) ?he12 ?ze12
          case ye12 => (intro w hSw; (try dsimp only at hSw); go_simp; try (with_reducible rfl))
          case he12 => (go_simp; exact rfl)
          case ze12 =>
          refine wpAnyH_at (i := 13) (v := ?ve13) (a1 := ?xe13) rfl (by kernel_rfl) (by kernel_rfl) (by kernel_rfl) (fun _ _ _ h => h) (Or.inl ⟨by rfl, ?ye13⟩) (by assumption) ?he13 ?ze13
          case ye13 => (intro w hSw; (try dsimp only at hSw); go_simp; try (with_reducible rfl))
          case he13 => (go_simp; exact rfl)
          case ze13 =>
          refine wpAnyH_done (by kernel_rfl) ?_ _
          have H7 := hide (SB.out _ (by assumption))
          go_wp2_with fail
          go_ret
          rw [HN.out]
          exact ⟨rfl, H7.out.2.2⟩
        · rw [decide_eq_true hve] at g6 HN
          rw [decide_eq_false hve] at g6'
          generalize decide (bl F = bl v) = t2 at g7 HN
          go_wp2_with fail
          clear y0 y1 y2 y3 y4 y5 y6 y7 y8 z0 z1
          refine wp_region_held_drew (S := (fun wx => wx.cell? ⟨w.heap.size, 0, none⟩ = some (.int .i64 p.ep) ∧ wx.cell? ⟨w.heap.size, 1, none⟩ = some (.slice o1 (List.length l1) k1) ∧ wx.cell? ⟨w.heap.size, 2, none⟩ = some (.slice o2 (List.length l2) k2) ∧ wx.cell? ⟨w.heap.size, 3, none⟩ = some (.slice o3 (List.length l3) k3) ∧ wx.cell? ⟨w.heap.size, 4, none⟩ = some (.slice o4 (List.length l4) k4) ∧ wx.cell? ⟨w.heap.size, 5, none⟩ = some (.slice o5 (List.length l5) k5) ∧ wx.cell? ⟨w.heap.size, 6, none⟩ = some (.int .i64 p.dp) ∧ wx.cell? ⟨w.heap.size, 7, none⟩ = some (.int .i64 p.nd) ∧ wx.cell? ⟨w.heap.size, 8, none⟩ = some (.int .i64 p.bt) ∧ wx.cell? ⟨w.heap.size + 1, 0, none⟩ = some (.string n) ∧ wx.cell? ⟨w.heap.size + 1, 1, none⟩ = some (.string v) ∧ Hid (BoxV w #[.int .i64 p.ep, .slice o1 (List.length l1) k1, .slice o2 (List.length l2) k2, .slice o3 (List.length l3) k3, .slice o4 (List.length l4) k4, .slice o5 (List.length l5) k5, .int .i64 p.dp, .int .i64 p.nd, .int .i64 p.bt] #[.string n, .string v] wx))) (by kernel_rfl) (SK.out _ (H2.out.keep ((Below.refl _ _).drew))) (fun hHeld => ?_)
          refine wpAnyH_at (i := 0) (v := ?vf0) (a1 := ?xf0) rfl (by kernel_rfl) (by kernel_rfl) (by kernel_rfl) (fun _ _ _ h => h) (Or.inl ⟨by rfl, ?yf0⟩) (by assumption) ?hf0 ?zf0
          case yf0 => (intro w hSw; (try dsimp only at hSw); go_simp; try (with_reducible rfl))
          case hf0 => (go_simp; exact rfl)
          case zf0 =>
          refine wpAnyH_at (i := 1) (v := ?vf1) (a1 := ?xf1) rfl (by kernel_rfl) (by kernel_rfl) (by kernel_rfl) (fun _ _ _ h => h) (Or.inl ⟨by rfl, ?yf1⟩) (by assumption) ?hf1 ?zf1
          case yf1 => (intro w hSw; (try dsimp only at hSw); go_simp; try (with_reducible rfl))
          case hf1 => (go_simp; exact rfl)
          case zf1 =>
          refine wpAnyH_at (i := 2) (v := ?vf2) (a1 := ?xf2) rfl (by kernel_rfl) (by kernel_rfl) (by kernel_rfl) (fun _ _ _ h => h) (Or.inl ⟨by rfl, ?yf2⟩) (by assumption) ?hf2 ?zf2
          case yf2 => (intro w hSw; (try dsimp only at hSw); go_simp; try (with_reducible rfl))
          case hf2 => (go_simp; exact rfl)
          case zf2 =>
          refine wpAnyH_at (i := 3) (v := ?vf3) (a1 := ?xf3) rfl (by kernel_rfl) (by kernel_rfl) (by kernel_rfl) (fun _ _ _ h => h) (Or.inl ⟨by rfl, ?yf3⟩) (by assumption) ?hf3 ?zf3
          case yf3 => (intro w hSw; (try dsimp only at hSw); go_simp; try (with_reducible rfl))
          case hf3 => (go_simp; exact rfl)
          case zf3 =>
          refine wpAnyH_at (i := 4) (v := ?vf4) (a1 := ?xf4) rfl (by kernel_rfl) (by kernel_rfl) (by kernel_rfl) (fun _ _ _ h => h) (Or.inl ⟨by rfl, ?yf4⟩) (by assumption) ?hf4 ?zf4
          case yf4 => (intro w hSw; (try dsimp only at hSw); go_simp; try (with_reducible rfl))
          case hf4 => (go_simp; exact rfl)
          case zf4 =>
          refine wpAnyH_at (i := 5) (v := ?vf5) (a1 := ?xf5) rfl (by kernel_rfl) (by kernel_rfl) (by kernel_rfl) (fun _ _ _ h => h) (Or.inl ⟨by rfl, ?yf5⟩) (by assumption) ?hf5 ?zf5
          case yf5 => (intro w hSw; (try dsimp only at hSw); go_simp; try (with_reducible rfl))
          case hf5 => (go_simp; exact rfl)
          case zf5 =>
          refine wpAnyH_at (i := 6) (v := ?vf6) (a1 := ?xf6) rfl (by kernel_rfl) (by kernel_rfl) (by kernel_rfl) (fun _ _ _ h => h) (Or.inl ⟨by rfl, ?yf6⟩) (by assumption) ?hf6 ?zf6
          case yf6 => (intro w hSw; (try dsimp only at hSw); go_simp; try (with_reducible rfl))
          case hf6 => (go_simp; exact rfl)
          case zf6 =>
          refine wpAnyH_at (i := 7) (v := ?vf7) (a1 := ?xf7) rfl (by kernel_rfl) (by kernel_rfl) (by kernel_rfl) (fun _ _ _ h => h) (Or.inl ⟨by rfl, ?yf7⟩) (by assumption) ?hf7 ?zf7
          case yf7 => (intro w hSw; (try dsimp only at hSw); go_simp; try (with_reducible rfl))
          case hf7 => (go_simp; exact rfl)
          case zf7 =>
          refine wpAnyH_at (i := 9) (v := ?vf9) (a1 := ?xf9) rfl (by kernel_rfl) (by kernel_rfl) (by kernel_rfl) (fun _ _ _ h => h) (Or.inl ⟨by rfl, ?yf9⟩) (by assumption) ?hf9 ?zf9
          case yf9 => (intro w hSw; (try dsimp only at hSw); go_simp; try (with_reducible rfl))
          case hf9 => (go_simp; exact rfl)
          case zf9 =>
          refine wpAnyH_at (i := 10) (v := ?vf10) (a1 := ?xf10) rfl (by kernel_rfl) (by kernel_rfl) (by kernel_rfl) (fun _ _ _ h => h) (Or.inl ⟨by rfl, ?yf10⟩) (by assumption) ?hf10 ?zf10
          case yf10 => (intro w hSw; (try dsimp only at hSw); go_simp; try (with_reducible rfl))
          case hf10 => (go_simp; exact rfl)
          case zf10 =>
          refine wpAnyH_ready (rs := [8]) (by kernel_rfl) (by simp) ?_
          refine AllReadyH.cons rfl (fun K hK => ?_) AllReadyH.nil
          go_simp
          refine (C2.out _ (SB.out _ (by assumption))).mono ?_
          rintro r w6 ⟨rfl, h6⟩
          try go_wp2_with fail
          refine hK.out _ _ (SK.out _ (by assumption)) (fun hHeld2 => ?_)
          clear hK K hHeld
          have hHeld := hHeld2
          clear hHeld2
          refine wpAnyH_at (i := 11) (v := ?vf11) (a1 := ?xf11) rfl (by kernel_rfl) (by kernel_rfl) (by kernel_rfl) (fun _ _ _ h => h) (Or.inl ⟨by rfl, ?yf11⟩) (by assumption) ?hf11 ?zf11
          case yf11 => (intro w hSw; (try dsimp only at hSw); go_simp; try (with_reducible rfl))
          case hf11 => (go_simp; exact rfl)
          case zf11 =>
          refine wpAnyH_at (i := 12) (v := ?vf12) (a1 := ?xf12) rfl (by kernel_rfl) (by kernel_rfl) (by kernel_rfl) (fun _ _ _ h => h) (Or.inl ⟨by rfl, ?yf12⟩) (by assumption) ?hf12 ?zf12
          case yf12 => (intro w hSw; (try dsimp only at hSw); go_simp; try (with_reducible rfl))
          case hf12 => (go_simp; exact rfl)
          case zf12 =>
          refine wpAnyH_at (i := 13) (v := ?vf13) (a1 := ?xf13) rfl (by kernel_rfl) (by kernel_rfl) (by kernel_rfl) (fun _ _ _ h => h) (Or.inl ⟨by rfl, ?yf13⟩) (by assumption) ?hf13 ?zf13
          case yf13 => (intro w hSw; (try dsimp only at hSw); go_simp; try (with_reducible rfl))
          case hf13 => (go_simp; exact rfl)
          case zf13 =>
          refine wpAnyH_done (by kernel_rfl) ?_ _
          have H7 := hide (SB.out _ (by assumption))
          go_wp2_with fail
          go_ret
          rw [HN.out]
          exact ⟨ret_bool (by simp), H7.out.2.2⟩
      · rw [decide_eq_false hsty] at g2
        have HR3 := hide (HR2.out.trans (if_neg hsty))
        clear HR2 hsty C2 g7 g6 g6'
        go_wp2_with fail
        refine (C3.out _ H2.out).mono ?_
        rintro r w3 ⟨rfl, h3⟩
        have H3 := hide h3
        clear h3 C3 H2 y0 y1 y2 y3 y4 y5 y6 y7 y8 z0 z1
        obtain ⟨y0, y1, y2, y3, y4, y5, y6, y7, y8, z0, z1, -⟩ := SK.out w3 H3.out
        cases r3 with
        | false =>
          have HN : Hid (R = false) := hide (by rw [HR3.out]; rfl)
          clear HR3
          go_wp2_with fail
          go_ret
          rw [HN.out]
          exact ⟨rfl, H3.out.2.2⟩
        | true =>
          rw [Bool.true_and] at HR3
          by_cases hcl : bl n = [99, 108, 97, 115, 115]
          · rw [decide_eq_true hcl] at g3
            have HN : Hid (R = r4) := hide (by rw [HR3.out, if_pos (show bl n = Saf.clsN from hcl)])
            clear HR3 hcl
            go_wp2_with fail
            refine (C4.out _ H3.out).mono ?_
            rintro r w4 ⟨rfl, h4⟩
            have H4 := hide h4
            clear h4 C4 H3 y0 y1 y2 y3 y4 y5 y6 y7 y8 z0 z1
            go_wp2_with fail
            go_ret
            rw [HN.out]
            exact ⟨rfl, H4.out.2.2⟩
          · rw [decide_eq_false hcl] at g3
            have HN : Hid (R = (!r5 || r6)) := hide (HR3.out.trans (if_neg hcl))
            clear HR3 hcl
            go_wp2_with fail
            refine (C5.out _ H3.out).mono ?_
            rintro r w4 ⟨rfl, h4⟩
            have H4 := hide h4
            clear h4 C5 H3 y0 y1 y2 y3 y4 y5 y6 y7 y8 z0 z1
            obtain ⟨y0, y1, y2, y3, y4, y5, y6, y7, y8, z0, z1, -⟩ := SK.out w4 H4.out
            cases r5 with
            | false =>
              go_wp2_with fail
              go_ret
              rw [HN.out]
              exact ⟨rfl, H4.out.2.2⟩
            | true =>
              go_wp2_with fail
              refine (C6.out _ H4.out).mono ?_
              rintro r w5 ⟨rfl, h5⟩
              have H5 := hide h5
              clear h5 C6 H4 y0 y1 y2 y3 y4 y5 y6 y7 y8 z0 z1
              go_wp2_with fail
              go_ret
              rw [HN.out]
              exact ⟨ret_bool (by simp), H5.out.2.2⟩
end Go.Proofs.YtbcadeikdmlpoaaDoor

namespace Go.Proofs.YtbcadeikdmlpoaaDoor
open Go.RowKit
open Utf1 Pol8

set_option maxHeartbeats 4000000 in
theorem pfind1_any (B : Nat) (n k x : ByteArray) (w : World) (hb : w.heap[B]? = some (.cells #[.string n] 9 (0, 0))) :
    Calls Tryd.prog 82 #[.agg #[.string k, .string x], .pointer (some ⟨B, 0, none⟩)] w fun e w' => e = .returned (.bool (decide (bl k = bl n))) ∧ Below w.heap.size w w' := by
  obtain ⟨w1, hw1⟩ : ∃ w1, w1 = w.alloc (.cells #[.string k, .string x] 26) := ⟨_, rfl⟩
  have hbel : Below w.heap.size w w1 := by rw [hw1]; exact bel_alloc (Below.refl _ _) _
  have y0 : w1.cell? ⟨w.heap.size, 0, none⟩ = some (.string k) := by rw [hw1]; exact tag_cell (new_block _ _ _) 0 _ rfl
  have yB : w1.cell? ⟨B, 0, none⟩ = some (.string n) := cell_keep (tag_cell hb 0 _ rfl) hbel
  have HB := hide hbel
  have heq := eq_two k n
  generalize decide (bl k = bl n) = r at heq
  clear hbel hb
  go_enter Tryd.func82, Tryd.ntmps82
  go_upto_region 1 with fail
  rw [← hw1]
  clear hw1
  go_wp2_with fail
  go_ret
  exact ⟨rfl, HB.out⟩

/-- A function value that tells of attributes' names. -/
def TellsA (g : Nat) (lb : Array Value) (n : L) (w : World) : Prop :=
  ∀ (W : World) (k x : ByteArray), Below w.heap.size w W → Calls Tryd.prog g (#[.agg #[.string k, .string x]] ++ lb) W fun e w' => e = .returned (.bool (decide (bl k = n))) ∧ Below W.heap.size W w'

set_option maxRecDepth 100000 in
set_option maxHeartbeats 8000000 in
theorem pindex_any (g : Nat) (lb : Array Value) (eg : ∀ args w, (callFunc g args).run Tryd.prog w = .ok (.enter g args) w) (n : L) (ap : Option Addr) (am ac : Nat) (at' : Saf.At) (w : World) (har : Dm.ARow w ap am at') (hp : TellsA g lb n w) :
    Calls Tryd.prog 81 #[.slice ap am ac, .func (.func g) #[] lb] w fun e w' => e = .returned (.int .i64 (Saf.fi n at')) ∧ Below w.heap.size w w' := by
  obtain ⟨R, hR⟩ : ∃ R, R = Saf.fi n at' := ⟨_, rfl⟩
  rw [← hR]
  have HAL := hide hR
  have HAR := hide har
  have HP := hide hp
  have hm := har.1.2
  have HML := hide har.1.1
  clear hR hp har
  go_enter Tryd.func81, Tryd.ntmps81
  go_wp2_with fail
  go_loopg [8] am (fun gg v wx => ∃ i : Nat, i + gg = am ∧ v = .int .i64 (i : Int) ∧ Hid (Below w.heap.size w wx ∧ ∀ (j : Nat) (x : L × L), j < i → at'[j]? = some x → x.1 ≠ n))
  case atStart => exact ⟨0, by omega, rfl, hide ⟨Below.refl _ _, fun j z hj => by omega⟩⟩
  case round =>
    obtain ⟨i, hi, rfl, HU⟩ := hrel
    by_cases hlt : i < am
    · obtain ⟨kv, hkv⟩ : ∃ kv, at'[i]? = some kv := ⟨_, List.getElem?_eq_getElem (by have := HML.out; omega)⟩
      obtain ⟨b, off, rfl, c0, c1, -, -⟩ := HAR.out.2 i kv hkv
      have c0 := cell_keep c0 HU.out.1
      have c1 := cell_keep c1 HU.out.1
      obtain ⟨X1, hX1⟩ : ∃ X : ByteArray, X = ⟨kv.1.toArray⟩ := ⟨_, rfl⟩
      obtain ⟨X2, hX2⟩ : ∃ X : ByteArray, X = ⟨kv.2.toArray⟩ := ⟨_, rfl⟩
      rw [← hX1] at c0
      rw [← hX2] at c1
      have hb1 : bl X1 = kv.1 := by rw [hX1]
      have cS := HP.out wr X1 X2 HU.out.1
      rw [hb1] at cS
      have HKV := hide hkv
      have HB := hide HU.out.1
      clear hX1 hX2 hb1 hkv
      by_cases he : kv.1 = n
      · have HN : Hid (R = (i : Int)) := hide (by rw [HAL.out]; exact Saf.fi_at at' n i kv HKV.out he HU.out.2)
        rw [decide_eq_true he] at cS
        clear he HU HAL HKV
        go_wp2_with (go_at_fn g; refine cS.mono ?_; rintro e W' ⟨rfl, hbc⟩)
        have HB2 := hide (bel2 HB.out (by assumption))
        go_ret
        rw [HN.out]
        exact ⟨rfl, HB2.out⟩
      · have HU2 : Hid (∀ (j : Nat) (x : L × L), j < i + 1 → at'[j]? = some x → x.1 ≠ n) := hide (fun j x hj hx => by
          by_cases e : j = i
          · subst e
            rw [HKV.out] at hx
            cases hx
            exact he
          · exact HU.out.2 j x (by omega) hx)
        rw [decide_eq_false he] at cS
        clear he HU HAL HKV
        go_wp2_with (go_at_fn g; refine cS.mono ?_; rintro e W' ⟨rfl, hbc⟩)
        have HB2 := hide (bel2 HB.out (by assumption))
        go_roundg (gk - 1)
        case measure => omega
        case rel => exact ⟨i + 1, by omega, by first | rfl | simp, hide ⟨HB2.out, HU2.out⟩⟩
    · have HN : Hid (R = -1) := hide (by
        rw [HAL.out]
        refine Saf.fi_none at' n ?_
        unfold Saf.hasB
        rw [List.any_eq_false]
        intro kv hkv
        obtain ⟨j, hj⟩ := List.getElem?_of_mem hkv
        have := HU.out.2 j kv (by have := (List.getElem?_eq_some_iff.1 hj).1; have := HML.out; omega) hj
        rw [decide_eq_false this]
        decide)
      have HB := hide HU.out.1
      clear HAL HU
      go_wp2_with fail
      go_ret
      rw [HN.out]
      exact ⟨rfl, HB.out⟩

theorem ent_find : ∀ args w, (callFunc 82 args).run Tryd.prog w = .ok (.enter 82 args) w := enters_of Tryd.func82 (by kernel_rfl) rfl
set_option maxHeartbeats 4000000 in
theorem pfind_any (ap : Option Addr) (am ac : Nat) (at' : Saf.At) (n : ByteArray) (w : World) (har : Dm.ARow w ap am at') :
    Calls Tryd.prog 61 #[.slice ap am ac, .string n] w fun e w' => e = .returned (.int .i64 (Saf.fi (bl n) at')) ∧ Below w.heap.size w w' := by
  have hmf : ∀ (fn : Fn) (first cap : Array Value) (w : World), (Instr.makeFunc fn first cap).run Tryd.prog w = .ok (.func fn first cap) w := fun _ _ _ _ => rfl
  obtain ⟨w1, hw1⟩ : ∃ w1, w1 = w.alloc (.cells #[.string n] 9) := ⟨_, rfl⟩
  have hbel : Below w.heap.size w w1 := by rw [hw1]; exact bel_alloc (Below.refl _ _) _
  have hblk : w1.heap[w.heap.size]? = some (.cells #[.string n] 9 (0, 0)) := by rw [hw1]; exact new_block _ _ _
  have C1 := hide (pindex_any 82 #[.pointer (some ⟨w.heap.size, 0, none⟩)] ent_find (bl n) ap am ac at' w1 (har.below hbel) (fun W k x hW => pfind1_any w.heap.size n k x W ((hW.block _ (lt_of_block hblk)).trans hblk)))
  have HB := hide hbel
  generalize Saf.fi (bl n) at' = r at C1
  clear hbel hblk har
  go_enter Tryd.func61, Tryd.ntmps61
  go_upto_region 1 with fail
  rw [← hw1]
  clear hw1
  go_wp2_with fail
  refine C1.out.mono ?_
  rintro e w2 ⟨rfl, h2⟩
  have HB2 := hide (bel2 HB.out h2)
  clear h2 C1
  go_wp2_with fail
  go_ret
  exact ⟨rfl, HB2.out⟩
end Go.Proofs.YtbcadeikdmlpoaaDoor

namespace Go.Proofs.YtbcadeikdmlpoaaDoor
open Go.RowKit
open Utf1 Pol8

set_option maxRecDepth 100000 in
set_option maxHeartbeats 8000000 in
theorem prel_any (XN XT : ByteArray) (ap kp : Option Addr) (am ac km kc : Nat) (at' : Saf.At) (w : World) (har : Dm.ARow w ap am at') :
    Calls Tryd.prog 32 #[.agg #[.string XN, .slice ap am ac, .string XT, .slice kp km kc]] w fun e w' => e = .returned (.bool (!decide (bl XN = [97]) || Saf.relB at')) ∧ Below w.heap.size w w' := by
  obtain ⟨R, hR⟩ : ∃ R, R = (!decide (bl XN = [97]) || Saf.relB at') := ⟨_, rfl⟩
  rw [← hR]
  unfold Saf.relB at hR
  have hm := har.1.2
  rw [← har.1.1] at hR
  have HR := hide hR
  have HAR := hide har
  obtain ⟨w1, hw1⟩ : ∃ w1, w1 = w.alloc (.cells #[.string XN, .slice ap am ac, .string XT, .slice kp km kc] 36) := ⟨_, rfl⟩
  have H1 : Hid (BoxN w #[.string XN, .slice ap am ac, .string XT, .slice kp km kc] w1) := hide (by rw [hw1]; exact BoxN.new _ _)
  have CH : Hid (∀ (n : ByteArray) wx, BoxN w #[.string XN, .slice ap am ac, .string XT, .slice kp km kc] wx → Calls Tryd.prog 61 #[.slice ap am ac, .string n] wx fun e w' => e = .returned (.int .i64 (Saf.fi (bl n) at')) ∧ BoxN w #[.string XN, .slice ap am ac, .string XT, .slice kp km kc] w') := hide (fun n wx h => (pfind_any ap am ac at' n wx (HAR.out.below h.2)).mono fun _ w' ⟨h1, h2⟩ => ⟨h1, h.keep h2⟩)
  have HY : Hid (∀ wx, BoxN w #[.string XN, .slice ap am ac, .string XT, .slice kp km kc] wx → wx.cell? ⟨w.heap.size, 0, none⟩ = some (.string XN) ∧ wx.cell? ⟨w.heap.size, 1, none⟩ = some (.slice ap am ac) ∧ wx.cell? ⟨w.heap.size, 2, none⟩ = some (.string XT) ∧ wx.cell? ⟨w.heap.size, 3, none⟩ = some (.slice kp km kc)) := hide (fun wx h => ⟨h.cell 0 _ rfl, h.cell 1 _ rfl, h.cell 2 _ rfl, h.cell 3 _ rfl⟩)
  have K1 := hide (CH.out ⟨#[104, 114, 101, 102]⟩)
  have K2 := hide (CH.out ⟨#[114, 101, 108]⟩)
  rw [show bl (⟨#[104, 114, 101, 102]⟩ : ByteArray) = Saf.href from rfl] at K1
  rw [show bl (⟨#[114, 101, 108]⟩ : ByteArray) = Saf.relN from rfl] at K2
  generalize Saf.fi Saf.href at' = r1 at K1 HR
  generalize Saf.fi Saf.relN at' = r2 at K2 HR
  have heq := eq_lit XN [97]
  have hne : (XN.toList != [97]) = !decide (bl XN = [97]) := by rw [← heq]; rfl
  generalize decide (bl XN = [97]) = ta at heq hne HR
  clear har hR CH
  obtain ⟨y0, y1, y2, y3⟩ := HY.out w1 H1.out
  go_enter Tryd.func32, Tryd.ntmps32
  go_upto_region 1 with fail
  rw [← hw1]
  clear hw1
  cases ta with
  | false =>
    have HN : Hid (R = true) := hide (by rw [HR.out]; rfl)
    clear HR
    go_wp2_with fail
    go_ret
    rw [HN.out]
    exact ⟨rfl, H1.out.2⟩
  | true =>
    have HR : Hid (R = if r1 < 0 then decide (r2 < 0) else decide (r2 = (am : Int) - 1)) := hide (by rw [HR.out]; rfl)
    go_wp2_with fail
    refine (K2.out _ H1.out).mono ?_
    rintro e w2 ⟨rfl, h2⟩
    have H2 := hide h2
    clear h2 K2 H1 y0 y1 y2 y3
    obtain ⟨y0, y1, y2, y3⟩ := HY.out w2 H2.out
    go_wp2_with fail
    refine (K1.out _ H2.out).mono ?_
    rintro e w3 ⟨rfl, h3⟩
    have H3 := hide h3
    clear h3 K1 H2 y0 y1 y2 y3
    obtain ⟨y0, y1, y2, y3⟩ := HY.out w3 H3.out
    by_cases hr : r1 < 0
    · have HN : Hid (R = decide (r2 < 0)) := hide (by rw [HR.out, if_pos hr])
      have hd : decide (r1 < 0) = true := decide_eq_true hr
      clear HR
      go_wp2_with fail
      go_ret
      rw [HN.out]
      exact ⟨rfl, H3.out.2⟩
    · have HN : Hid (R = decide (r2 = (am : Int) - 1)) := hide (by rw [HR.out, if_neg hr])
      have hd : decide (r1 < 0) = false := decide_eq_false hr
      have hwk : IntKind.i64.wrap ((am : Int) - 1) = (am : Int) - 1 := IntWalk.i64_in _ (by omega)
      clear HR
      go_wp2_with fail
      go_ret
      rw [HN.out]
      exact ⟨ret_bool (by first | rfl | (by_cases h : r2 = (am : Int) - 1 <;> simp [h])), H3.out.2⟩

/-- A policy and a node in their blocks. -/
def BoxM (w : World) (A B : Array Value) (wx : World) : Prop := wx.heap[w.heap.size]? = some (.cells A 24 (0, 0)) ∧ wx.heap[w.heap.size + 1]? = some (.cells B 36 (0, 0)) ∧ Below w.heap.size w wx
theorem BoxM.keep {w wx wy : World} {A B : Array Value} (h : BoxM w A B wx) (hb : Below wx.heap.size wx wy) : BoxM w A B wy :=
  ⟨(hb.block _ (Array.getElem?_eq_some_iff.1 h.1).1).trans h.1, (hb.block _ (Array.getElem?_eq_some_iff.1 h.2.1).1).trans h.2.1, h.2.2.trans (hb.mono h.2.2.size)⟩
theorem BoxM.a {w wx : World} {A B : Array Value} (h : BoxM w A B wx) (i : Nat) (v : Value) (hv : A[i]? = some v) : wx.cell? ⟨w.heap.size, i, none⟩ = some v := tag_cell h.1 i v hv
theorem BoxM.b {w wx : World} {A B : Array Value} (h : BoxM w A B wx) (i : Nat) (v : Value) (hv : B[i]? = some v) : wx.cell? ⟨w.heap.size + 1, i, none⟩ = some v := tag_cell h.2.1 i v hv
theorem BoxM.new (w : World) (A B : Array Value) : BoxM w A B ((w.alloc (.cells A 24)).alloc (.cells B 36)) := by
  have s1 : (w.alloc (.cells A 24)).heap.size = w.heap.size + 1 := by simp
  have k2 := new_block (w.alloc (.cells A 24)) B 36
  rw [s1] at k2
  refine ⟨?_, k2, bel_alloc (bel_alloc (Below.refl _ _) _) _⟩
  rw [Below.heap_alloc _ _ _ (by rw [s1]; omega)]
  exact new_block _ _ _

set_option maxRecDepth 100000 in
set_option maxHeartbeats 16000000 in
theorem pstay_any (v1 v2 v3 v4 v5 : Value) (p : Pol) (l1 l2 l3 l4 l5 : List ByteArray) (hf : fits p) (XN XT : ByteArray) (ap kp : Option Addr) (am ac km kc : Nat) (at' : Saf.At) (w : World) (hv : PolV w v1 v2 v3 v4 v5 p l1 l2 l3 l4 l5) (har : Dm.ARow w ap am at') (hXN : XN.size ≤ 100000) (hz : ∀ kv ∈ at', kv.1.length ≤ 100000 ∧ kv.2.length ≤ 90000) :
    Calls Tryd.prog 31 #[pval p v1 v2 v3 v4 v5, .agg #[.string XN, .slice ap am ac, .string XT, .slice kp km kc]] w fun e w' => e = .returned (.bool (at'.all fun kv => Saf.valueB p (bl XN) kv.1 kv.2)) ∧ Below w.heap.size w w' := by
  obtain ⟨R, hR⟩ : ∃ R, R = (at'.all fun kv => Saf.valueB p (bl XN) kv.1 kv.2) := ⟨_, rfl⟩
  rw [← hR]
  have HR := hide hR
  have HAR := hide har
  have HV := hide hv
  have HF := hide hf
  have HZ := hide hz
  have HX := hide hXN
  have hm := har.1.2
  have HML := hide har.1.1
  obtain ⟨o1, k1, rfl, -, -⟩ := hv.s1
  obtain ⟨o2, k2, rfl, -, -⟩ := hv.s2
  obtain ⟨o3, k3, rfl, -, -⟩ := hv.s3
  obtain ⟨o4, k4, rfl, -, -⟩ := hv.s4
  obtain ⟨o5, k5, rfl, -, -⟩ := hv.s5
  clear hv hR har hf hz hXN
  obtain ⟨w1, hw1⟩ : ∃ w1, w1 = (w.alloc (.cells #[.int .i64 p.ep, .slice o1 (List.length l1) k1, .slice o2 (List.length l2) k2, .slice o3 (List.length l3) k3, .slice o4 (List.length l4) k4, .slice o5 (List.length l5) k5, .int .i64 p.dp, .int .i64 p.nd, .int .i64 p.bt] 24)).alloc (.cells #[.string XN, .slice ap am ac, .string XT, .slice kp km kc] 36) := ⟨_, rfl⟩
  have H1 : Hid (BoxM w #[.int .i64 p.ep, .slice o1 (List.length l1) k1, .slice o2 (List.length l2) k2, .slice o3 (List.length l3) k3, .slice o4 (List.length l4) k4, .slice o5 (List.length l5) k5, .int .i64 p.dp, .int .i64 p.nd, .int .i64 p.bt] #[.string XN, .slice ap am ac, .string XT, .slice kp km kc] w1) := hide (by rw [hw1]; exact BoxM.new _ _ _)
  have SK : Hid (∀ wx, BoxM w #[.int .i64 p.ep, .slice o1 (List.length l1) k1, .slice o2 (List.length l2) k2, .slice o3 (List.length l3) k3, .slice o4 (List.length l4) k4, .slice o5 (List.length l5) k5, .int .i64 p.dp, .int .i64 p.nd, .int .i64 p.bt] #[.string XN, .slice ap am ac, .string XT, .slice kp km kc] wx → wx.cell? ⟨w.heap.size, 0, none⟩ = some (.int .i64 p.ep) ∧ wx.cell? ⟨w.heap.size, 1, none⟩ = some (.slice o1 (List.length l1) k1) ∧ wx.cell? ⟨w.heap.size, 2, none⟩ = some (.slice o2 (List.length l2) k2) ∧ wx.cell? ⟨w.heap.size, 3, none⟩ = some (.slice o3 (List.length l3) k3) ∧ wx.cell? ⟨w.heap.size, 4, none⟩ = some (.slice o4 (List.length l4) k4) ∧ wx.cell? ⟨w.heap.size, 5, none⟩ = some (.slice o5 (List.length l5) k5) ∧ wx.cell? ⟨w.heap.size, 6, none⟩ = some (.int .i64 p.dp) ∧ wx.cell? ⟨w.heap.size, 7, none⟩ = some (.int .i64 p.nd) ∧ wx.cell? ⟨w.heap.size, 8, none⟩ = some (.int .i64 p.bt) ∧ wx.cell? ⟨w.heap.size + 1, 0, none⟩ = some (.string XN) ∧ wx.cell? ⟨w.heap.size + 1, 1, none⟩ = some (.slice ap am ac) ∧ wx.cell? ⟨w.heap.size + 1, 2, none⟩ = some (.string XT) ∧ wx.cell? ⟨w.heap.size + 1, 3, none⟩ = some (.slice kp km kc)) := hide (fun wx h => ⟨h.a 0 _ rfl, h.a 1 _ rfl, h.a 2 _ rfl, h.a 3 _ rfl, h.a 4 _ rfl, h.a 5 _ rfl, h.a 6 _ rfl, h.a 7 _ rfl, h.a 8 _ rfl, h.b 0 _ rfl, h.b 1 _ rfl, h.b 2 _ rfl, h.b 3 _ rfl⟩)
  go_enter Tryd.func31, Tryd.ntmps31
  go_upto_region 1 with fail
  rw [← hw1]
  clear hw1
  have z1 := H1.out.b 1 _ rfl
  go_wp2_with fail
  clear z1
  go_loopg [10] am (fun g v wx => ∃ i : Nat, i + g = am ∧ v = .int .i64 (i : Int) ∧ Hid (BoxM w #[.int .i64 p.ep, .slice o1 (List.length l1) k1, .slice o2 (List.length l2) k2, .slice o3 (List.length l3) k3, .slice o4 (List.length l4) k4, .slice o5 (List.length l5) k5, .int .i64 p.dp, .int .i64 p.nd, .int .i64 p.bt] #[.string XN, .slice ap am ac, .string XT, .slice kp km kc] wx ∧ ∀ (j : Nat) (kv : L × L), j < i → at'[j]? = some kv → Saf.valueB p (bl XN) kv.1 kv.2 = true))
  case atStart => exact ⟨0, by omega, rfl, hide ⟨H1.out, fun j kv hj => by omega⟩⟩
  case round =>
    obtain ⟨i, hi, rfl, HU⟩ := hrel
    clear H1
    obtain ⟨wz, hwz⟩ : ∃ wz, wz = wr := ⟨_, rfl⟩
    subst hwz
    by_cases hlt : i < am
    · obtain ⟨kv, hkv⟩ : ∃ kv, at'[i]? = some kv := ⟨_, List.getElem?_eq_getElem (by have := HML.out; omega)⟩
      obtain ⟨b, off, hap, c0, c1, -, -⟩ := HAR.out.2 i kv hkv
      have c0 := cell_keep c0 HU.out.1.2.2
      have c1 := cell_keep c1 HU.out.1.2.2
      obtain ⟨X1, hX1⟩ : ∃ X : ByteArray, X = ⟨kv.1.toArray⟩ := ⟨_, rfl⟩
      obtain ⟨X2, hX2⟩ : ∃ X : ByteArray, X = ⟨kv.2.toArray⟩ := ⟨_, rfl⟩
      rw [← hX1] at c0
      rw [← hX2] at c1
      have hb1 : bl X1 = kv.1 := by rw [hX1]
      have hb2 : bl X2 = kv.2 := by rw [hX2]
      have hzs : X1.size ≤ 100000 ∧ X2.size ≤ 90000 := by
        rw [← bl_len, ← bl_len, hb1, hb2]
        exact HZ.out kv (List.mem_of_getElem? hkv)
      have CV : Hid (∀ wx, BoxM w #[.int .i64 p.ep, .slice o1 (List.length l1) k1, .slice o2 (List.length l2) k2, .slice o3 (List.length l3) k3, .slice o4 (List.length l4) k4, .slice o5 (List.length l5) k5, .int .i64 p.dp, .int .i64 p.nd, .int .i64 p.bt] #[.string XN, .slice ap am ac, .string XT, .slice kp km kc] wx → Calls Tryd.prog 9 #[.agg #[.int .i64 p.ep, .slice o1 (List.length l1) k1, .slice o2 (List.length l2) k2, .slice o3 (List.length l3) k3, .slice o4 (List.length l4) k4, .slice o5 (List.length l5) k5, .int .i64 p.dp, .int .i64 p.nd, .int .i64 p.bt], .string XN, .agg #[.string X1, .string X2]] wx fun r w' => r = .returned (.bool (Saf.valueB p (bl XN) kv.1 kv.2)) ∧ BoxM w #[.int .i64 p.ep, .slice o1 (List.length l1) k1, .slice o2 (List.length l2) k2, .slice o3 (List.length l3) k3, .slice o4 (List.length l4) k4, .slice o5 (List.length l5) k5, .int .i64 p.dp, .int .i64 p.nd, .int .i64 p.bt] #[.string XN, .slice ap am ac, .string XT, .slice kp km kc] w') := hide (fun wx h => by
        have := pvalue_any _ _ _ _ _ p _ _ _ _ _ XN X1 X2 wx (HV.out.below h.2.2) HF.out HX.out hzs.1 hzs.2
        rw [hb1, hb2] at this
        exact this.mono fun _ w' ⟨h1, h2⟩ => ⟨h1, h.keep h2⟩)
      have HKV := hide hkv
      clear hX1 hX2 hb1 hb2 hzs hkv
      obtain ⟨w2, hw2⟩ : ∃ w2, w2 = wz.alloc (.cells #[.string X1, .string X2] 26) := ⟨_, rfl⟩
      have hbl : Below wz.heap.size wz w2 := by rw [hw2]; exact bel_alloc (Below.refl _ _) _
      have H2 : Hid (BoxM w #[.int .i64 p.ep, .slice o1 (List.length l1) k1, .slice o2 (List.length l2) k2, .slice o3 (List.length l3) k3, .slice o4 (List.length l4) k4, .slice o5 (List.length l5) k5, .int .i64 p.dp, .int .i64 p.nd, .int .i64 p.bt] #[.string XN, .slice ap am ac, .string XT, .slice kp km kc] w2) := hide (HU.out.1.keep hbl)
      have u0 : w2.cell? ⟨wz.heap.size, 0, none⟩ = some (.string X1) := by rw [hw2]; exact tag_cell (new_block _ _ _) 0 _ rfl
      have u1 : w2.cell? ⟨wz.heap.size, 1, none⟩ = some (.string X2) := by rw [hw2]; exact tag_cell (new_block _ _ _) 1 _ rfl
      have HUP := hide HU.out.2
      clear hbl HU
      subst hap
      go_upto_region 4 with fail
      rw [← hw2]
      clear hw2 c0 c1
      obtain ⟨y0, q1, q2, q3, q4, q5, y6, y7, y8, z0, z1, z2, z3⟩ := SK.out _ H2.out
      cases hvb : Saf.valueB p (bl XN) kv.1 kv.2 with
      | false =>
        have HN : Hid (R = false) := hide (by
          rw [HR.out, List.all_eq_false]
          exact ⟨kv, List.mem_of_getElem? HKV.out, by rw [hvb]; decide⟩)
        rw [hvb] at CV
        clear hvb HR HKV HUP
        go_wp2_with fail
        refine (CV.out _ H2.out).mono ?_
        rintro r w3 ⟨rfl, h3⟩
        have H3 := hide h3
        clear h3 CV H2 y0 q1 q2 q3 q4 q5 y6 y7 y8 z0 z1 z2 z3 u0 u1
        go_wp2_with fail
        go_ret
        rw [HN.out]
        exact ⟨rfl, H3.out.2.2⟩
      | true =>
        have HUP2 : Hid (∀ (j : Nat) (kv : L × L), j < i + 1 → at'[j]? = some kv → Saf.valueB p (bl XN) kv.1 kv.2 = true) := hide (fun j x hj hjx => by
          by_cases e : j = i
          · subst e
            rw [HKV.out] at hjx
            cases hjx
            exact hvb
          · exact HUP.out j x (by omega) hjx)
        rw [hvb] at CV
        clear hvb HKV HUP
        go_wp2_with fail
        refine (CV.out _ H2.out).mono ?_
        rintro r w3 ⟨rfl, h3⟩
        have H3 := hide h3
        clear h3 CV H2 y0 q1 q2 q3 q4 q5 y6 y7 y8 z0 z1 z2 z3 u0 u1
        go_wp2_with fail
        go_roundg (am - i - 1)
        case measure => omega
        case rel => exact ⟨i + 1, by omega, by first | rfl | simp, hide ⟨H3.out, HUP2.out⟩⟩
    · have HN : Hid (R = true) := hide (by
        rw [HR.out, List.all_eq_true]
        intro kv hkv
        obtain ⟨j, hj⟩ := List.getElem?_of_mem hkv
        exact HU.out.2 j kv (by have := (List.getElem?_eq_some_iff.1 hj).1; have := HML.out; omega) hj)
      have HB := hide HU.out.1.2.2
      clear HU HR
      go_wp2_with fail
      go_ret
      rw [HN.out]
      exact ⟨rfl, HB.out⟩
end Go.Proofs.YtbcadeikdmlpoaaDoor

namespace Go.Proofs.YtbcadeikdmlpoaaDoor
open Go.RowKit
open Utf1 Pol8

/-- A policy's block below, a node's block on top. -/
def BoxE (PB : Nat) (w : World) (A B : Array Value) (wx : World) : Prop := wx.heap[PB]? = some (.cells A 24 (0, 0)) ∧ BoxN w B wx
theorem BoxE.keep {PB : Nat} {w wx wy : World} {A B : Array Value} (h : BoxE PB w A B wx) (hb : Below wx.heap.size wx wy) : BoxE PB w A B wy :=
  ⟨(hb.block _ (Array.getElem?_eq_some_iff.1 h.1).1).trans h.1, h.2.keep hb⟩

set_option maxRecDepth 100000 in
set_option maxHeartbeats 16000000 in
theorem pelem1_any (PB : Nat) (v1 v2 v3 v4 v5 : Value) (p : Pol) (l1 l2 l3 l4 l5 : List ByteArray) (hf : fits p) (XN XT : ByteArray) (ap kp : Option Addr) (am ac km kc : Nat) (at' : Saf.At) (w : World) (hPB : w.heap[PB]? = some (.cells #[.int .i64 p.ep, v1, v2, v3, v4, v5, .int .i64 p.dp, .int .i64 p.nd, .int .i64 p.bt] 24 (0, 0))) (hv : PolV w v1 v2 v3 v4 v5 p l1 l2 l3 l4 l5) (har : Dm.ARow w ap am at') (hXN : XN.size ≤ 100000) (hz : ∀ kv ∈ at', kv.1.length ≤ 100000 ∧ kv.2.length ≤ 90000) :
    Calls Tryd.prog 30 #[.agg #[.string XN, .slice ap am ac, .string XT, .slice kp km kc], .pointer (some ⟨PB, 0, none⟩)] w fun e w' => e = .returned (.bool (Saf.elemB p (bl XN) at')) ∧ Below w.heap.size w w' := by
  obtain ⟨R, hR⟩ : ∃ R, R = Saf.elemB p (bl XN) at' := ⟨_, rfl⟩
  rw [← hR]
  unfold Saf.elemB at hR
  have HR : Hid (R = (decide (bl XN ∈ p.el) && ((at'.all fun kv => Saf.valueB p (bl XN) kv.1 kv.2) && (!decide (bl XN = [97]) || Saf.relB at')))) := hide hR
  have HAR := hide har
  have HV := hide hv
  have HF := hide hf
  have HZ := hide hz
  have HX := hide hXN
  obtain ⟨o1, k1, rfl, -, -⟩ := hv.s1
  obtain ⟨o2, k2, rfl, -, -⟩ := hv.s2
  obtain ⟨o3, k3, rfl, -, -⟩ := hv.s3
  obtain ⟨o4, k4, rfl, -, -⟩ := hv.s4
  obtain ⟨o5, k5, rfl, -, -⟩ := hv.s5
  obtain ⟨w1, hw1⟩ : ∃ w1, w1 = w.alloc (.cells #[.string XN, .slice ap am ac, .string XT, .slice kp km kc] 36) := ⟨_, rfl⟩
  have hbl : Below w.heap.size w w1 := by rw [hw1]; exact bel_alloc (Below.refl _ _) _
  have H1 : Hid (BoxE PB w #[.int .i64 p.ep, .slice o1 (List.length l1) k1, .slice o2 (List.length l2) k2, .slice o3 (List.length l3) k3, .slice o4 (List.length l4) k4, .slice o5 (List.length l5) k5, .int .i64 p.dp, .int .i64 p.nd, .int .i64 p.bt] #[.string XN, .slice ap am ac, .string XT, .slice kp km kc] w1) := hide ⟨(hbl.block _ (lt_of_block hPB)).trans hPB, by rw [hw1]; exact BoxN.new _ _⟩
  have SK : Hid (∀ wx, BoxE PB w #[.int .i64 p.ep, .slice o1 (List.length l1) k1, .slice o2 (List.length l2) k2, .slice o3 (List.length l3) k3, .slice o4 (List.length l4) k4, .slice o5 (List.length l5) k5, .int .i64 p.dp, .int .i64 p.nd, .int .i64 p.bt] #[.string XN, .slice ap am ac, .string XT, .slice kp km kc] wx → wx.cell? ⟨PB, 0, none⟩ = some (.int .i64 p.ep) ∧ wx.cell? ⟨PB, 1, none⟩ = some (.slice o1 (List.length l1) k1) ∧ wx.cell? ⟨PB, 2, none⟩ = some (.slice o2 (List.length l2) k2) ∧ wx.cell? ⟨PB, 3, none⟩ = some (.slice o3 (List.length l3) k3) ∧ wx.cell? ⟨PB, 4, none⟩ = some (.slice o4 (List.length l4) k4) ∧ wx.cell? ⟨PB, 5, none⟩ = some (.slice o5 (List.length l5) k5) ∧ wx.cell? ⟨PB, 6, none⟩ = some (.int .i64 p.dp) ∧ wx.cell? ⟨PB, 7, none⟩ = some (.int .i64 p.nd) ∧ wx.cell? ⟨PB, 8, none⟩ = some (.int .i64 p.bt) ∧ wx.cell? ⟨w.heap.size, 0, none⟩ = some (.string XN) ∧ wx.cell? ⟨w.heap.size, 1, none⟩ = some (.slice ap am ac) ∧ wx.cell? ⟨w.heap.size, 2, none⟩ = some (.string XT) ∧ wx.cell? ⟨w.heap.size, 3, none⟩ = some (.slice kp km kc)) := hide (fun wx h => ⟨tag_cell h.1 0 _ rfl, tag_cell h.1 1 _ rfl, tag_cell h.1 2 _ rfl, tag_cell h.1 3 _ rfl, tag_cell h.1 4 _ rfl, tag_cell h.1 5 _ rfl, tag_cell h.1 6 _ rfl, tag_cell h.1 7 _ rfl, tag_cell h.1 8 _ rfl, h.2.cell 0 _ rfl, h.2.cell 1 _ rfl, h.2.cell 2 _ rfl, h.2.cell 3 _ rfl⟩)
  have C1 : Hid (∀ wx, BoxE PB w #[.int .i64 p.ep, .slice o1 (List.length l1) k1, .slice o2 (List.length l2) k2, .slice o3 (List.length l3) k3, .slice o4 (List.length l4) k4, .slice o5 (List.length l5) k5, .int .i64 p.dp, .int .i64 p.nd, .int .i64 p.bt] #[.string XN, .slice ap am ac, .string XT, .slice kp km kc] wx → Calls Tryd.prog 17 #[.agg #[.int .i64 p.ep, .slice o1 (List.length l1) k1, .slice o2 (List.length l2) k2, .slice o3 (List.length l3) k3, .slice o4 (List.length l4) k4, .slice o5 (List.length l5) k5, .int .i64 p.dp, .int .i64 p.nd, .int .i64 p.bt], .string XN] wx fun r w' => r = .returned (.bool (decide (bl XN ∈ p.el))) ∧ BoxE PB w #[.int .i64 p.ep, .slice o1 (List.length l1) k1, .slice o2 (List.length l2) k2, .slice o3 (List.length l3) k3, .slice o4 (List.length l4) k4, .slice o5 (List.length l5) k5, .int .i64 p.dp, .int .i64 p.nd, .int .i64 p.bt] #[.string XN, .slice ap am ac, .string XT, .slice kp km kc] w') := hide (fun wx h => (pelemC_any _ _ _ _ _ p _ _ _ _ _ XN wx (HV.out.below h.2.2) HF.out HX.out).mono fun _ w' ⟨h1, h2⟩ => ⟨h1, h.keep h2⟩)
  have C2 : Hid (∀ wx, BoxE PB w #[.int .i64 p.ep, .slice o1 (List.length l1) k1, .slice o2 (List.length l2) k2, .slice o3 (List.length l3) k3, .slice o4 (List.length l4) k4, .slice o5 (List.length l5) k5, .int .i64 p.dp, .int .i64 p.nd, .int .i64 p.bt] #[.string XN, .slice ap am ac, .string XT, .slice kp km kc] wx → Calls Tryd.prog 31 #[.agg #[.int .i64 p.ep, .slice o1 (List.length l1) k1, .slice o2 (List.length l2) k2, .slice o3 (List.length l3) k3, .slice o4 (List.length l4) k4, .slice o5 (List.length l5) k5, .int .i64 p.dp, .int .i64 p.nd, .int .i64 p.bt], .agg #[.string XN, .slice ap am ac, .string XT, .slice kp km kc]] wx fun r w' => r = .returned (.bool (at'.all fun kv => Saf.valueB p (bl XN) kv.1 kv.2)) ∧ BoxE PB w #[.int .i64 p.ep, .slice o1 (List.length l1) k1, .slice o2 (List.length l2) k2, .slice o3 (List.length l3) k3, .slice o4 (List.length l4) k4, .slice o5 (List.length l5) k5, .int .i64 p.dp, .int .i64 p.nd, .int .i64 p.bt] #[.string XN, .slice ap am ac, .string XT, .slice kp km kc] w') := hide (fun wx h => (pstay_any _ _ _ _ _ p _ _ _ _ _ HF.out XN XT ap kp am ac km kc at' wx (HV.out.below h.2.2) (HAR.out.below h.2.2) HX.out HZ.out).mono fun _ w' ⟨h1, h2⟩ => ⟨h1, h.keep h2⟩)
  have C3 : Hid (∀ wx, BoxE PB w #[.int .i64 p.ep, .slice o1 (List.length l1) k1, .slice o2 (List.length l2) k2, .slice o3 (List.length l3) k3, .slice o4 (List.length l4) k4, .slice o5 (List.length l5) k5, .int .i64 p.dp, .int .i64 p.nd, .int .i64 p.bt] #[.string XN, .slice ap am ac, .string XT, .slice kp km kc] wx → Calls Tryd.prog 32 #[.agg #[.string XN, .slice ap am ac, .string XT, .slice kp km kc]] wx fun r w' => r = .returned (.bool (!decide (bl XN = [97]) || Saf.relB at')) ∧ BoxE PB w #[.int .i64 p.ep, .slice o1 (List.length l1) k1, .slice o2 (List.length l2) k2, .slice o3 (List.length l3) k3, .slice o4 (List.length l4) k4, .slice o5 (List.length l5) k5, .int .i64 p.dp, .int .i64 p.nd, .int .i64 p.bt] #[.string XN, .slice ap am ac, .string XT, .slice kp km kc] w') := hide (fun wx h => (prel_any XN XT ap kp am ac km kc at' wx (HAR.out.below h.2.2)).mono fun _ w' ⟨h1, h2⟩ => ⟨h1, h.keep h2⟩)
  generalize decide (bl XN ∈ p.el) = r1 at C1 HR
  generalize (at'.all fun kv => Saf.valueB p (bl XN) kv.1 kv.2) = r2 at C2 HR
  generalize (!decide (bl XN = [97]) || Saf.relB at') = r3 at C3 HR
  clear hv hR har hf hz hXN hPB hbl HAR HV HF HZ HX
  obtain ⟨y0, q1, q2, q3, q4, q5, y6, y7, y8, z0, z1, z2, z3⟩ := SK.out _ H1.out
  go_enter Tryd.func30, Tryd.ntmps30
  go_upto_region 1 with fail
  rw [← hw1]
  clear hw1
  go_wp2_with fail
  refine (C1.out _ H1.out).mono ?_
  rintro r w2 ⟨rfl, h2⟩
  have H2 := hide h2
  clear h2 C1 H1 y0 q1 q2 q3 q4 q5 y6 y7 y8 z0 z1 z2 z3
  obtain ⟨y0, q1, q2, q3, q4, q5, y6, y7, y8, z0, z1, z2, z3⟩ := SK.out _ H2.out
  cases r1 with
  | false =>
    have HN : Hid (R = false) := hide (by rw [HR.out]; rfl)
    clear HR
    go_wp2_with fail
    go_ret
    rw [HN.out]
    exact ⟨rfl, H2.out.2.2⟩
  | true =>
    go_wp2_with fail
    refine (C2.out _ H2.out).mono ?_
    rintro r w3 ⟨rfl, h3⟩
    have H3 := hide h3
    clear h3 C2 H2 y0 q1 q2 q3 q4 q5 y6 y7 y8 z0 z1 z2 z3
    obtain ⟨y0, q1, q2, q3, q4, q5, y6, y7, y8, z0, z1, z2, z3⟩ := SK.out _ H3.out
    cases r2 with
    | false =>
      have HN : Hid (R = false) := hide (by rw [HR.out]; rfl)
      clear HR
      go_wp2_with fail
      go_ret
      rw [HN.out]
      exact ⟨rfl, H3.out.2.2⟩
    | true =>
      have HN : Hid (R = r3) := hide (by rw [HR.out]; simp)
      clear HR
      go_wp2_with fail
      refine (C3.out _ H3.out).mono ?_
      rintro r w4 ⟨rfl, h4⟩
      have H4 := hide h4
      clear h4 C3 H3 y0 q1 q2 q3 q4 q5 y6 y7 y8 z0 z1 z2 z3
      go_wp2_with fail
      go_ret
      rw [HN.out]
      exact ⟨ret_bool (by simp), H4.out.2.2⟩

theorem ws_nodeP : ∀ {ns : List Nd} {i : Nat} {x : Nd}, ns[i]? = some x → wsN x ≤ wsL ns
  | [], i, x, h => by simp at h
  | y :: r, 0, x, h => by
    have e : y = x := by simpa using h
    subst e
    rw [wsL]
    omega
  | y :: r, i + 1, x, h => by
    have := ws_nodeP (ns := r) (i := i) (x := x) (by simpa using h)
    rw [wsL]
    omega
theorem wa_attrP : ∀ {l : Saf.At} {kv : L × L}, kv ∈ l → kv.1.length + kv.2.length ≤ waL l
  | [], x, h => by simp at h
  | y :: r, x, h => by
    rw [waL]
    rcases List.mem_cons.1 h with e | h
    · subst e
      omega
    · have := wa_attrP (l := r) h
      omega
/-- A function value that tells of elements. -/
def TellsN (g : Nat) (lb : Array Value) (f : L → Saf.At → Bool) (w : World) : Prop :=
  ∀ (W : World) (XN XT : ByteArray) (ap kp : Option Addr) (am ac km kc : Nat) (at' : Saf.At), Below w.heap.size w W → Dm.ARow W ap am at' → XN.size ≤ 100000 → (∀ kv ∈ at', kv.1.length ≤ 100000 ∧ kv.2.length ≤ 90000) → Calls Tryd.prog g (#[.agg #[.string XN, .slice ap am ac, .string XT, .slice kp km kc]] ++ lb) W fun e w' => e = .returned (.bool (f (bl XN) at')) ∧ Below W.heap.size W w'
theorem TellsN.later {g : Nat} {lb : Array Value} {f : L → Saf.At → Bool} {w W : World} (h : TellsN g lb f w) (hb : Below w.heap.size w W) : TellsN g lb f W :=
  fun W' XN XT ap kp am ac km kc at' hb' => h W' XN XT ap kp am ac km kc at' (bel2 hb hb')

set_option maxRecDepth 100000 in
set_option maxHeartbeats 16000000 in
theorem peach_nst (g0 : Nat) (lb : Array Value) (eg : ∀ args w, (callFunc g0 args).run Tryd.prog w = .ok (.enter g0 args) w) (p : Pol) : ∀ (D : Nat) (w : World) (v : Value) (ns : List Nd), TellsN g0 lb (Saf.elemB p) w → Dm.NAtD w D v ns → wsL ns ≤ 20000 →
    Calls Tryd.prog 29 #[v, .func (.func g0) #[] lb] w fun e w' => e = .returned (.bool (Saf.eachL p ns)) ∧ Below w.heap.size w w' := by
  intro D
  induction D with
  | zero => intro w v ns _ h; exact h.elim
  | succ D0 ih =>
  intro w v ns ht hk hws
  obtain ⟨pp, c, rfl, hNm, hnode⟩ := hk
  have HNODE := hide hnode
  have HIH := hide ih
  have HT := hide ht
  have HWS := hide hws
  obtain ⟨R, hR⟩ : ∃ R, R = Saf.eachL p ns := ⟨_, rfl⟩
  rw [← hR]
  have HR := hide hR
  obtain ⟨N, hN⟩ : ∃ N, N = ns.length := ⟨_, rfl⟩
  rw [← hN] at hNm ⊢
  have HN := hide hN
  clear hnode ih hN hR hws ht
  go_enter Tryd.func29, Tryd.ntmps29
  go_wp2_with fail
  go_loopg [9] N (fun g v wx => ∃ i : Nat, i + g = N ∧ v = .int .i64 (i : Int) ∧ Hid (Below w.heap.size w wx ∧ ∀ (j : Nat) (x : Nd), j < i → ns[j]? = some x → Saf.eachN p x = true))
  case atStart => exact ⟨0, by omega, rfl, hide ⟨Below.refl _ _, fun j x hj => by omega⟩⟩
  case round =>
    obtain ⟨i, hi, rfl, HU⟩ := hrel
    obtain ⟨wz, hwz⟩ : ∃ wz, wz = wr := ⟨_, rfl⟩
    subst hwz
    by_cases hlt : i < N
    · obtain ⟨nd, hnd⟩ : ∃ nd, ns[i]? = some nd := ⟨_, List.getElem?_eq_getElem (by have := HN.out; omega)⟩
      obtain ⟨g, off, ap, am, ac, kp, km, kc, rfl, x0, x1, x2, x3, -, har, hkk⟩ := HNODE.out i nd hnd
      have x0 := cell_keep x0 HU.out.1
      have x1 := cell_keep x1 HU.out.1
      have x2 := cell_keep x2 HU.out.1
      have x3 := cell_keep x3 HU.out.1
      obtain ⟨XN, hXN⟩ : ∃ X : ByteArray, X = ⟨nd.name.toArray⟩ := ⟨_, rfl⟩
      obtain ⟨XT, hXT⟩ : ∃ X : ByteArray, X = ⟨nd.text.toArray⟩ := ⟨_, rfl⟩
      rw [← hXN] at x0
      rw [← hXT] at x2
      have HXN : Hid (bl XN = nd.name) := hide (by rw [hXN])
      have hwn := ws_nodeP hnd
      rw [wsN_kids] at hwn
      have hzX : XN.size ≤ 100000 := by
        rw [← bl_len, HXN.out]
        have := HWS.out
        omega
      have hzA : ∀ kv ∈ nd.attrs, kv.1.length ≤ 100000 ∧ kv.2.length ≤ 90000 := fun kv hkv => by
        have := wa_attrP hkv
        have := HWS.out
        omega
      have hzK : wsL nd.kids ≤ 20000 := by have := HWS.out; omega
      have HND := hide hnd
      obtain ⟨w2, hw2⟩ : ∃ w2, w2 = wz.alloc (.cells #[.string XN, .slice ap am ac, .string XT, .slice kp km kc] 36) := ⟨_, rfl⟩
      have H2 : Hid (BoxN wz #[.string XN, .slice ap am ac, .string XT, .slice kp km kc] w2) := hide (by rw [hw2]; exact BoxN.new _ _)
      have HBW : Hid (∀ wx, BoxN wz #[.string XN, .slice ap am ac, .string XT, .slice kp km kc] wx → Below w.heap.size w wx) := hide (fun wx h => bel2 HU.out.1 h.2)
      have CT : Hid (∀ wx, BoxN wz #[.string XN, .slice ap am ac, .string XT, .slice kp km kc] wx → Calls Tryd.prog g0 (#[.agg #[.string XN, .slice ap am ac, .string XT, .slice kp km kc]] ++ lb) wx fun r w' => r = .returned (.bool (Saf.elemB p nd.name nd.attrs)) ∧ BoxN wz #[.string XN, .slice ap am ac, .string XT, .slice kp km kc] w') := hide (fun wx h => by
        have := HT.out wx XN XT ap kp am ac km kc nd.attrs (HBW.out wx h) (har.below (HBW.out wx h)) hzX hzA
        rw [HXN.out] at this
        exact this.mono fun _ w' ⟨h1, h2⟩ => ⟨h1, h.keep h2⟩)
      have CI : Hid (∀ wx, BoxN wz #[.string XN, .slice ap am ac, .string XT, .slice kp km kc] wx → Calls Tryd.prog 29 #[.slice kp km kc, .func (.func g0) #[] lb] wx fun r w' => r = .returned (.bool (Saf.eachL p nd.kids)) ∧ BoxN wz #[.string XN, .slice ap am ac, .string XT, .slice kp km kc] w') := hide (fun wx h => (HIH.out wx (.slice kp km kc) nd.kids (HT.out.later (HBW.out wx h)) (Dm.NAtD.below (HBW.out wx h) hkk) hzK).mono fun _ w' ⟨h1, h2⟩ => ⟨h1, h.keep h2⟩)
      have HY : Hid (∀ wx, BoxN wz #[.string XN, .slice ap am ac, .string XT, .slice kp km kc] wx → wx.cell? ⟨wz.heap.size, 0, none⟩ = some (.string XN) ∧ wx.cell? ⟨wz.heap.size, 1, none⟩ = some (.slice ap am ac) ∧ wx.cell? ⟨wz.heap.size, 2, none⟩ = some (.string XT) ∧ wx.cell? ⟨wz.heap.size, 3, none⟩ = some (.slice kp km kc)) := hide (fun wx h => ⟨h.cell 0 _ rfl, h.cell 1 _ rfl, h.cell 2 _ rfl, h.cell 3 _ rfl⟩)
      have HIN : Hid (Saf.eachN p nd = ((decide (nd.name = []) || Saf.elemB p nd.name nd.attrs) && Saf.eachL p nd.kids)) := hide (Saf.eachN_kids p nd)
      have HGO : Hid (Saf.eachN p nd = true → ∀ (j : Nat) (x : Nd), j < i + 1 → ns[j]? = some x → Saf.eachN p x = true) := hide (fun hin j x hj hjx => by
        by_cases e : j = i
        · subst e
          rw [HND.out] at hjx
          cases hjx
          exact hin
        · exact HU.out.2 j x (by omega) hjx)
      have HNO : Hid (Saf.eachN p nd = false → R = false) := hide (fun h => by rw [HR.out]; exact Saf.eachL_no HND.out h)
      have hemp := empty_bl XN
      rw [HXN.out] at hemp
      have hneq := ne_empty XN
      rw [HXN.out] at hneq
      generalize Saf.eachN p nd = IN at HIN HGO HNO
      generalize Saf.elemB p nd.name nd.attrs = r1 at CT HIN
      generalize Saf.eachL p nd.kids = r2 at CI HIN
      clear hXN hXT hnd har hkk hwn hzX hzA hzK HXN HND
      go_upto_region 4 with fail
      rw [← hw2]
      clear hw2 x0 x1 x2 x3
      obtain ⟨z0, z1, z2, z3⟩ := HY.out _ H2.out
      by_cases hne : nd.name = []
      · rw [decide_eq_true hne] at hemp HIN
        rw [decide_eq_false (fun h => h hne)] at hneq
        have HIN2 : Hid (IN = r2) := hide (by rw [HIN.out]; simp)
        clear hne HIN CT
        go_wp2_with fail
        refine (CI.out _ H2.out).mono ?_
        rintro r w6 ⟨rfl, h6⟩
        have H6 := hide h6
        clear h6 CI H2 z0 z1 z2 z3
        cases r2 with
        | false =>
          have HF2 : Hid (R = false) := hide (HNO.out HIN2.out)
          go_wp2_with fail
          go_ret
          rw [HF2.out]
          exact ⟨rfl, HBW.out _ H6.out⟩
        | true =>
          have HF2 := hide (HGO.out HIN2.out)
          go_wp2_with fail
          go_roundg (N - i - 1)
          case measure => omega
          case rel => exact ⟨i + 1, by omega, by first | rfl | simp, hide ⟨HBW.out _ H6.out, HF2.out⟩⟩
      · rw [decide_eq_false hne] at hemp HIN
        rw [decide_eq_true hne] at hneq
        clear hne
        have CT1 := hide (CT.out _ H2.out)
        clear CT
        cases r1 with
        | false =>
          have HF2 : Hid (R = false) := hide (HNO.out (by rw [HIN.out]; rfl))
          clear HIN CI
          go_wp2_with (go_at_fn g0; refine CT1.out.mono ?_; rintro e w5 ⟨rfl, h5⟩)
          have H5 := hide (HBW.out _ (by assumption))
          go_ret
          rw [HF2.out]
          exact ⟨rfl, H5.out⟩
        | true =>
          have HIN2 : Hid (IN = r2) := hide (by rw [HIN.out]; simp)
          clear HIN
          clear H2
          go_wp2_with (go_at_fn g0; refine CT1.out.mono ?_; rintro e w5 ⟨rfl, h5⟩; obtain ⟨s0, s1, s2, s3⟩ := HY.out _ h5; replace h5 := hide h5)
          refine (CI.out _ (Hid.out (by assumption))).mono ?_
          rintro r w6 ⟨rfl, h6⟩
          have H6 := hide h6
          clear h6 CI CT1 z0 z1 z2 z3
          cases r2 with
          | false =>
            have HF2 : Hid (R = false) := hide (HNO.out HIN2.out)
            go_wp2_with fail
            go_ret
            rw [HF2.out]
            exact ⟨rfl, HBW.out _ H6.out⟩
          | true =>
            have HF2 := hide (HGO.out HIN2.out)
            go_wp2_with fail
            go_roundg (N - i - 1)
            case measure => omega
            case rel => exact ⟨i + 1, by omega, by first | rfl | simp, hide ⟨HBW.out _ H6.out, HF2.out⟩⟩
    · have HN2 : Hid (R = true) := hide (by rw [HR.out]; exact Saf.eachL_yes (fun j x hx => HU.out.2 j x (by have := (List.getElem?_eq_some_iff.1 hx).1; have := HN.out; omega) hx))
      have HB := hide HU.out.1
      clear HU
      go_wp2_with fail
      go_ret
      rw [HN2.out]
      exact ⟨rfl, HB.out⟩
end Go.Proofs.YtbcadeikdmlpoaaDoor

namespace Go.Proofs.YtbcadeikdmlpoaaDoor
open Go.RowKit
open Utf1 Pol8

theorem ent_safe1 : ∀ args w, (callFunc 30 args).run Tryd.prog w = .ok (.enter 30 args) w := enters_of Tryd.func30 (by kernel_rfl) rfl
set_option maxRecDepth 100000 in
set_option maxHeartbeats 8000000 in
theorem psafe_any (v1 v2 v3 v4 v5 : Value) (p : Pol) (l1 l2 l3 l4 l5 : List ByteArray) (v : Value) (ns : List Nd) (w : World) (hv : PolV w v1 v2 v3 v4 v5 p l1 l2 l3 l4 l5) (hf : fits p) (hk : Dm.NAt w v ns) (hws : wsL ns ≤ 20000) :
    Calls Tryd.prog 14 #[pval p v1 v2 v3 v4 v5, v] w fun e w' => e = .returned (.bool (Saf.safeB p ns)) ∧ Below w.heap.size w w' := by
  obtain ⟨R, hR⟩ : ∃ R, R = Saf.safeB p ns := ⟨_, rfl⟩
  rw [← hR]
  rw [Saf.safe_each] at hR
  have HR := hide hR
  have hnc := ncL_ws ns
  have HV := hide hv
  have HK := hide hk
  obtain ⟨D, hkD⟩ := hk
  have CS : Hid (∀ wx, Below w.heap.size w wx → Calls Tryd.prog 27 #[v] wx fun e w' => e = .returned (.tuple #[.int .i64 (ncL ns : Int), .int .i64 (dpL ns : Int)]) ∧ Below wx.heap.size wx w') := hide (fun wx h => Dm.size_nst D wx v ns (Dm.NAtD.below h hkD) (by omega))
  have CT : Hid (∀ wx, Below w.heap.size w wx → Calls Tryd.prog 28 #[v] wx fun e w' => e = .returned (.bool (stable ns)) ∧ Below wx.heap.size wx w') := hide (fun wx h => Dm.stable_nst wx v ns (HK.out.below h) (by omega))
  have CI : Hid (∀ wx, wx.heap[w.heap.size]? = some (.cells #[.int .i64 p.ep, v1, v2, v3, v4, v5, .int .i64 p.dp, .int .i64 p.nd, .int .i64 p.bt] 24 (0, 0)) → Below w.heap.size w wx → Calls Tryd.prog 29 #[v, .func (.func 30) #[] #[.pointer (some ⟨w.heap.size, 0, none⟩)]] wx fun e w' => e = .returned (.bool (Saf.eachL p ns)) ∧ Below wx.heap.size wx w') := hide (fun wx hP h => peach_nst 30 #[.pointer (some ⟨w.heap.size, 0, none⟩)] ent_safe1 p D wx v ns (fun W XN XT ap kp am ac km kc at' hW har hX hz => pelem1_any w.heap.size v1 v2 v3 v4 v5 p l1 l2 l3 l4 l5 hf XN XT ap kp am ac km kc at' W ((hW.block _ (lt_of_block hP)).trans hP) (hv.below (bel2 h hW)) har hX hz) (Dm.NAtD.below h hkD) hws)
  obtain ⟨pv, cv, hvv, -⟩ : ∃ pv cv, v = .slice pv ns.length cv ∧ True := by
    cases D with
    | zero => exact hkD.elim
    | succ D =>
      obtain ⟨pv, cv, e, -⟩ := hkD
      exact ⟨pv, cv, e, trivial⟩
  obtain ⟨o1, k1, rfl, -, -⟩ := hv.s1
  obtain ⟨o2, k2, rfl, -, -⟩ := hv.s2
  obtain ⟨o3, k3, rfl, -, -⟩ := hv.s3
  obtain ⟨o4, k4, rfl, -, -⟩ := hv.s4
  obtain ⟨o5, k5, rfl, -, -⟩ := hv.s5
  obtain ⟨A, hA⟩ : ∃ A : Array Value, A = #[.int .i64 p.ep, .slice o1 l1.length k1, .slice o2 l2.length k2, .slice o3 l3.length k3, .slice o4 l4.length k4, .slice o5 l5.length k5, .int .i64 p.dp, .int .i64 p.nd, .int .i64 p.bt] := ⟨_, rfl⟩
  obtain ⟨w1, hw1⟩ : ∃ w1, w1 = w.alloc (.cells A 24) := ⟨_, rfl⟩
  have H1 : Hid (BoxP w A w1) := hide (by rw [hw1]; exact ⟨new_block _ _ _, bel_alloc (Below.refl _ _) _⟩)
  have HY : Hid (∀ wx, BoxP w A wx → wx.cell? ⟨w.heap.size, 0, none⟩ = some (.int .i64 p.ep) ∧ wx.cell? ⟨w.heap.size, 1, none⟩ = some (.slice o1 l1.length k1) ∧ wx.cell? ⟨w.heap.size, 2, none⟩ = some (.slice o2 l2.length k2) ∧ wx.cell? ⟨w.heap.size, 3, none⟩ = some (.slice o3 l3.length k3) ∧ wx.cell? ⟨w.heap.size, 4, none⟩ = some (.slice o4 l4.length k4) ∧ wx.cell? ⟨w.heap.size, 5, none⟩ = some (.slice o5 l5.length k5) ∧ wx.cell? ⟨w.heap.size, 6, none⟩ = some (.int .i64 p.dp) ∧ wx.cell? ⟨w.heap.size, 7, none⟩ = some (.int .i64 p.nd) ∧ wx.cell? ⟨w.heap.size, 8, none⟩ = some (.int .i64 p.bt)) := hide (fun wx h => ⟨h.cell 0 _ (by rw [hA]; rfl), h.cell 1 _ (by rw [hA]; rfl), h.cell 2 _ (by rw [hA]; rfl), h.cell 3 _ (by rw [hA]; rfl), h.cell 4 _ (by rw [hA]; rfl), h.cell 5 _ (by rw [hA]; rfl), h.cell 6 _ (by rw [hA]; rfl), h.cell 7 _ (by rw [hA]; rfl), h.cell 8 _ (by rw [hA]; rfl)⟩)
  rw [← hA] at CI
  rw [hA] at hw1
  subst hvv
  generalize ns.length = NL at CS CT CI
  generalize Saf.eachL p ns = ri at CI HR
  generalize hst : stable ns = rs at CT HR
  clear hst hA hv hR HV HK hkD hws hf
  obtain ⟨nc, hnc'⟩ : ∃ nc, nc = ncL ns := ⟨_, rfl⟩
  obtain ⟨dr, hdr⟩ : ∃ dr, dr = dpL ns := ⟨_, rfl⟩
  rw [← hnc', ← hdr] at CS
  rw [← hnc', ← hdr] at HR
  clear hnc hnc' hdr
  obtain ⟨a6, a7, h6, h7⟩ : ∃ a6 a7, a6 = p.dp ∧ a7 = p.nd := ⟨_, _, rfl, rfl⟩
  rw [← h6, ← h7] at HR
  have hmf : ∀ (fn : Fn) (first cap : Array Value) (w : World), (Instr.makeFunc fn first cap).run Tryd.prog w = .ok (.func fn first cap) w := fun _ _ _ _ => rfl
  go_enter Tryd.func14, Tryd.ntmps14
  go_upto_region 1 with fail
  rw [← hw1]
  clear hw1
  go_wp2_with fail
  refine (CS.out _ H1.out.2).mono ?_
  rintro e w2 ⟨rfl, h2⟩
  have H2 := hide (H1.out.keep h2)
  clear h2 CS H1
  go_wp2_with fail
  refine (CT.out _ H2.out.2).mono ?_
  rintro e w3 ⟨rfl, h3⟩
  have H3 := hide (H2.out.keep h3)
  clear h3 CT H2
  obtain ⟨y0, y1, y2, y3, y4, y5, y6, y7, y8⟩ := HY.out w3 H3.out
  rw [← h6] at y6
  rw [← h7] at y7
  have H67 := hide (And.intro h6 h7)
  clear h6 h7
  cases rs with
  | false =>
    have HN : Hid (R = false) := hide (by rw [HR.out]; rfl)
    clear HR
    go_wp2_with fail
    go_ret
    rw [HN.out]
    exact ⟨rfl, H3.out.2⟩
  | true =>
    rw [Bool.true_and] at HR
    by_cases hn : (nc : Int) ≤ a7
    · have gn : decide (a7 < (nc : Int)) = false := decide_eq_false (by omega)
      by_cases hd : (dr : Int) ≤ a6
      · have gd : decide (a6 < (dr : Int)) = false := decide_eq_false (by omega)
        have HN : Hid (R = ri) := hide (by rw [HR.out, decide_eq_true hn, decide_eq_true hd, Bool.true_and, Bool.true_and])
        clear HR hn hd
        go_wp2_with fail
        refine (CI.out _ H3.out.1 H3.out.2).mono ?_
        rintro e w4 ⟨rfl, h4⟩
        have H4 := hide (H3.out.keep h4)
        clear h4 CI H3 y0 y1 y2 y3 y4 y5 y6 y7 y8
        go_wp2_with fail
        go_ret
        rw [HN.out]
        exact ⟨rfl, H4.out.2⟩
      · have gd : decide (a6 < (dr : Int)) = true := decide_eq_true (by omega)
        have HN : Hid (R = false) := hide (by rw [HR.out, decide_eq_false hd]; simp)
        clear HR hn hd
        go_wp2_with fail
        go_ret
        rw [HN.out]
        exact ⟨rfl, H3.out.2⟩
    · have gn : decide (a7 < (nc : Int)) = true := decide_eq_true (by omega)
      have HN : Hid (R = false) := hide (by rw [HR.out, decide_eq_false hn]; rfl)
      clear HR hn
      go_wp2_with fail
      go_ret
      rw [HN.out]
      exact ⟨rfl, H3.out.2⟩
end Go.Proofs.YtbcadeikdmlpoaaDoor
