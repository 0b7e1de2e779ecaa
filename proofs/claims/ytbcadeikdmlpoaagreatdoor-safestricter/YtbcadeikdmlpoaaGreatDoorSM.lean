/-
  Styles: parts, what of them may stay, and what is laid out of them, in the words of the plain mathematics.
-/
import Derived.Test.YtbcadeikdmlpoaaGreatDoorMath
import Derived.Lib.SlTrimSet
namespace Sty
open Go
open Utf1

abbrev L := List UInt8
def cutset : L := [9, 10, 12, 13, 32]
def okc (c : UInt8) : Bool := decide ((97 ≤ c.toNat ∧ c.toNat ≤ 122) ∨ (48 ≤ c.toNat ∧ c.toNat ≤ 57) ∨ c.toNat = 32 ∨ c.toNat = 35 ∨ c.toNat = 37 ∨ c.toNat = 46 ∨ c.toNat = 44 ∨ c.toNat = 45)
/-- A value that may stay. -/
def okv (l : L) : Bool := decide (1 ≤ l.length ∧ l.length ≤ 100 ∧ l.head? ≠ some 32 ∧ l.getLast? ≠ some 32) && l.all okc
/-- Without the blanks around, in small letters. -/
def pl (l : L) : L := lower (Lib.trimS l cutset)

def segs : L → List L
  | [] => [[]]
  | b :: l => if b = 59 then [] :: segs l else
    match segs l with
    | [] => [[b]]
    | x :: r => (b :: x) :: r
theorem segs_ne (l : L) : segs l ≠ [] := by
  cases l with
  | nil => simp [segs]
  | cons b l =>
    unfold segs
    split
    · simp
    · split <;> simp
theorem segs_end : ∀ (p : L), (59 : UInt8) ∉ p → segs p = [p]
  | [], _ => rfl
  | b :: p, h => by
    have hb : b ≠ 59 := fun e => h (by simp [e])
    have hp : (59 : UInt8) ∉ p := fun e => h (by simp [e])
    rw [segs, if_neg hb, segs_end p hp]
theorem segs_app : ∀ (a r : L), segs (a ++ 59 :: r) = segs a ++ segs r
  | [], r => by simp [segs]
  | b :: a, r => by
    by_cases hb : b = 59
    · rw [List.cons_append, segs, if_pos hb, segs, if_pos hb, segs_app a r, List.cons_append]
    · rw [List.cons_append, segs, if_neg hb, segs, if_neg hb, segs_app a r]
      cases h : segs a with
      | nil => exact absurd h (segs_ne a)
      | cons x q => simp
theorem segs_semi (p r : L) (h : (59 : UInt8) ∉ p) : segs (p ++ 59 :: r) = p :: segs r := by
  rw [segs_app, segs_end p h]
  rfl

/-- A part's name and value, if it has both. -/
def part : L → Option (L × L)
  | [] => none
  | b :: l => if b = 58 then some ([], l) else (part l).map fun x => (b :: x.1, x.2)
theorem part_none : ∀ (p : L), (58 : UInt8) ∉ p → part p = none
  | [], _ => rfl
  | b :: p, h => by
    have hb : b ≠ 58 := fun e => h (by simp [e])
    have hp : (58 : UInt8) ∉ p := fun e => h (by simp [e])
    rw [part, if_neg hb, part_none p hp]
    rfl
theorem part_some : ∀ (a b : L), (58 : UInt8) ∉ a → part (a ++ 58 :: b) = some (a, b)
  | [], b, _ => by simp [part]
  | c :: a, b, h => by
    have hb : c ≠ 58 := fun e => h (by simp [e])
    have hp : (58 : UInt8) ∉ a := fun e => h (by simp [e])
    rw [List.cons_append, part, if_neg hb, part_some a b hp]
    rfl
theorem part_len : ∀ (p a b : L), part p = some (a, b) → a.length + b.length + 1 = p.length
  | [], a, b, h => by simp [part] at h
  | c :: p, a, b, h => by
    rw [part] at h
    by_cases hc : c = 58
    · rw [if_pos hc] at h
      simp at h
      obtain ⟨rfl, rfl⟩ := h
      simp
    · rw [if_neg hc] at h
      cases hp : part p with
      | none => rw [hp] at h; simp at h
      | some x =>
        rw [hp] at h
        simp at h
        obtain ⟨rfl, rfl⟩ := h
        have := part_len p x.1 x.2 hp
        simp
        omega

abbrev NV := L × L
def pp (p : L) : Option NV := (part p).map fun x => (pl x.1, pl x.2)
def keep (props : List L) (x : NV) : Bool := decide (x.1 ∈ props) && okv x.2
/-- The parts of a style that have both. -/
def prts (s : L) : List NV := (segs s).filterMap pp
def stay (props : List L) (s : L) : List NV := (prts s).filter (keep props)
/-- Of one name the last alone. -/
def lastOnly : List NV → List NV
  | [] => []
  | x :: r => if x.1 ∈ r.map Prod.fst then lastOnly r else x :: lastOnly r
def emit (acc : L) (x : NV) : L := (if acc = [] then [] else acc ++ [59, 32]) ++ x.1 ++ [58, 32] ++ x.2
def filt (props : List L) (s : L) : L := (lastOnly (stay props s)).foldl emit []

/-- Of parts at places: what is laid out of the first k. -/
def isLast (st : List NV) (i : Nat) : Prop := ∀ k x y, i < k → st[k]? = some x → st[i]? = some y → x.1 ≠ y.1
open Classical in
noncomputable def outTo (st : List NV) : Nat → L
  | 0 => []
  | i + 1 => if isLast st i then match st[i]? with
      | some x => emit (outTo st i) x
      | none => outTo st i
    else outTo st i

open Classical in
theorem outTo_from (st : List NV) : ∀ (suf : List NV) (i : Nat), st.drop i = suf → outTo st st.length = (lastOnly suf).foldl emit (outTo st i) ∨ st.length < i
  | [], i, h => by
    have hi : st.length ≤ i := by simpa using h
    by_cases e : i = st.length
    · left; subst e; rfl
    · right; omega
  | x :: suf, i, h => by
    left
    have hi : i < st.length := by
      have := congrArg List.length h
      simp at this
      omega
    have hx : st[i]? = some x := by
      have := congrArg List.head? h
      rw [List.head?_drop] at this
      simpa using this
    have hd : st.drop (i + 1) = suf := by
      have := congrArg List.tail h
      rw [List.tail_drop] at this
      simpa using this
    have ih := (outTo_from st suf (i + 1) hd).resolve_right (by omega)
    have key : isLast st i ↔ x.1 ∉ suf.map Prod.fst := by
      constructor
      · intro hl hm
        obtain ⟨y, hy, e⟩ := List.mem_map.1 hm
        obtain ⟨j, hj⟩ := List.mem_iff_getElem?.1 hy
        rw [← hd, List.getElem?_drop] at hj
        exact hl (i + 1 + j) y x (by omega) hj hx e
      · intro hm k a b hk ha hb e
        rw [hx] at hb
        cases hb
        apply hm
        refine List.mem_map.2 ⟨a, ?_, e⟩
        rw [← hd]
        refine List.mem_iff_getElem?.2 ⟨k - (i + 1), ?_⟩
        rw [List.getElem?_drop, show i + 1 + (k - (i + 1)) = k by omega]
        exact ha
    rw [ih, outTo, lastOnly, hx]
    by_cases hl : isLast st i
    · rw [if_pos hl, if_neg (key.1 hl)]
      rfl
    · rw [if_neg hl, if_pos (by
        by_cases hm : x.1 ∈ suf.map Prod.fst
        · exact hm
        · exact absurd (key.2 hm) hl)]
theorem outTo_all (st : List NV) : outTo st st.length = (lastOnly st).foldl emit [] := by
  rcases outTo_from st st 0 rfl with h | h
  · exact h
  · exact absurd h (by omega)
theorem outTo_last (st : List NV) (i : Nat) (x : NV) (h : isLast st i) (hx : st[i]? = some x) : outTo st (i + 1) = emit (outTo st i) x := by
  rw [outTo, if_pos h, hx]
theorem outTo_skip (st : List NV) (i : Nat) (h : ¬ isLast st i) : outTo st (i + 1) = outTo st i := by
  rw [outTo, if_neg h]
theorem isLast_none (st : List NV) (i : Nat) (h : ∀ k x y, i < k → st[k]? = some x → st[i]? = some y → x.1 ≠ y.1) : isLast st i := h

/-! Sizes. -/
theorem dropWhile_len (f : UInt8 → Bool) : ∀ l : L, (l.dropWhile f).length ≤ l.length
  | [] => Nat.le_refl _
  | b :: l => by
    rw [List.dropWhile_cons]
    split
    · have := dropWhile_len f l
      simp
      omega
    · exact Nat.le_refl _
theorem trimS_len (l cs : L) : (Lib.trimS l cs).length ≤ l.length := by
  unfold Lib.trimS Lib.trimLeftS Lib.trimRightS
  refine Nat.le_trans (dropWhile_len _ _) ?_
  rw [List.length_reverse]
  refine Nat.le_trans (dropWhile_len _ _) ?_
  rw [List.length_reverse]
  exact Nat.le_refl _
theorem lower_len (l : L) : (lower l).length = l.length := by simp [lower]
theorem pl_len (l : L) : (pl l).length ≤ l.length := by
  unfold pl
  rw [lower_len]
  exact trimS_len _ _
def wt (l : List NV) : Nat := (l.map fun x => x.1.length + x.2.length + 4).sum
theorem segs_len : ∀ s : L, ((segs s).map fun p => p.length + 1).sum = s.length + 1
  | [] => by simp [segs]
  | b :: s => by
    have ih := segs_len s
    rw [segs]
    split
    · simp
      omega
    · split
      · rename_i h; exact absurd h (segs_ne s)
      · rename_i x r h
        rw [h] at ih
        simp at ih ⊢
        omega
theorem prts_wt_aux : ∀ ps : List L, wt (ps.filterMap pp) ≤ 3 * ((ps.map fun p => p.length + 1).sum)
  | [] => by simp [wt]
  | p :: ps => by
    have ih := prts_wt_aux ps
    cases h : pp p with
    | none =>
      rw [List.filterMap_cons_none h]
      simp
      omega
    | some x =>
      rw [List.filterMap_cons_some h]
      have hx : x.1.length + x.2.length + 1 ≤ p.length := by
        unfold pp at h
        cases hp : part p with
        | none => rw [hp] at h; simp at h
        | some y =>
          rw [hp] at h
          simp at h
          subst h
          have := part_len p y.1 y.2 hp
          have h1 := pl_len y.1
          have h2 := pl_len y.2
          simp
          omega
      unfold wt at ih ⊢
      simp
      omega
theorem prts_wt (s : L) : wt (prts s) ≤ 3 * (s.length + 1) := by
  rw [← segs_len s]
  exact prts_wt_aux _
theorem wt_filter (f : NV → Bool) : ∀ l : List NV, wt (l.filter f) ≤ wt l
  | [] => Nat.le_refl _
  | x :: l => by
    have ih := wt_filter f l
    rw [List.filter_cons]
    unfold wt at ih ⊢
    split <;> simp <;> omega
theorem wt_last : ∀ l : List NV, wt (lastOnly l) ≤ wt l
  | [] => Nat.le_refl _
  | x :: l => by
    have ih := wt_last l
    rw [lastOnly]
    unfold wt at ih ⊢
    split <;> simp <;> omega
theorem emit_len (acc : L) (x : NV) : (emit acc x).length ≤ acc.length + (x.1.length + x.2.length + 4) := by
  unfold emit
  split
  · simp; omega
  · simp; omega
theorem fold_len : ∀ (l : List NV) (acc : L), (l.foldl emit acc).length ≤ acc.length + wt l
  | [], acc => by simp [wt]
  | x :: l, acc => by
    have ih := fold_len l (emit acc x)
    have := emit_len acc x
    rw [List.foldl_cons]
    unfold wt at ih ⊢
    simp
    omega
theorem filt_len (props : List L) (s : L) : (filt props s).length ≤ 3 * (s.length + 1) := by
  unfold filt
  have h1 := fold_len (lastOnly (stay props s)) []
  have h2 := wt_last (stay props s)
  have h3 := wt_filter (keep props) (prts s)
  have h4 := prts_wt s
  unfold stay at *
  simp at h1
  omega
theorem outTo_len (st : List NV) : ∀ i, (outTo st i).length ≤ wt (st.take i)
  | 0 => by simp [outTo, wt]
  | i + 1 => by
    have ih := outTo_len st i
    have hmon : wt (st.take i) ≤ wt (st.take (i + 1)) := by
      rw [List.take_add_one]
      unfold wt
      simp
    by_cases hl : isLast st i
    · cases hx : st[i]? with
      | none =>
        have : outTo st (i + 1) = outTo st i := by rw [outTo, if_pos hl, hx]
        rw [this]
        omega
      | some x =>
        rw [outTo_last st i x hl hx]
        have := emit_len (outTo st i) x
        have hw : wt (st.take (i + 1)) = wt (st.take i) + (x.1.length + x.2.length + 4) := by
          rw [List.take_add_one, hx]
          unfold wt
          simp
        omega
    · rw [outTo_skip st i hl]
      omega
theorem wt_take (st : List NV) (i : Nat) : wt (st.take i) ≤ wt st := by
  have h : wt st = wt (st.take i) + wt (st.drop i) := by
    have := congrArg wt (List.take_append_drop i st).symm
    rw [this]
    unfold wt
    rw [List.map_append, List.sum_append]
  omega

/-! Good parts: what is laid out of them is read as they are. -/
structure Good (x : NV) : Prop where
  n58 : (58 : UInt8) ∉ x.1
  n59 : (59 : UInt8) ∉ x.1
  v59 : (59 : UInt8) ∉ x.2
  pn : pl x.1 = x.1
  pn' : pl (32 :: x.1) = x.1
  pv : pl (32 :: x.2) = x.2
theorem pp_item (x : NV) (h : Good x) : pp (x.1 ++ [58, 32] ++ x.2) = some x := by
  unfold pp
  rw [show x.1 ++ [58, 32] ++ x.2 = x.1 ++ 58 :: (32 :: x.2) by simp, part_some _ _ h.n58]
  simp [h.pn, h.pv]
theorem pp_item' (x : NV) (h : Good x) : pp (32 :: (x.1 ++ [58, 32] ++ x.2)) = some x := by
  unfold pp
  rw [show 32 :: (x.1 ++ [58, 32] ++ x.2) = (32 :: x.1) ++ 58 :: (32 :: x.2) by simp, part_some _ _ (by
    intro e
    rcases List.mem_cons.1 e with e | e
    · exact absurd e (by decide)
    · exact h.n58 e)]
  simp [h.pn', h.pv]
theorem item_59 (x : NV) (h : Good x) : (59 : UInt8) ∉ x.1 ++ [58, 32] ++ x.2 := by
  intro e
  rw [List.mem_append, List.mem_append] at e
  rcases e with (e | e) | e
  · exact h.n59 e
  · revert e; decide
  · exact h.v59 e
theorem prts_app (a b : L) : prts (a ++ 59 :: b) = prts a ++ prts b := by
  unfold prts
  rw [segs_app, List.filterMap_append]
theorem prts_one (p : L) (h : (59 : UInt8) ∉ p) (x : NV) (hx : pp p = some x) : prts p = [x] := by
  unfold prts
  rw [segs_end p h, List.filterMap_cons_some hx]
  rfl
theorem emit_ne (acc : L) (x : NV) : emit acc x ≠ [] := by
  unfold emit
  intro h
  have := congrArg List.length h
  simp at this
theorem prts_fold : ∀ (l : List NV) (acc : L), (∀ x ∈ l, Good x) → acc ≠ [] → prts (l.foldl emit acc) = prts acc ++ l
  | [], acc, _, _ => by simp
  | x :: l, acc, hg, hn => by
    have hx := hg x (by simp)
    rw [List.foldl_cons, prts_fold l (emit acc x) (fun y hy => hg y (by simp [hy])) (emit_ne acc x)]
    have : emit acc x = acc ++ 59 :: (32 :: (x.1 ++ [58, 32] ++ x.2)) := by
      unfold emit
      rw [if_neg hn]
      simp
    rw [this, prts_app, prts_one (32 :: (x.1 ++ [58, 32] ++ x.2)) (by
      intro e
      rcases List.mem_cons.1 e with e | e
      · exact absurd e (by decide)
      · exact item_59 x hx e) x (pp_item' x hx)]
    simp
theorem prts_all (l : List NV) (hg : ∀ x ∈ l, Good x) : prts (l.foldl emit []) = l := by
  cases l with
  | nil => simp [prts, segs, pp, part]
  | cons x l =>
    have hx := hg x (by simp)
    rw [List.foldl_cons, prts_fold l (emit [] x) (fun y hy => hg y (by simp [hy])) (emit_ne [] x)]
    have : emit [] x = x.1 ++ [58, 32] ++ x.2 := by simp [emit]
    rw [this, prts_one _ (item_59 x hx) x (pp_item x hx)]
    rfl

/-! Filtering behind. -/
theorem last_mem : ∀ (l : List NV) (x : NV), x ∈ lastOnly l → x ∈ l
  | [], x, h => by simp [lastOnly] at h
  | y :: l, x, h => by
    rw [lastOnly] at h
    split at h
    · exact List.mem_cons_of_mem _ (last_mem l x h)
    · rcases List.mem_cons.1 h with h | h
      · simp [h]
      · exact List.mem_cons_of_mem _ (last_mem l x h)
theorem last_fst : ∀ (l : List NV) (n : L), n ∈ (lastOnly l).map Prod.fst ↔ n ∈ l.map Prod.fst
  | [], n => by simp [lastOnly]
  | y :: l, n => by
    have ih := last_fst l n
    rw [lastOnly]
    split
    · rename_i hy
      rw [ih, List.map_cons, List.mem_cons]
      constructor
      · intro h; exact Or.inr h
      · rintro (h | h)
        · rw [h]; exact hy
        · exact h
    · rw [List.map_cons, List.map_cons, List.mem_cons, List.mem_cons, ih]
theorem last_last : ∀ l : List NV, lastOnly (lastOnly l) = lastOnly l
  | [] => rfl
  | y :: l => by
    have ih := last_last l
    by_cases hy : y.1 ∈ l.map Prod.fst
    · rw [lastOnly, if_pos hy, ih]
    · rw [lastOnly, if_neg hy, lastOnly, if_neg (by rw [last_fst]; exact hy), ih]
theorem last_filter (f : L → Bool) : ∀ l : List NV, lastOnly (l.filter fun x => f x.1) = (lastOnly l).filter fun x => f x.1
  | [] => rfl
  | y :: l => by
    have ih := last_filter f l
    have hm : f y.1 = true → (y.1 ∈ (l.filter fun x => f x.1).map Prod.fst ↔ y.1 ∈ l.map Prod.fst) := by
      intro hf
      constructor
      · intro h
        obtain ⟨z, hz, e⟩ := List.mem_map.1 h
        exact List.mem_map.2 ⟨z, (List.mem_filter.1 hz).1, e⟩
      · intro h
        obtain ⟨z, hz, e⟩ := List.mem_map.1 h
        exact List.mem_map.2 ⟨z, List.mem_filter.2 ⟨hz, by show f z.1 = true; rw [e]; exact hf⟩, e⟩
    by_cases hf : f y.1 = true
    · rw [List.filter_cons_of_pos (by exact hf), lastOnly]
      by_cases hy : y.1 ∈ l.map Prod.fst
      · rw [if_pos ((hm hf).2 hy), lastOnly, if_pos hy, ih]
      · rw [if_neg (fun h => hy ((hm hf).1 h)), lastOnly, if_neg hy, List.filter_cons_of_pos (by exact hf), ih]
    · rw [List.filter_cons_of_neg (by exact hf), lastOnly]
      by_cases hy : y.1 ∈ l.map Prod.fst
      · rw [if_pos hy, ih]
      · rw [if_neg hy, List.filter_cons_of_neg (by exact hf), ih]

/-- A name: a small letter, and such and - behind it. -/
def nmc (c : UInt8) : Bool := decide ((97 ≤ c.toNat ∧ c.toNat ≤ 122) ∨ c.toNat = 45)
def isName (l : L) : Bool := l.all nmc && decide (l ≠ [] ∧ l.head? ≠ some 45)

theorem trim_id (l : L) (h1 : ∀ b, l.head? = some b → cutset.contains b = false) (h2 : ∀ b, l.getLast? = some b → cutset.contains b = false) : Lib.trimS l cutset = l := by
  have hr : Lib.trimRightS l cutset = l := by
    unfold Lib.trimRightS
    cases h : l.reverse with
    | nil => have := congrArg List.reverse h; simpa using this.symm
    | cons b r =>
      have hb : l.getLast? = some b := by rw [← List.head?_reverse, h]; rfl
      rw [List.dropWhile_cons, if_neg (by rw [h2 b hb]; decide), ← h, List.reverse_reverse]
  unfold Lib.trimS
  rw [hr]
  unfold Lib.trimLeftS
  cases l with
  | nil => rfl
  | cons b r => rw [List.dropWhile_cons, if_neg (by rw [h1 b rfl]; decide)]
theorem lower_id (l : L) (h : ∀ b ∈ l, ¬ (65 ≤ b.toNat ∧ b.toNat ≤ 90)) : lower l = l := by
  unfold lower
  conv => rhs; rw [← List.map_id l]
  apply List.map_congr_left
  intro b hb
  unfold low8
  rw [if_neg (h b hb)]
  rfl
theorem dw_all (f : UInt8 → Bool) (a r : L) (ha : ∀ b ∈ a, f b = true) : (a ++ r).dropWhile f = r.dropWhile f := by
  induction a with
  | nil => rfl
  | cons b a ih =>
    rw [List.cons_append, List.dropWhile_cons, if_pos (ha b (by simp))]
    exact ih fun c hc => ha c (by simp [hc])
theorem trim_around (a l z : L) (hl : l ≠ []) (ha : ∀ b ∈ a, cutset.contains b = true) (hz : ∀ b ∈ z, cutset.contains b = true) (h : Lib.trimS l cutset = l) (h1 : ∀ b, l.head? = some b → cutset.contains b = false) (h2 : ∀ b, l.getLast? = some b → cutset.contains b = false) : Lib.trimS (a ++ l ++ z) cutset = l := by
  have hr : Lib.trimRightS (a ++ l ++ z) cutset = a ++ l := by
    unfold Lib.trimRightS
    rw [List.reverse_append, dw_all _ z.reverse _ (fun b hb => hz b (List.mem_reverse.1 hb)), List.reverse_append]
    cases hc : l.reverse with
    | nil => exact absurd (by have := congrArg List.reverse hc; simpa using this) hl
    | cons b r =>
      have hb : l.getLast? = some b := by rw [← List.head?_reverse, hc]; rfl
      rw [List.cons_append, List.dropWhile_cons, if_neg (by rw [h2 b hb]; decide), ← List.cons_append, ← hc, List.reverse_append, List.reverse_reverse, List.reverse_reverse]
  unfold Lib.trimS
  rw [hr]
  unfold Lib.trimLeftS
  rw [dw_all _ a l ha]
  cases l with
  | nil => rfl
  | cons b r => rw [List.dropWhile_cons, if_neg (by rw [h1 b rfl]; decide)]
theorem set_not (b : UInt8) (h : b.toNat ≠ 9) (h1 : b.toNat ≠ 10) (h2 : b.toNat ≠ 12) (h3 : b.toNat ≠ 13) (h4 : b.toNat ≠ 32) : cutset.contains b = false := by
  unfold cutset
  rw [Bool.eq_false_iff]
  intro e
  have e := List.contains_iff_mem.1 e
  simp at e
  rcases e with rfl | rfl | rfl | rfl | rfl <;> simp at *
theorem okc_not (b : UInt8) (h : okc b = true) (h32 : b ≠ 32) : cutset.contains b = false := by
  have h32' : b.toNat ≠ 32 := fun e => h32 (by have := UInt8.toNat_inj.1 (show b.toNat = (32 : UInt8).toNat from e); exact this)
  have h := of_decide_eq_true h
  exact set_not b (by omega) (by omega) (by omega) (by omega) h32'
theorem nmc_not (b : UInt8) (h : nmc b = true) : cutset.contains b = false := by
  have h := of_decide_eq_true h
  exact set_not b (by omega) (by omega) (by omega) (by omega) (by omega)
theorem okv_ends {v : L} (h : okv v = true) : v ≠ [] ∧ (∀ b ∈ v, okc b = true) ∧ (∀ b, v.head? = some b → cutset.contains b = false) ∧ (∀ b, v.getLast? = some b → cutset.contains b = false) := by
  unfold okv at h
  rw [Bool.and_eq_true, decide_eq_true_eq, List.all_eq_true] at h
  obtain ⟨⟨h1, h2, h3, h4⟩, h5⟩ := h
  refine ⟨fun e => by rw [e] at h1; simp at h1, h5, fun b hb => ?_, fun b hb => ?_⟩
  · exact okc_not b (h5 b (List.mem_of_mem_head? hb)) fun e => h3 (by rw [← e]; exact hb)
  · exact okc_not b (h5 b (List.mem_of_mem_getLast? hb)) fun e => h4 (by rw [← e]; exact hb)
theorem okv_pl {v : L} (h : okv v = true) (a z : L) (ha : ∀ b ∈ a, cutset.contains b = true) (hz : ∀ b ∈ z, cutset.contains b = true) : pl (a ++ v ++ z) = v := by
  obtain ⟨h0, h1, h2, h3⟩ := okv_ends h
  unfold pl
  rw [trim_around a v z h0 ha hz (trim_id v h2 h3) h2 h3]
  refine lower_id v fun b hb => ?_
  have := of_decide_eq_true (h1 b hb)
  omega
theorem isName_all {n : L} (h : isName n = true) : n ≠ [] ∧ ∀ b ∈ n, nmc b = true := by
  unfold isName at h
  rw [Bool.and_eq_true, List.all_eq_true, decide_eq_true_eq] at h
  exact ⟨h.2.1, h.1⟩
theorem name_pl {n : L} (h : isName n = true) (a z : L) (ha : ∀ b ∈ a, cutset.contains b = true) (hz : ∀ b ∈ z, cutset.contains b = true) : pl (a ++ n ++ z) = n := by
  obtain ⟨h0, h1⟩ := isName_all h
  have h2 : ∀ b, n.head? = some b → cutset.contains b = false := fun b hb => nmc_not b (h1 b (List.mem_of_mem_head? hb))
  have h3 : ∀ b, n.getLast? = some b → cutset.contains b = false := fun b hb => nmc_not b (h1 b (List.mem_of_mem_getLast? hb))
  unfold pl
  rw [trim_around a n z h0 ha hz (trim_id n h2 h3) h2 h3]
  refine lower_id n fun b hb => ?_
  have := of_decide_eq_true (h1 b hb)
  omega
theorem good_of {n v : L} (hn : isName n = true) (hv : okv v = true) : Good (n, v) := by
  have c32 : ∀ b ∈ ([32] : L), cutset.contains b = true := by decide
  have c0 : ∀ b ∈ ([] : L), cutset.contains b = true := by simp
  obtain ⟨h0, h1⟩ := isName_all hn
  obtain ⟨_, v1, _, _⟩ := okv_ends hv
  refine ⟨fun e => ?_, fun e => ?_, fun e => ?_, ?_, ?_, ?_⟩
  · have := h1 _ e; revert this; decide
  · have := h1 _ e; revert this; decide
  · have := v1 _ e; revert this; decide
  · have := name_pl hn [] [] c0 c0; simpa using this
  · have := name_pl hn [32] [] c32 c0; simpa using this
  · have := okv_pl hv [32] [] c32 c0; simpa using this

theorem stay_keep {props : List L} {s : L} {x : NV} (h : x ∈ lastOnly (stay props s)) : x.1 ∈ props ∧ okv x.2 = true := by
  have := (List.mem_filter.1 (last_mem _ _ h)).2
  unfold keep at this
  rw [Bool.and_eq_true, decide_eq_true_eq] at this
  exact this
theorem prts_filt {props : List L} (hp : ∀ n ∈ props, isName n = true) (s : L) : prts (filt props s) = lastOnly (stay props s) :=
  prts_all _ fun x hx => good_of (hp x.1 (stay_keep hx).1) (stay_keep hx).2
theorem filt_fewer {props less : List L} (hp : ∀ n ∈ props, isName n = true) (hl : ∀ n ∈ less, n ∈ props) (s : L) : filt less (filt props s) = filt less s := by
  have e : stay less (filt props s) = lastOnly (stay less s) := by
    unfold stay
    rw [prts_filt hp]
    have h1 : (lastOnly (stay props s)).filter (keep less) = (lastOnly (stay props s)).filter fun x => decide (x.1 ∈ less) := by
      apply List.filter_congr
      intro x hx
      unfold keep
      rw [(stay_keep hx).2, Bool.and_true]
    rw [h1, ← last_filter (fun n => decide (n ∈ less))]
    congr 1
    unfold stay
    rw [List.filter_filter]
    apply List.filter_congr
    intro x _
    unfold keep
    by_cases hx : x.1 ∈ less
    · rw [decide_eq_true hx, decide_eq_true (hl _ hx), Bool.true_and, Bool.true_and]
    · rw [decide_eq_false hx]
      simp
  show (lastOnly (stay less (filt props s))).foldl emit [] = (lastOnly (stay less s)).foldl emit []
  rw [e, last_last]
theorem filt_again {props : List L} (hp : ∀ n ∈ props, isName n = true) (s : L) : filt props (filt props s) = filt props s := filt_fewer hp (fun _ h => h) s
theorem filt_none (s : L) : filt [] s = [] := by
  unfold filt stay
  have : (prts s).filter (keep []) = [] := by
    rw [List.filter_eq_nil_iff]
    intro x _
    simp [keep]
  rw [this]
  rfl

/-! No byte that could do harm. -/
def safe (c : UInt8) : Bool := decide ((97 ≤ c.toNat ∧ c.toNat ≤ 122) ∨ (48 ≤ c.toNat ∧ c.toNat ≤ 57) ∨ c.toNat = 32 ∨ c.toNat = 35 ∨ c.toNat = 37 ∨ c.toNat = 46 ∨ c.toNat = 44 ∨ c.toNat = 45 ∨ c.toNat = 58 ∨ c.toNat = 59)
theorem safe_fold : ∀ (l : List NV) (acc : L), (∀ x ∈ l, isName x.1 = true ∧ okv x.2 = true) → (∀ c ∈ acc, safe c = true) → ∀ c ∈ l.foldl emit acc, safe c = true
  | [], acc, _, h => h
  | x :: l, acc, hg, h => by
    obtain ⟨hn, hv⟩ := hg x (by simp)
    refine safe_fold l (emit acc x) (fun y hy => hg y (by simp [hy])) ?_
    have n1 : ∀ c ∈ x.1, safe c = true := fun c hc => by
      have := of_decide_eq_true ((isName_all hn).2 c hc)
      exact decide_eq_true (by omega)
    have v1 : ∀ c ∈ x.2, safe c = true := fun c hc => by
      have := of_decide_eq_true ((okv_ends hv).2.1 c hc)
      exact decide_eq_true (by omega)
    have k1 : ∀ c ∈ ([58, 32] : L), safe c = true := by decide
    have k2 : ∀ c ∈ ([59, 32] : L), safe c = true := by decide
    intro c hc
    unfold emit at hc
    rw [List.mem_append, List.mem_append, List.mem_append] at hc
    rcases hc with ((hc | hc) | hc) | hc
    · split at hc
      · simp at hc
      · rcases List.mem_append.1 hc with hc | hc
        · exact h c hc
        · exact k2 c hc
    · exact n1 c hc
    · exact k1 c hc
    · exact v1 c hc
theorem filt_safe {props : List L} (hp : ∀ n ∈ props, isName n = true) (s : L) : ∀ c ∈ filt props s, safe c = true :=
  safe_fold _ _ (fun x hx => ⟨hp x.1 (stay_keep hx).1, (stay_keep hx).2⟩) (by simp)

/-! One, and two. -/
theorem segs_sub : ∀ (s p : L), p ∈ segs s → ∀ c ∈ p, c ∈ s
  | [], p, h => by simp [segs] at h; subst h; simp
  | b :: s, p, h => by
    rw [segs] at h
    split at h
    · rcases List.mem_cons.1 h with h | h
      · subst h; simp
      · exact fun c hc => List.mem_cons_of_mem _ (segs_sub s p h c hc)
    · split at h
      · rename_i hs; exact absurd hs (segs_ne s)
      · rename_i x r hs
        rcases List.mem_cons.1 h with h | h
        · subst h
          intro c hc
          rcases List.mem_cons.1 hc with hc | hc
          · simp [hc]
          · exact List.mem_cons_of_mem _ (segs_sub s x (by rw [hs]; simp) c hc)
        · exact fun c hc => List.mem_cons_of_mem _ (segs_sub s p (by rw [hs]; simp [h]) c hc)
theorem prts_no (s : L) (h : (58 : UInt8) ∉ s) : prts s = [] := by
  unfold prts
  rw [List.filterMap_eq_nil_iff]
  intro p hp
  unfold pp
  rw [part_none p fun e => h (segs_sub s p hp _ e)]
  rfl
theorem filt_one (n v o : L) (hn : isName n = true) (hv : okv v = true) (ho : (58 : UInt8) ∉ o) : filt [n] (o ++ [59, 32, 9] ++ n ++ [32, 58] ++ v ++ [10, 59] ++ o) = n ++ [58, 32] ++ v := by
  obtain ⟨_, h1⟩ := isName_all hn
  obtain ⟨_, v1, _, _⟩ := okv_ends hv
  have e : o ++ [59, 32, 9] ++ n ++ [32, 58] ++ v ++ [10, 59] ++ o = o ++ 59 :: ((([32, 9] ++ n ++ [32]) ++ 58 :: ([] ++ v ++ [10])) ++ 59 :: o) := by simp
  have hx : pp (([32, 9] ++ n ++ [32]) ++ 58 :: ([] ++ v ++ [10])) = some (n, v) := by
    unfold pp
    rw [part_some _ _ (by
      intro h
      rw [List.mem_append, List.mem_append] at h
      rcases h with (h | h) | h
      · revert h; decide
      · have := h1 _ h; revert this; decide
      · revert h; decide)]
    show some (pl ([32, 9] ++ n ++ [32]), pl ([] ++ v ++ [10])) = _
    rw [name_pl hn [32, 9] [32] (by decide) (by decide), okv_pl hv [] [10] (by simp) (by decide)]
  have h59 : (59 : UInt8) ∉ ([32, 9] ++ n ++ [32]) ++ 58 :: ([] ++ v ++ [10]) := by
    intro h
    simp only [List.mem_append, List.mem_cons, List.nil_append] at h
    rcases h with (((h | h | h) | h) | h | h) | h | h | h | h
    · revert h; decide
    · revert h; decide
    · simp at h
    · have := h1 _ h; revert this; decide
    · revert h; decide
    · simp at h
    · revert h; decide
    · have := v1 _ h; revert this; decide
    · revert h; decide
    · simp at h
  have hk : keep [n] (n, v) = true := by simp [keep, hv]
  unfold filt stay
  rw [e, prts_app, prts_app, prts_no o ho, prts_one _ h59 _ hx]
  simp [hk, lastOnly, emit]
def wid : L := [119, 105, 100, 116, 104]
def col : L := [99, 111, 108, 111, 114]
theorem isName_wid : isName wid = true := by decide
theorem isName_col : isName col = true := by decide
theorem pp_nv {n v : L} (hn : isName n = true) (hv : okv v = true) : pp (n ++ 58 :: v) = some (n, v) ∧ (59 : UInt8) ∉ n ++ 58 :: v := by
  obtain ⟨_, h1⟩ := isName_all hn
  obtain ⟨_, v1, _, _⟩ := okv_ends hv
  constructor
  · unfold pp
    rw [part_some _ _ (fun h => by have := h1 _ h; revert this; decide)]
    have e1 := name_pl hn [] [] (by simp) (by simp)
    have e2 := okv_pl hv [] [] (by simp) (by simp)
    simp at e1 e2
    simp [e1, e2]
  · intro h
    rw [List.mem_append, List.mem_cons] at h
    rcases h with h | h | h
    · have := h1 _ h; revert this; decide
    · revert h; decide
    · have := v1 _ h; revert this; decide
theorem filt_two (a b : L) (ha : okv a = true) (hb : okv b = true) : filt [col, wid] (wid ++ [58] ++ a ++ [59] ++ col ++ [58] ++ b) = wid ++ [58, 32] ++ a ++ [59, 32] ++ col ++ [58, 32] ++ b := by
  have e : wid ++ [58] ++ a ++ [59] ++ col ++ [58] ++ b = (wid ++ 58 :: a) ++ 59 :: (col ++ 58 :: b) := by simp
  have h1 := pp_nv isName_wid ha
  have h2 := pp_nv isName_col hb
  have k1 : keep [col, wid] (wid, a) = true := by simp [keep, ha]
  have k2 : keep [col, wid] (col, b) = true := by simp [keep, hb]
  have hne : wid ≠ col := by decide
  unfold filt stay
  rw [e, prts_app, prts_one _ h1.2 _ h1.1, prts_one _ h2.2 _ h2.1]
  simp only [List.cons_append, List.nil_append, List.filter_cons, k1, k2, if_true, List.filter_nil, lastOnly]
  simp [hne, emit]
theorem filt_twice (a b : L) (ha : okv a = true) (hb : okv b = true) : filt [col, wid] (col ++ [58] ++ a ++ [59] ++ col ++ [58] ++ b) = col ++ [58, 32] ++ b := by
  have e : col ++ [58] ++ a ++ [59] ++ col ++ [58] ++ b = (col ++ 58 :: a) ++ 59 :: (col ++ 58 :: b) := by simp
  have h1 := pp_nv isName_col ha
  have h2 := pp_nv isName_col hb
  have k1 : keep [col, wid] (col, a) = true := by simp [keep, ha]
  have k2 : keep [col, wid] (col, b) = true := by simp [keep, hb]
  unfold filt stay
  rw [e, prts_app, prts_one _ h1.2 _ h1.1, prts_one _ h2.2 _ h2.1]
  simp only [List.cons_append, List.nil_append, List.filter_cons, k1, k2, if_true, List.filter_nil, lastOnly]
  simp [emit]
end Sty
