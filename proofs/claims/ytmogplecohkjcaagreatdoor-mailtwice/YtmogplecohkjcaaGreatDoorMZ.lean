/-
  Policies: which may be, their texts, which text is a policy's, which is stricter, in the words of the plain mathematics.
-/
import Derived.Test.YtmogplecohkjcaaGreatDoorMath
import Derived.Lib.AtoiAll
import Derived.Lib.ItoaNum
namespace Pol8
open Go

abbrev L := List UInt8
def lt (a b : L) : Bool := Op.bytesLess a b
theorem lt_irr : ∀ a : L, lt a a = false
  | [] => rfl
  | x :: a => by
    have ih := lt_irr a
    unfold lt at ih ⊢
    simp [Op.bytesLess, ih]
theorem lt_trans : ∀ a b c : L, lt a b = true → lt b c = true → lt a c = true
  | _, [], _, h, _ => by unfold lt at h; simp [Op.bytesLess] at h
  | _, _ :: _, [], _, h => by unfold lt at h; simp [Op.bytesLess] at h
  | [], _ :: _, _ :: _, _, _ => by unfold lt; simp [Op.bytesLess]
  | x :: a, y :: b, z :: c, h1, h2 => by
    unfold lt at h1 h2 ⊢
    simp only [Op.bytesLess, Bool.or_eq_true, decide_eq_true_eq, Bool.and_eq_true, beq_iff_eq] at h1 h2 ⊢
    rcases h1 with h1 | ⟨rfl, h1⟩
    · rcases h2 with h2 | ⟨rfl, _⟩
      · exact .inl (UInt8.lt_trans h1 h2)
      · exact .inl h1
    · rcases h2 with h2 | ⟨rfl, h2⟩
      · exact .inl h2
      · exact .inr ⟨rfl, lt_trans a b c h1 h2⟩

def sm (c : UInt8) : Bool := decide (97 ≤ c.toNat ∧ c.toNat ≤ 122)
def wc (c : UInt8) : Bool := decide ((97 ≤ c.toNat ∧ c.toNat ≤ 122) ∨ (48 ≤ c.toNat ∧ c.toNat ≤ 57) ∨ c.toNat = 45)
/-- A word. -/
def isWord (l : L) : Bool := decide (1 ≤ l.length ∧ l.length ≤ 32) && (l.all wc && l.head?.any sm)
def chain : List L → Bool
  | [] => true
  | [_] => true
  | a :: b :: r => lt a b && chain (b :: r)
/-- A list that is right. -/
def rises (l : List L) : Bool := chain l && decide (l.length ≤ 64)
def words (l : List L) : Bool := l.all isWord && rises l
def rawL : List L := [[115, 99, 114, 105, 112, 116], [115, 116, 121, 108, 101], [120, 109, 112], [105, 102, 114, 97, 109, 101], [110, 111, 101, 109, 98, 101, 100], [110, 111, 102, 114, 97, 109, 101, 115], [112, 108, 97, 105, 110, 116, 101, 120, 116]]
def rcL : List L := [[116, 101, 120, 116, 97, 114, 101, 97], [116, 105, 116, 108, 101]]
def isRaw (s : L) : Bool := decide (s ∈ rawL) || decide (s ∈ rcL)
def neverL : List L := [[98, 97, 115, 101], [101, 109, 98, 101, 100], [102, 111, 114, 109], [105, 110, 112, 117, 116], [108, 105, 110, 107], [109, 97, 116, 104], [109, 101, 116, 97], [111, 98, 106, 101, 99, 116], [112, 97, 114, 97, 109], [115, 101, 108, 101, 99, 116], [115, 118, 103], [116, 101, 109, 112, 108, 97, 116, 101], [110, 111, 115, 99, 114, 105, 112, 116], [102, 114, 97, 109, 101], [102, 114, 97, 109, 101, 115, 101, 116]]
def never (s : L) : Bool := isRaw s || decide (s ∈ neverL)
/-- A text, parted at the first point. -/
def dot : L → Option (L × L)
  | [] => none
  | b :: l => if b = 46 then some ([], l) else (dot l).map fun x => (b :: x.1, x.2)
theorem dot_none : ∀ (p : L), (46 : UInt8) ∉ p → dot p = none
  | [], _ => rfl
  | b :: p, h => by
    have hb : b ≠ 46 := fun e => h (by simp [e])
    have hp : (46 : UInt8) ∉ p := fun e => h (by simp [e])
    rw [dot, if_neg hb, dot_none p hp]
    rfl
theorem dot_some : ∀ (a b : L), (46 : UInt8) ∉ a → dot (a ++ 46 :: b) = some (a, b)
  | [], b, _ => by simp [dot]
  | c :: a, b, h => by
    have hb : c ≠ 46 := fun e => h (by simp [e])
    have hp : (46 : UInt8) ∉ a := fun e => h (by simp [e])
    rw [List.cons_append, dot, if_neg hb, dot_some a b hp]
    rfl
theorem dot_is : ∀ (p a b : L), dot p = some (a, b) → p = a ++ 46 :: b ∧ (46 : UInt8) ∉ a
  | [], a, b, h => by simp [dot] at h
  | c :: p, a, b, h => by
    rw [dot] at h
    by_cases hc : c = 46
    · rw [if_pos hc] at h
      simp at h
      obtain ⟨rfl, rfl⟩ := h
      subst hc
      simp
    · rw [if_neg hc] at h
      cases hp : dot p with
      | none => rw [hp] at h; simp at h
      | some x =>
        rw [hp] at h
        simp at h
        obtain ⟨rfl, rfl⟩ := h
        obtain ⟨e, hn⟩ := dot_is p x.1 x.2 hp
        refine ⟨by rw [List.cons_append, ← e], ?_⟩
        intro hm
        rcases List.mem_cons.1 hm with hm | hm
        · exact hc hm.symm
        · exact hn hm
def isOn (a : L) : Bool := decide (a.take 2 = [111, 110])
def srcdoc : L := [115, 114, 99, 100, 111, 99]
def formaction : L := [102, 111, 114, 109, 97, 99, 116, 105, 111, 110]
def style : L := [115, 116, 121, 108, 101]
/-- A word that may be an attribute's. -/
def may (a : L) : Bool := isWord a && (!isOn a && decide (a ≠ srcdoc ∧ a ≠ formaction ∧ a ≠ style))
def attrOk (el : List L) (s : L) : Bool := match dot s with
  | none => false
  | some (n, a) => decide (n = [42] ∨ n ∈ el) && may a

structure Pol where
  ep : Int
  el : List L
  at_ : List L
  sc : List L
  cl : List L
  pr : List L
  dp : Int
  nd : Int
  bt : Int
def Pol.zero : Pol := ⟨0, [], [], [], [], [], 0, 0, 0⟩
theorem Pol.ext' {p q : Pol} (h1 : p.ep = q.ep) (h2 : p.el = q.el) (h3 : p.at_ = q.at_) (h4 : p.sc = q.sc) (h5 : p.cl = q.cl) (h6 : p.pr = q.pr) (h7 : p.dp = q.dp) (h8 : p.nd = q.nd) (h9 : p.bt = q.bt) : p = q := by
  cases p
  cases q
  simp at *
  exact ⟨h1, h2, h3, h4, h5, h6, h7, h8, h9⟩
def li : L := [108, 105]
def ul : L := [117, 108]
def ol : L := [111, 108]
def js : L := [106, 97, 118, 97, 115, 99, 114, 105, 112, 116]
def dat : L := [100, 97, 116, 97]
def vbs : L := [118, 98, 115, 99, 114, 105, 112, 116]
def caps (p : Pol) : Bool := decide ((1 ≤ p.ep ∧ p.ep ≤ 1000000) ∧ (1 ≤ p.dp ∧ p.dp ≤ 64) ∧ (1 ≤ p.nd ∧ p.nd ≤ 2000) ∧ (1 ≤ p.bt ∧ p.bt ≤ 16384))
/-- A policy that may be. -/
def right (p : Pol) : Bool := caps p && ((words p.el && (rises p.at_ && (words p.sc && (words p.cl && words p.pr)))) && (p.el.all (fun e => !never e) && (p.at_.all (attrOk p.el) && (decide (li ∈ p.el → ul ∈ p.el ∧ ol ∈ p.el) && decide (js ∉ p.sc ∧ dat ∉ p.sc ∧ vbs ∉ p.sc)))))
structure Right (p : Pol) : Prop where
  c : (1 ≤ p.ep ∧ p.ep ≤ 1000000) ∧ (1 ≤ p.dp ∧ p.dp ≤ 64) ∧ (1 ≤ p.nd ∧ p.nd ≤ 2000) ∧ (1 ≤ p.bt ∧ p.bt ≤ 16384)
  el : words p.el = true
  at_ : rises p.at_ = true
  sc : words p.sc = true
  cl : words p.cl = true
  pr : words p.pr = true
  nv : ∀ e ∈ p.el, never e = false
  ao : ∀ a ∈ p.at_, attrOk p.el a = true
  ll : li ∈ p.el → ul ∈ p.el ∧ ol ∈ p.el
  ss : js ∉ p.sc ∧ dat ∉ p.sc ∧ vbs ∉ p.sc
theorem right_iff (p : Pol) : right p = true ↔ Right p := by
  unfold right caps
  simp only [Bool.and_eq_true, decide_eq_true_eq, List.all_eq_true, Bool.not_eq_true']
  constructor
  · rintro ⟨h1, ⟨h2, h3, h4, h5, h6⟩, h7, h8, h9, h10⟩
    exact ⟨h1, h2, h3, h4, h5, h6, h7, h8, h9, h10⟩
  · rintro ⟨h1, h2, h3, h4, h5, h6, h7, h8, h9, h10⟩
    exact ⟨h1, ⟨h2, h3, h4, h5, h6⟩, h7, h8, h9, h10⟩

/-- A number's digits. -/
def dec (n : Nat) : L := if h : n < 10 then [UInt8.ofNat (48 + n)] else dec (n / 10) ++ [UInt8.ofNat (48 + n % 10)]
decreasing_by omega
def ln (head x : L) : L := head ++ [32] ++ x ++ [10]
def lns (head : L) : List L → L
  | [] => []
  | x :: r => ln head x ++ lns head r
def kEpoch : L := [101, 112, 111, 99, 104]
def kElem : L := [101, 108, 101, 109]
def kAttr : L := [97, 116, 116, 114]
def kScheme : L := [115, 99, 104, 101, 109, 101]
def kClass : L := [99, 108, 97, 115, 115]
def kProp : L := [112, 114, 111, 112]
def kCaps : L := [99, 97, 112, 115]
def text (p : Pol) : L := kEpoch ++ [32] ++ dec p.ep.toNat ++ [10] ++ lns kElem p.el ++ lns kAttr p.at_ ++ lns kScheme p.sc ++ lns kClass p.cl ++ lns kProp p.pr ++ kCaps ++ [32] ++ dec p.dp.toNat ++ [32] ++ dec p.nd.toNat ++ [32] ++ dec p.bt.toNat ++ [10]

/-- A text's parts between bytes. -/
def segs (c : UInt8) : L → List L
  | [] => [[]]
  | b :: l => if b = c then [] :: segs c l else
    match segs c l with
    | [] => [[b]]
    | x :: r => (b :: x) :: r
theorem segs_ne (c : UInt8) (l : L) : segs c l ≠ [] := by
  cases l with
  | nil => simp [segs]
  | cons b l =>
    unfold segs
    split
    · simp
    · split <;> simp
theorem segs_end (c : UInt8) : ∀ (p : L), c ∉ p → segs c p = [p]
  | [], _ => rfl
  | b :: p, h => by
    have hb : b ≠ c := fun e => h (by simp [e])
    have hp : c ∉ p := fun e => h (by simp [e])
    rw [segs, if_neg hb, segs_end c p hp]
theorem segs_app (c : UInt8) : ∀ (a r : L), segs c (a ++ c :: r) = segs c a ++ segs c r
  | [], r => by simp [segs]
  | b :: a, r => by
    by_cases hb : b = c
    · rw [List.cons_append, segs, if_pos hb, segs, if_pos hb, segs_app c a r, List.cons_append]
    · rw [List.cons_append, segs, if_neg hb, segs, if_neg hb, segs_app c a r]
      cases h : segs c a with
      | nil => exact absurd h (segs_ne c a)
      | cons x q => simp
theorem segs_semi (c : UInt8) (p r : L) (h : c ∉ p) : segs c (p ++ c :: r) = p :: segs c r := by
  rw [segs_app, segs_end c p h]
  rfl
theorem segs_len (c : UInt8) : ∀ s : L, ((segs c s).map fun p => p.length + 1).sum = s.length + 1
  | [] => by simp [segs]
  | b :: s => by
    have ih := segs_len c s
    rw [segs]
    split
    · simp
      omega
    · split
      · rename_i h; exact absurd h (segs_ne c s)
      · rename_i x r h
        rw [h] at ih
        simp at ih ⊢
        omega
theorem seg_len (c : UInt8) (s p : L) (h : p ∈ segs c s) : p.length ≤ s.length := by
  have h1 := segs_len c s
  have h2 : p.length + 1 ≤ ((segs c s).map fun p => p.length + 1).sum := by
    clear h1
    generalize segs c s = l at h
    induction l with
    | nil => cases h
    | cons x r ih =>
      rcases List.mem_cons.1 h with h | h
      · subst h; simp
      · have := ih h; simp; omega
  omega
theorem segs_count (c : UInt8) (s : L) : (segs c s).length ≤ s.length + 1 := by
  have h1 := segs_len c s
  have h2 : ∀ l : List L, l.length ≤ (l.map fun p => p.length + 1).sum := by
    intro l
    induction l with
    | nil => simp
    | cons x r ih => simp; omega
  have := h2 (segs c s)
  omega

def dig (c : UInt8) : Bool := decide (48 ≤ c.toNat ∧ c.toNat ≤ 57)
def stepN (n : Nat) (c : UInt8) : Nat := n * 10 + (c.toNat - 48)
def numTo (n : Nat) (l : L) : Nat := l.foldl stepN n
/-- Of digits; 0: it is none. -/
def num (s : L) : Nat := if s.all dig = true ∧ s.length ≤ 7 then numTo 0 s else 0
def put (p : Pol) (w : List L) : Pol := match w with
  | [k, x] => if k = kEpoch then { p with ep := num x } else if k = kElem then { p with el := p.el ++ [x] } else if k = kAttr then { p with at_ := p.at_ ++ [x] } else if k = kScheme then { p with sc := p.sc ++ [x] } else if k = kClass then { p with cl := p.cl ++ [x] } else if k = kProp then { p with pr := p.pr ++ [x] } else p
  | [k, x, y, z] => if k = kCaps then { p with dp := num x, nd := num y, bt := num z } else p
  | _ => p
def putL (p : Pol) (line : L) : Pol := put p (segs 32 line)
/-- Each line taken for what it may be. -/
def parse (s : L) : Pol := (segs 10 s).foldl putL Pol.zero
/-- The policy of which a text is the text. -/
def readP (s : L) : Option Pol := if right (parse s) = true ∧ text (parse s) = s then some (parse s) else none

/-! Numbers. -/
theorem dec_small (n : Nat) (h : n < 10) : dec n = [UInt8.ofNat (48 + n)] := by
  rw [dec, dif_pos h]
theorem dec_big (n : Nat) (h : ¬ n < 10) : dec n = dec (n / 10) ++ [UInt8.ofNat (48 + n % 10)] := by
  rw [dec, dif_neg h]
theorem dig_of (d : Nat) (h : d < 10) : dig (UInt8.ofNat (48 + d)) = true ∧ (UInt8.ofNat (48 + d)).toNat - 48 = d := by
  have e : (UInt8.ofNat (48 + d)).toNat = 48 + d := by
    rw [UInt8.toNat_ofNat']
    omega
  unfold dig
  rw [e]
  exact ⟨decide_eq_true (by omega), by omega⟩
theorem numTo_app (a b : L) (n : Nat) : numTo n (a ++ b) = numTo (numTo n a) b := List.foldl_append
theorem numTo_cons (n : Nat) (c : UInt8) (l : L) : numTo n (c :: l) = numTo (stepN n c) l := List.foldl_cons ..
theorem numTo_one (n : Nat) (c : UInt8) : numTo n [c] = stepN n c := rfl
theorem dec_facts (n : Nat) : (dec n).all dig = true ∧ numTo 0 (dec n) = n := by
  induction n using Nat.strongRecOn with
  | ind n ih =>
    by_cases h : n < 10
    · rw [dec_small n h]
      obtain ⟨h1, h2⟩ := dig_of n h
      refine ⟨by rw [List.all_cons, h1]; rfl, ?_⟩
      rw [numTo_one]
      unfold stepN
      rw [h2]
      omega
    · rw [dec_big n h]
      obtain ⟨i1, i2⟩ := ih (n / 10) (by omega)
      obtain ⟨h1, h2⟩ := dig_of (n % 10) (by omega)
      refine ⟨by rw [List.all_append, i1, List.all_cons, h1]; rfl, ?_⟩
      rw [numTo_app, i2, numTo_one]
      unfold stepN
      rw [h2]
      omega
theorem dec_len (n : Nat) : ∀ k, n < 10 ^ (k + 1) → (dec n).length ≤ k + 1 := by
  intro k
  induction k generalizing n with
  | zero =>
    intro h
    rw [dec_small n (by omega)]
    simp
  | succ k ih =>
    intro h
    by_cases hn : n < 10
    · rw [dec_small n hn]
      simp
    · rw [dec_big n hn, List.length_append]
      have := ih (n / 10) (by rw [Nat.pow_succ] at h; omega)
      simp
      omega
theorem num_dec (n : Nat) (h : n ≤ 1000000) : num (dec n) = n := by
  unfold num
  rw [if_pos ⟨(dec_facts n).1, dec_len n 6 (by omega)⟩]
  exact (dec_facts n).2
theorem dec_no (n : Nat) (c : UInt8) (hc : dig c = false) : c ∉ dec n := by
  intro h
  have := List.all_eq_true.1 (dec_facts n).1 c h
  rw [this] at hc
  cases hc

/-! What is laid out is read. -/
theorem wc_no (c : UInt8) (hc : wc c = false) {l : L} (h : isWord l = true) : c ∉ l := by
  intro hm
  unfold isWord at h
  rw [Bool.and_eq_true, Bool.and_eq_true, List.all_eq_true] at h
  have := h.2.1 c hm
  rw [this] at hc
  cases hc
theorem words_all {l : List L} (h : words l = true) : ∀ x ∈ l, isWord x = true := by
  unfold words at h
  rw [Bool.and_eq_true, List.all_eq_true] at h
  exact h.1
theorem attr_no (c : UInt8) (hc : wc c = false) (h46 : c ≠ 46) (h42 : c ≠ 42) {el : List L} (hel : ∀ x ∈ el, isWord x = true) {a : L} (h : attrOk el a = true) : c ∉ a := by
  unfold attrOk at h
  cases hd : dot a with
  | none => rw [hd] at h; cases h
  | some x =>
    rw [hd] at h
    obtain ⟨n, w⟩ := x
    simp only [Bool.and_eq_true, decide_eq_true_eq] at h
    obtain ⟨e, _⟩ := dot_is a n w hd
    subst e
    obtain ⟨h1, h2⟩ := h
    unfold may at h2
    rw [Bool.and_eq_true] at h2
    intro hm
    rw [List.mem_append, List.mem_cons] at hm
    rcases hm with hm | hm | hm
    · rcases h1 with h1 | h1
      · subst h1
        exact h42 (by simpa using hm)
      · exact wc_no c hc (hel n h1) hm
    · exact h46 hm
    · exact wc_no c hc h2.1 hm
theorem segs_ln (head x r : L) (h1 : (10 : UInt8) ∉ head) (h2 : (10 : UInt8) ∉ x) : segs 10 (ln head x ++ r) = (head ++ [32] ++ x) :: segs 10 r := by
  have e : ln head x ++ r = (head ++ [32] ++ x) ++ 10 :: r := by simp [ln]
  rw [e, segs_semi]
  intro hm
  rw [List.mem_append, List.mem_append] at hm
  rcases hm with (hm | hm) | hm
  · exact h1 hm
  · revert hm; decide
  · exact h2 hm
theorem segs_lns (head : L) (h1 : (10 : UInt8) ∉ head) : ∀ (l : List L) (r : L), (∀ x ∈ l, (10 : UInt8) ∉ x) → segs 10 (lns head l ++ r) = (l.map fun x => head ++ [32] ++ x) ++ segs 10 r
  | [], r, _ => rfl
  | x :: l, r, h => by
    rw [lns, List.append_assoc, segs_ln head x _ h1 (h x (by simp)), segs_lns head h1 l r (fun y hy => h y (by simp [hy]))]
    rfl
theorem segs_two (head x : L) (h1 : (32 : UInt8) ∉ head) (h2 : (32 : UInt8) ∉ x) : segs 32 (head ++ [32] ++ x) = [head, x] := by
  have e : head ++ [32] ++ x = head ++ 32 :: x := by simp
  rw [e, segs_semi 32 head x h1, segs_end 32 x h2]
theorem fold_el : ∀ (l : List L) (p : Pol), (∀ x ∈ l, (32 : UInt8) ∉ x) → (l.map fun x => kElem ++ [32] ++ x).foldl putL p = { p with el := p.el ++ l }
  | [], p, _ => by simp
  | x :: l, p, h => by
    have e : putL p (kElem ++ [32] ++ x) = { p with el := p.el ++ [x] } := by
      unfold putL
      rw [segs_two kElem x (by decide) (h x (by simp))]
      rfl
    rw [List.map_cons, List.foldl_cons, e, fold_el l _ (fun y hy => h y (by simp [hy]))]
    simp
theorem fold_at : ∀ (l : List L) (p : Pol), (∀ x ∈ l, (32 : UInt8) ∉ x) → (l.map fun x => kAttr ++ [32] ++ x).foldl putL p = { p with at_ := p.at_ ++ l }
  | [], p, _ => by simp
  | x :: l, p, h => by
    have e : putL p (kAttr ++ [32] ++ x) = { p with at_ := p.at_ ++ [x] } := by
      unfold putL
      rw [segs_two kAttr x (by decide) (h x (by simp))]
      rfl
    rw [List.map_cons, List.foldl_cons, e, fold_at l _ (fun y hy => h y (by simp [hy]))]
    simp
theorem fold_sc : ∀ (l : List L) (p : Pol), (∀ x ∈ l, (32 : UInt8) ∉ x) → (l.map fun x => kScheme ++ [32] ++ x).foldl putL p = { p with sc := p.sc ++ l }
  | [], p, _ => by simp
  | x :: l, p, h => by
    have e : putL p (kScheme ++ [32] ++ x) = { p with sc := p.sc ++ [x] } := by
      unfold putL
      rw [segs_two kScheme x (by decide) (h x (by simp))]
      rfl
    rw [List.map_cons, List.foldl_cons, e, fold_sc l _ (fun y hy => h y (by simp [hy]))]
    simp
theorem fold_cl : ∀ (l : List L) (p : Pol), (∀ x ∈ l, (32 : UInt8) ∉ x) → (l.map fun x => kClass ++ [32] ++ x).foldl putL p = { p with cl := p.cl ++ l }
  | [], p, _ => by simp
  | x :: l, p, h => by
    have e : putL p (kClass ++ [32] ++ x) = { p with cl := p.cl ++ [x] } := by
      unfold putL
      rw [segs_two kClass x (by decide) (h x (by simp))]
      rfl
    rw [List.map_cons, List.foldl_cons, e, fold_cl l _ (fun y hy => h y (by simp [hy]))]
    simp
theorem fold_pr : ∀ (l : List L) (p : Pol), (∀ x ∈ l, (32 : UInt8) ∉ x) → (l.map fun x => kProp ++ [32] ++ x).foldl putL p = { p with pr := p.pr ++ l }
  | [], p, _ => by simp
  | x :: l, p, h => by
    have e : putL p (kProp ++ [32] ++ x) = { p with pr := p.pr ++ [x] } := by
      unfold putL
      rw [segs_two kProp x (by decide) (h x (by simp))]
      rfl
    rw [List.map_cons, List.foldl_cons, e, fold_pr l _ (fun y hy => h y (by simp [hy]))]
    simp
theorem caps_line (x y z : Nat) : segs 32 (kCaps ++ [32] ++ dec x ++ [32] ++ dec y ++ [32] ++ dec z) = [kCaps, dec x, dec y, dec z] := by
  have e : kCaps ++ [32] ++ dec x ++ [32] ++ dec y ++ [32] ++ dec z = kCaps ++ 32 :: (dec x ++ 32 :: (dec y ++ 32 :: dec z)) := by simp
  rw [e, segs_semi 32 kCaps _ (by decide), segs_semi 32 _ _ (dec_no x 32 (by decide)), segs_semi 32 _ _ (dec_no y 32 (by decide)), segs_end 32 _ (dec_no z 32 (by decide))]
theorem parse_text {p : Pol} (h : Right p) : parse (text p) = p := by
  have w10 : ∀ l : List L, words l = true → ∀ x ∈ l, (10 : UInt8) ∉ x := fun l hl x hx => wc_no 10 (by decide) (words_all hl x hx)
  have w32 : ∀ l : List L, words l = true → ∀ x ∈ l, (32 : UInt8) ∉ x := fun l hl x hx => wc_no 32 (by decide) (words_all hl x hx)
  have a10 : ∀ x ∈ p.at_, (10 : UInt8) ∉ x := fun x hx => attr_no 10 (by decide) (by decide) (by decide) (words_all h.el) (h.ao x hx)
  have a32 : ∀ x ∈ p.at_, (32 : UInt8) ∉ x := fun x hx => attr_no 32 (by decide) (by decide) (by decide) (words_all h.el) (h.ao x hx)
  obtain ⟨h1, h2, h3, h4⟩ := h.c
  have e : text p = ln kEpoch (dec p.ep.toNat) ++ (lns kElem p.el ++ (lns kAttr p.at_ ++ (lns kScheme p.sc ++ (lns kClass p.cl ++ (lns kProp p.pr ++ ((kCaps ++ [32] ++ dec p.dp.toNat ++ [32] ++ dec p.nd.toNat ++ [32] ++ dec p.bt.toNat) ++ 10 :: [])))))) := by
    simp [text, ln]
  have c10 : (10 : UInt8) ∉ kCaps ++ [32] ++ dec p.dp.toNat ++ [32] ++ dec p.nd.toNat ++ [32] ++ dec p.bt.toNat := by
    have d := fun n => dec_no n 10 (by decide)
    simp only [List.mem_append]
    rintro ((((((hm | hm) | hm) | hm) | hm) | hm) | hm)
    · revert hm; decide
    · revert hm; decide
    · exact d _ hm
    · revert hm; decide
    · exact d _ hm
    · revert hm; decide
    · exact d _ hm
  unfold parse
  rw [e, segs_ln kEpoch _ _ (by decide) (dec_no _ 10 (by decide)), segs_lns kElem (by decide) _ _ (w10 _ h.el), segs_lns kAttr (by decide) _ _ a10, segs_lns kScheme (by decide) _ _ (w10 _ h.sc), segs_lns kClass (by decide) _ _ (w10 _ h.cl), segs_lns kProp (by decide) _ _ (w10 _ h.pr), segs_semi 10 _ _ c10, segs_end 10 [] (by simp)]
  rw [List.foldl_cons, List.foldl_append, List.foldl_append, List.foldl_append, List.foldl_append, List.foldl_append, List.foldl_cons, List.foldl_cons, List.foldl_nil]
  have e1 : putL Pol.zero (kEpoch ++ [32] ++ dec p.ep.toNat) = { Pol.zero with ep := p.ep } := by
    unfold putL
    rw [segs_two kEpoch _ (by decide) (dec_no _ 32 (by decide))]
    show ({ Pol.zero with ep := (num (dec p.ep.toNat) : Int) } : Pol) = _
    rw [num_dec _ (by omega), Int.toNat_of_nonneg (by omega)]
  rw [e1, fold_el _ _ (w32 _ h.el), fold_at _ _ a32, fold_sc _ _ (w32 _ h.sc), fold_cl _ _ (w32 _ h.cl), fold_pr _ _ (w32 _ h.pr)]
  unfold putL
  rw [caps_line]
  show put _ [[]] = p
  unfold put
  apply Pol.ext'
  · rfl
  · simp [Pol.zero]
  · simp [Pol.zero]
  · simp [Pol.zero]
  · simp [Pol.zero]
  · simp [Pol.zero]
  · show ((num (dec p.dp.toNat) : Nat) : Int) = p.dp
    rw [num_dec _ (by omega), Int.toNat_of_nonneg (by omega)]
  · show ((num (dec p.nd.toNat) : Nat) : Int) = p.nd
    rw [num_dec _ (by omega), Int.toNat_of_nonneg (by omega)]
  · show ((num (dec p.bt.toNat) : Nat) : Int) = p.bt
    rw [num_dec _ (by omega), Int.toNat_of_nonneg (by omega)]
theorem read_text {p : Pol} (h : Right p) : readP (text p) = some p := by
  unfold readP
  rw [parse_text h, if_pos ⟨(right_iff p).2 h, rfl⟩]
theorem read_some {s : L} {p : Pol} (h : readP s = some p) : Right p ∧ text p = s := by
  unfold readP at h
  split at h
  · rename_i hc
    cases h
    exact ⟨(right_iff _).1 hc.1, hc.2⟩
  · cases h

/-! Stricter. -/
def star (a : L) : L := 42 :: a.dropWhile (fun c => decide (c ≠ 46))
def sub (a b : List L) : Bool := a.all fun x => decide (x ∈ b)
def stricter (p q : Pol) : Bool := p.at_.all (fun a => decide (a ∈ q.at_ ∨ star a ∈ q.at_)) && (sub p.el q.el && (sub p.sc q.sc && (sub p.cl q.cl && (sub p.pr q.pr && decide (p.dp ≤ q.dp ∧ p.nd ≤ q.nd ∧ p.bt ≤ q.bt)))))
def attrB (p : Pol) (e a : L) : Bool := decide (e ∈ p.el) && decide ((42 :: 46 :: a) ∈ p.at_ ∨ (e ++ 46 :: a) ∈ p.at_)
structure Str (p q : Pol) : Prop where
  at_ : ∀ a ∈ p.at_, a ∈ q.at_ ∨ star a ∈ q.at_
  el : ∀ x ∈ p.el, x ∈ q.el
  sc : ∀ x ∈ p.sc, x ∈ q.sc
  cl : ∀ x ∈ p.cl, x ∈ q.cl
  pr : ∀ x ∈ p.pr, x ∈ q.pr
  c : p.dp ≤ q.dp ∧ p.nd ≤ q.nd ∧ p.bt ≤ q.bt
theorem str_iff (p q : Pol) : stricter p q = true ↔ Str p q := by
  unfold stricter sub
  simp only [Bool.and_eq_true, decide_eq_true_eq, List.all_eq_true]
  constructor
  · rintro ⟨h1, h2, h3, h4, h5, h6⟩
    exact ⟨h1, h2, h3, h4, h5, h6⟩
  · rintro ⟨h1, h2, h3, h4, h5, h6⟩
    exact ⟨h1, h2, h3, h4, h5, h6⟩
theorem str_refl (p : Pol) : Str p p := ⟨fun _ h => .inl h, fun _ h => h, fun _ h => h, fun _ h => h, fun _ h => h, by omega⟩
theorem star_star (a : L) : star (star a) = star a := by
  unfold star
  rw [List.dropWhile_cons, if_pos (by decide)]
  congr 1
  induction a with
  | nil => rfl
  | cons c a ih =>
    rw [List.dropWhile_cons]
    split
    · exact ih
    · rename_i h
      rw [List.dropWhile_cons, if_neg h]
theorem str_trans {p q r : Pol} (h1 : Str p q) (h2 : Str q r) : Str p r := by
  refine ⟨fun a ha => ?_, fun x h => h2.el x (h1.el x h), fun x h => h2.sc x (h1.sc x h), fun x h => h2.cl x (h1.cl x h), fun x h => h2.pr x (h1.pr x h), ?_⟩
  · rcases h1.at_ a ha with h | h
    · exact h2.at_ a h
    · rcases h2.at_ _ h with h | h
      · exact .inr h
      · rw [star_star] at h
        exact .inr h
  · have := h1.c
    have := h2.c
    omega
theorem dw_app (e a : L) (h : (46 : UInt8) ∉ e) : (e ++ 46 :: a).dropWhile (fun c => decide (c ≠ 46)) = 46 :: a := by
  induction e with
  | nil => rw [List.nil_append, List.dropWhile_cons, if_neg (by decide)]
  | cons c e ih =>
    rw [List.cons_append, List.dropWhile_cons, if_pos (by
      apply decide_eq_true
      intro hc
      exact h (by simp [hc]))]
    exact ih (fun hm => h (by simp [hm]))
/-- What a stricter one lets the other one does. -/
theorem lets_more {p q : Pol} (h : Str p q) {e a : L} (he : (46 : UInt8) ∉ e) (hp : attrB p e a = true) : attrB q e a = true := by
  unfold attrB at hp ⊢
  rw [Bool.and_eq_true, decide_eq_true_eq, decide_eq_true_eq] at hp ⊢
  refine ⟨h.el e hp.1, ?_⟩
  have key : ∀ x, star x = 42 :: 46 :: a → x ∈ p.at_ → (42 :: 46 :: a) ∈ q.at_ ∨ x ∈ q.at_ := fun x hx hm => by
    rcases h.at_ x hm with g | g
    · exact .inr g
    · rw [hx] at g
      exact .inl g
  rcases hp.2 with g | g
  · rcases key _ (by
      unfold star
      exact congrArg (42 :: ·) (dw_app [42] a (by decide))) g with g | g
    · exact .inl g
    · exact .inl g
  · rcases key _ (by
      unfold star
      rw [dw_app e a he]) g with g | g
    · exact .inl g
    · exact .inr g

/-! Fewer. -/
theorem chain_tail {a : L} {r : List L} (h : chain (a :: r) = true) : chain r = true := by
  cases r with
  | nil => rfl
  | cons b r =>
    rw [chain, Bool.and_eq_true] at h
    exact h.2
theorem chain_all : ∀ (r : List L) (a : L), chain (a :: r) = true → ∀ x ∈ r, lt a x = true
  | [], _, _, x, hx => by cases hx
  | b :: r, a, h, x, hx => by
    rw [chain, Bool.and_eq_true] at h
    rcases List.mem_cons.1 hx with e | hx
    · rw [e]; exact h.1
    · exact lt_trans a b x h.1 (chain_all r b h.2 x hx)
theorem chain_mk : ∀ (r : List L) (a : L), (∀ x ∈ r, lt a x = true) → chain r = true → chain (a :: r) = true
  | [], _, _, _ => rfl
  | b :: r, a, h, hc => by
    rw [chain, Bool.and_eq_true]
    exact ⟨h b (by simp), hc⟩
theorem chain_erase : ∀ (l : List L) (k : Nat), chain l = true → chain (l.eraseIdx k) = true
  | [], k, _ => by simp [chain]
  | a :: r, 0, h => chain_tail h
  | a :: r, k + 1, h => by
    rw [List.eraseIdx_cons_succ]
    exact chain_mk _ a (fun x hx => chain_all r a h x (List.mem_of_mem_eraseIdx hx)) (chain_erase r k (chain_tail h))
theorem chain_gone : ∀ (l : List L) (k : Nat) (x : L), chain l = true → l[k]? = some x → x ∉ l.eraseIdx k
  | [], k, x, _, h => by simp at h
  | a :: r, 0, x, hc, h => by
    have : a = x := by simpa using h
    subst this
    intro hm
    have hm : a ∈ r := hm
    have := chain_all r a hc a hm
    rw [lt_irr] at this
    cases this
  | a :: r, k + 1, x, hc, h => by
    have h' : r[k]? = some x := by simpa using h
    rw [List.eraseIdx_cons_succ]
    intro hm
    rcases List.mem_cons.1 hm with e | hm
    · have := chain_all r a hc x (List.mem_of_getElem? h')
      rw [e, lt_irr] at this
      cases this
    · exact chain_gone r k x (chain_tail hc) h' hm
theorem words_erase {l : List L} (k : Nat) (h : words l = true) : words (l.eraseIdx k) = true := by
  have ha := words_all h
  unfold words rises at h ⊢
  rw [Bool.and_eq_true, Bool.and_eq_true, decide_eq_true_eq] at h ⊢
  refine ⟨List.all_eq_true.2 fun x hx => ha x (List.mem_of_mem_eraseIdx hx), chain_erase l k h.2.1, ?_⟩
  have := List.length_eraseIdx_le l k
  omega
theorem words_chain {l : List L} (h : words l = true) : chain l = true := by
  unfold words rises at h
  rw [Bool.and_eq_true, Bool.and_eq_true] at h
  exact h.2.1

/-! Never. -/
theorem never_not {p : Pol} (h : Right p) {n : L} (hn : never n = true) : n ∉ p.el := fun hm => by
  have := h.nv n hm
  rw [hn] at this
  cases this
theorem on_not (el : List L) (n : L) : attrOk el ([42, 46, 111, 110] ++ n) = false := by
  have e : ([42, 46, 111, 110] ++ n : L) = [42] ++ 46 :: ([111, 110] ++ n) := rfl
  unfold attrOk
  rw [e, dot_some [42] _ (by decide)]
  have : isOn ([111, 110] ++ n) = true := by unfold isOn; exact decide_eq_true rfl
  simp only [may, this, Bool.not_true, Bool.false_and, Bool.and_false]
theorem style_not (el : List L) : attrOk el ([42, 46] ++ style) = false := by
  unfold attrOk
  rw [show dot ([42, 46] ++ style) = some ([42], style) from rfl]
  have : may style = false := by decide
  simp only [this, Bool.and_false]
theorem not_right_attr {p : Pol} {a : L} (ha : a ∈ p.at_) (h : attrOk p.el a = false) : right p = false := by
  cases hr : right p
  · rfl
  · have := ((right_iff p).1 hr).ao a ha
    rw [h] at this
    cases this
end Pol8

namespace Pol8
open Go

/-- A text, parted at the first byte c. -/
def cutB (c : UInt8) : L → Option (L × L)
  | [] => none
  | b :: l => if b = c then some ([], l) else (cutB c l).map fun x => (b :: x.1, x.2)
theorem cutB_none (c : UInt8) : ∀ (p : L), c ∉ p → cutB c p = none
  | [], _ => rfl
  | b :: p, h => by
    have hb : b ≠ c := fun e => h (by simp [e])
    have hp : c ∉ p := fun e => h (by simp [e])
    rw [cutB, if_neg hb, cutB_none c p hp]
    rfl
theorem cutB_some (c : UInt8) : ∀ (a b : L), c ∉ a → cutB c (a ++ c :: b) = some (a, b)
  | [], b, _ => by simp [cutB]
  | d :: a, b, h => by
    have hb : d ≠ c := fun e => h (by simp [e])
    have hp : c ∉ a := fun e => h (by simp [e])
    rw [List.cons_append, cutB, if_neg hb, cutB_some c a b hp]
    rfl
/-- Does a text begin with a word and a blank? -/
def starts (k s : L) : Bool := decide (s.take (k.length + 1) = k ++ [32])
/-- What stands behind a word and a blank in the first line, and what stands behind that line. -/
def cutL (k s : L) : Option (L × L) := if starts k s = true then cutB 10 (s.drop (k.length + 1)) else none
theorem starts_ln (k x : L) : starts k (k ++ 32 :: x) = true := by
  unfold starts
  apply decide_eq_true
  rw [show k ++ 32 :: x = (k ++ [32]) ++ x by simp, List.take_append_of_le_length (by simp)]
  rw [List.take_of_length_le (by simp)]
theorem drop_ln (k x : L) : (k ++ 32 :: x).drop (k.length + 1) = x := by
  rw [show k ++ 32 :: x = (k ++ [32]) ++ x by simp, List.drop_append_of_le_length (by simp)]
  rw [List.drop_eq_nil_of_le (by simp)]
  rfl
theorem starts_is {k s : L} (h : starts k s = true) : s = k ++ 32 :: s.drop (k.length + 1) := by
  have h := of_decide_eq_true h
  conv => lhs; rw [← List.take_append_drop (k.length + 1) s, h]
  simp
theorem cutL_ln (k x r : L) (hx : (10 : UInt8) ∉ x) : cutL k (ln k x ++ r) = some (x, r) := by
  have e : ln k x ++ r = k ++ 32 :: (x ++ 10 :: r) := by simp [ln]
  unfold cutL
  rw [e, if_pos (starts_ln _ _), drop_ln, cutB_some 10 x r hx]
theorem starts_two {k s : L} (hk : 2 ≤ k.length) (h : starts k s = true) : s.take 2 = k.take 2 := by
  rw [starts_is h, List.take_append_of_le_length hk]
/-- The lines of a word with which a text begins, at most n. -/
def cutN : Nat → L → L → List L × L
  | 0, _, s => ([], s)
  | n + 1, k, s => match cutL k s with
    | none => ([], s)
    | some x => (x.1 :: (cutN n k x.2).1, (cutN n k x.2).2)
theorem cutN_none {k s : L} (n : Nat) (h : starts k s = false) : cutN n k s = ([], s) := by
  cases n with
  | zero => rfl
  | succ n =>
    have : cutL k s = none := by
      unfold cutL
      rw [if_neg (by rw [h]; decide)]
    rw [cutN, this]
theorem cutN_lns (k r : L) (hr : starts k r = false) : ∀ (l : List L) (n : Nat), l.length ≤ n → (∀ x ∈ l, (10 : UInt8) ∉ x) → cutN n k (lns k l ++ r) = (l, r)
  | [], n, _, _ => cutN_none n hr
  | x :: l, 0, h, _ => by simp at h
  | x :: l, n + 1, h, hx => by
    have h1 : cutL k (lns k (x :: l) ++ r) = some (x, lns k l ++ r) := by
      rw [lns, List.append_assoc, cutL_ln k x _ (hx x (by simp))]
    rw [cutN, h1]
    have h2 := cutN_lns k r hr l n (by simpa using h) (fun y hy => hx y (by simp [hy]))
    show (x :: (cutN n k (lns k l ++ r)).1, (cutN n k (lns k l ++ r)).2) = _
    rw [h2]
theorem cutB_len {c : UInt8} : ∀ {s : L} {x : L × L}, cutB c s = some x → x.1.length + 1 + x.2.length = s.length
  | [], x, h => by simp [cutB] at h
  | b :: l, x, h => by
    rw [cutB] at h
    split at h
    · cases h
      simp
      omega
    · cases hp : cutB c l with
      | none => rw [hp] at h; simp at h
      | some y =>
        rw [hp] at h
        simp at h
        subst h
        have := cutB_len hp
        simp
        omega
theorem cutL_len {k s : L} {x : L × L} (h : cutL k s = some x) : k.length + 1 + x.1.length + 1 + x.2.length = s.length := by
  unfold cutL at h
  split at h
  · rename_i hs
    have h1 := cutB_len h
    have h2 := congrArg List.length (starts_is hs)
    rw [List.length_append, List.length_cons] at h2
    omega
  · cases h
theorem cutN_len : ∀ (n : Nat) (k s : L), (cutN n k s).1.length ≤ n ∧ (∀ x ∈ (cutN n k s).1, x.length ≤ s.length) ∧ (cutN n k s).2.length ≤ s.length
  | 0, k, s => ⟨Nat.le_refl _, fun x h => (by cases h), Nat.le_refl _⟩
  | n + 1, k, s => by
    rw [cutN]
    cases hc : cutL k s with
    | none => exact ⟨Nat.zero_le _, fun x h => (by cases h), Nat.le_refl _⟩
    | some y =>
      have h0 := cutL_len hc
      obtain ⟨h1, h2, h3⟩ := cutN_len n k y.2
      refine ⟨by simp; exact h1, fun x hx => ?_, ?_⟩
      · rcases List.mem_cons.1 hx with e | hx
        · rw [e]; omega
        · have := h2 x hx; omega
      · show (cutN n k y.2).2.length ≤ _
        omega

/-- The number of digits; else 0. -/
def numA (l : L) : Int := match Lib.atoiAll l with
  | .ok v => v
  | _ => 0
theorem numTo_ge : ∀ (l : L) (n : Nat), n ≤ numTo n l
  | [], n => Nat.le_refl _
  | c :: l, n => by
    rw [numTo_cons]
    have := numTo_ge l (stepN n c)
    unfold stepN at this ⊢
    omega
theorem parse_ok : ∀ (l : L) (acc : Nat), l.all dig = true → numTo acc l < 1000000000000000000 → Lib.parseUint10 acc l = .ok (numTo acc l)
  | [], acc, _, _ => rfl
  | c :: r, acc, h, hb => by
    rw [List.all_cons, Bool.and_eq_true] at h
    have hd := of_decide_eq_true h.1
    rw [numTo_cons] at hb ⊢
    have hge := numTo_ge r (stepN acc c)
    have he : stepN acc c = acc * 10 + (c.toNat - 48) := rfl
    rw [Lib.parseUint10, if_pos hd, if_neg (by omega), if_neg (by omega), ← he]
    exact parse_ok r _ h.2 hb
theorem dec_ne (n : Nat) : dec n ≠ [] := by
  by_cases h : n < 10
  · rw [dec_small n h]; simp
  · rw [dec_big n h]; simp
theorem numA_dec (n : Nat) (h : n ≤ 1000000) : numA (dec n) = (n : Int) := by
  obtain ⟨h1, h2⟩ := dec_facts n
  have hp := parse_ok (dec n) 0 h1 (by omega)
  rw [h2] at hp
  have hne := dec_ne n
  unfold numA
  have key : Lib.atoiAll (dec n) = .ok (n : Int) := by
    cases hl : dec n with
    | nil => exact absurd hl hne
    | cons c r =>
      rw [hl] at hp h1
      rw [List.all_cons, Bool.and_eq_true] at h1
      have hd := of_decide_eq_true h1.1
      unfold Lib.atoiAll Lib.parseMag
      simp only
      rw [if_neg (show ¬ (c.toNat = 43 ∨ c.toNat = 45) by omega), if_neg (by simp), hp]
      simp only
      rw [if_neg (by omega), if_neg (by omega), if_neg (by omega)]
  rw [key]
theorem numA_bounds (l : L) : -9223372036854775808 ≤ numA l ∧ numA l ≤ 9223372036854775807 := by
  unfold numA
  cases h : Lib.atoiAll l with
  | ok v =>
    show _ ≤ v ∧ v ≤ _
    unfold Lib.atoiAll at h
    cases l with
    | nil => cases h
    | cons c r =>
      simp only at h
      split at h
      · cases h
      · cases h
      · rename_i u hu
        split at h
        · cases h
        · split at h
          · cases h
          · injection h with h
            subst h
            split <;> omega
  | «syntax» => exact ⟨by decide, by decide⟩
  | range => exact ⟨by decide, by decide⟩
theorem dec_digits (n : Nat) : Lib.decDigits n = dec n := by
  induction n using Nat.strongRecOn with
  | ind n ih =>
    rw [Lib.decDigits]
    split
    · rename_i h; rw [dec_small n h]
    · rename_i h; rw [dec_big n h, ih (n / 10) (by omega)]
theorem itoa_dec (n : Int) (h : 0 ≤ n) : Lib.itoa n = dec n.toNat := by
  unfold Lib.itoa
  rw [if_neg (by omega), dec_digits]

/-- The first part ahead of a byte, and what stands behind it. -/
def fst' (c : UInt8) (s : L) : L := ((cutB c s).getD (s, [])).1
def snd' (c : UInt8) (s : L) : L := ((cutB c s).getD (s, [])).2
theorem fst_some (c : UInt8) (a b : L) (h : c ∉ a) : fst' c (a ++ c :: b) = a ∧ snd' c (a ++ c :: b) = b := by
  unfold fst' snd'
  rw [cutB_some c a b h]
  exact ⟨rfl, rfl⟩
theorem fst_none (c : UInt8) (a : L) (h : c ∉ a) : fst' c a = a ∧ snd' c a = [] := by
  unfold fst' snd'
  rw [cutB_none c a h]
  exact ⟨rfl, rfl⟩
/-- A line's rest, and what stands behind the line; none and all of the text. -/
def lineOf (k s : L) : L := ((cutL k s).getD ([], s)).1
def restOf (k s : L) : L := ((cutL k s).getD ([], s)).2
theorem line_ln (k x r : L) (hx : (10 : UInt8) ∉ x) : lineOf k (ln k x ++ r) = x ∧ restOf k (ln k x ++ r) = r := by
  unfold lineOf restOf
  rw [cutL_ln k x r hx]
  exact ⟨rfl, rfl⟩
/-- The policy of a text, if there is one; else any. -/
def readL (s : L) : Pol :=
  let s1 := restOf kEpoch s
  let a := cutN 65 kElem s1
  let b := cutN 65 kAttr a.2
  let c := cutN 65 kScheme b.2
  let d := cutN 65 kClass c.2
  let e := cutN 65 kProp d.2
  let n := lineOf kCaps e.2
  ⟨numA (lineOf kEpoch s), a.1, b.1, c.1, d.1, e.1, numA (fst' 32 n), numA (fst' 32 (snd' 32 n)), numA (snd' 32 (snd' 32 n))⟩
theorem starts_lns {k k' r : L} (l : List L) (hk : 2 ≤ k.length) (hk' : 2 ≤ k'.length) (hne : k'.take 2 ≠ k.take 2) (hr : starts k r = false) : starts k (lns k' l ++ r) = false := by
  cases l with
  | nil => exact hr
  | cons x l =>
    cases h : starts k (lns k' (x :: l) ++ r) with
    | false => rfl
    | true =>
      have h2 := starts_two hk h
      rw [lns, ln, List.append_assoc, List.append_assoc, List.append_assoc, List.append_assoc, List.take_append_of_le_length hk'] at h2
      exact absurd h2 hne
theorem starts_other {k k' r : L} (hk : 2 ≤ k.length) (hk' : 2 ≤ k'.length) (hne : k'.take 2 ≠ k.take 2) : starts k (k' ++ r) = false := by
  cases h : starts k (k' ++ r) with
  | false => rfl
  | true =>
    have h2 := starts_two hk h
    rw [List.take_append_of_le_length hk'] at h2
    exact absurd h2 hne
theorem words_len {l : List L} (h : words l = true) : l.length ≤ 65 := by
  unfold words rises at h
  rw [Bool.and_eq_true, Bool.and_eq_true, decide_eq_true_eq] at h
  omega
theorem rises_len {l : List L} (h : rises l = true) : l.length ≤ 65 := by
  unfold rises at h
  rw [Bool.and_eq_true, decide_eq_true_eq] at h
  omega
theorem readL_text {p : Pol} (h : Right p) : readL (text p) = p := by
  have w10 : ∀ l : List L, words l = true → ∀ x ∈ l, (10 : UInt8) ∉ x := fun l hl x hx => wc_no 10 (by decide) (words_all hl x hx)
  have a10 : ∀ x ∈ p.at_, (10 : UInt8) ∉ x := fun x hx => attr_no 10 (by decide) (by decide) (by decide) (words_all h.el) (h.ao x hx)
  obtain ⟨h1, h2, h3, h4⟩ := h.c
  have d := fun n => dec_no n 10 (by decide)
  have d32 := fun n => dec_no n 32 (by decide)
  obtain ⟨N, hN⟩ : ∃ N, N = dec p.dp.toNat ++ 32 :: (dec p.nd.toNat ++ 32 :: dec p.bt.toNat) := ⟨_, rfl⟩
  have n10 : (10 : UInt8) ∉ N := by
    rw [hN]
    simp only [List.mem_append, List.mem_cons]
    rintro (hm | hm | hm | hm | hm)
    · exact d _ hm
    · revert hm; decide
    · exact d _ hm
    · revert hm; decide
    · exact d _ hm
  have e : text p = ln kEpoch (dec p.ep.toNat) ++ (lns kElem p.el ++ (lns kAttr p.at_ ++ (lns kScheme p.sc ++ (lns kClass p.cl ++ (lns kProp p.pr ++ (ln kCaps N ++ [])))))) := by
    rw [hN]
    simp [text, ln]
  have r6 : ∀ k : L, 2 ≤ k.length → kCaps.take 2 ≠ k.take 2 → starts k (ln kCaps N ++ []) = false := fun k hk hne => by
    have e : ln kCaps N ++ [] = kCaps ++ ([32] ++ N ++ [10]) := by simp [ln]
    rw [e]
    exact starts_other hk (by decide) hne
  have s5 : starts kProp (ln kCaps N ++ []) = false := r6 _ (by decide) (by decide)
  have s4 : starts kClass (lns kProp p.pr ++ (ln kCaps N ++ [])) = false := starts_lns _ (by decide) (by decide) (by decide) (r6 _ (by decide) (by decide))
  have s3 : starts kScheme (lns kClass p.cl ++ (lns kProp p.pr ++ (ln kCaps N ++ []))) = false := starts_lns _ (by decide) (by decide) (by decide) (starts_lns _ (by decide) (by decide) (by decide) (r6 _ (by decide) (by decide)))
  have s2 : starts kAttr (lns kScheme p.sc ++ (lns kClass p.cl ++ (lns kProp p.pr ++ (ln kCaps N ++ [])))) = false := starts_lns _ (by decide) (by decide) (by decide) (starts_lns _ (by decide) (by decide) (by decide) (starts_lns _ (by decide) (by decide) (by decide) (r6 _ (by decide) (by decide))))
  have s1 : starts kElem (lns kAttr p.at_ ++ (lns kScheme p.sc ++ (lns kClass p.cl ++ (lns kProp p.pr ++ (ln kCaps N ++ []))))) = false := starts_lns _ (by decide) (by decide) (by decide) (starts_lns _ (by decide) (by decide) (by decide) (starts_lns _ (by decide) (by decide) (by decide) (starts_lns _ (by decide) (by decide) (by decide) (r6 _ (by decide) (by decide)))))
  unfold readL
  simp only
  rw [e, (line_ln kEpoch _ _ (d _)).1, (line_ln kEpoch _ _ (d _)).2]
  rw [cutN_lns kElem _ s1 p.el 65 (words_len h.el) (w10 _ h.el)]
  simp only
  rw [cutN_lns kAttr _ s2 p.at_ 65 (rises_len h.at_) a10]
  simp only
  rw [cutN_lns kScheme _ s3 p.sc 65 (words_len h.sc) (w10 _ h.sc)]
  simp only
  rw [cutN_lns kClass _ s4 p.cl 65 (words_len h.cl) (w10 _ h.cl)]
  simp only
  rw [cutN_lns kProp _ s5 p.pr 65 (words_len h.pr) (w10 _ h.pr)]
  simp only
  rw [(line_ln kCaps N [] n10).1, hN]
  rw [(fst_some 32 _ _ (d32 p.dp.toNat)).1, (fst_some 32 _ _ (d32 p.dp.toNat)).2, (fst_some 32 _ _ (d32 p.nd.toNat)).1, (fst_some 32 _ _ (d32 p.nd.toNat)).2]
  rw [numA_dec _ (by omega), numA_dec _ (by omega), numA_dec _ (by omega), numA_dec _ (by omega)]
  rw [Int.toNat_of_nonneg (by omega), Int.toNat_of_nonneg (by omega), Int.toNat_of_nonneg (by omega), Int.toNat_of_nonneg (by omega)]
/-- What is read line by line is the policy of which the text is the text, if there is one. -/
theorem readP_is (s : L) : readP s = if right (readL s) = true ∧ text (readL s) = s then some (readL s) else none := by
  split
  · rename_i h
    have := read_text ((right_iff _).1 h.1)
    rw [h.2] at this
    exact this
  · rename_i h
    cases hp : readP s with
    | none => rfl
    | some q =>
      obtain ⟨h1, h2⟩ := read_some hp
      have := readL_text h1
      rw [h2] at this
      exact absurd ⟨by rw [this]; exact (right_iff _).2 h1, by rw [this]; exact h2⟩ h
theorem restOf_len (k s : L) : (restOf k s).length ≤ s.length ∧ (lineOf k s).length ≤ s.length := by
  unfold restOf lineOf
  cases h : cutL k s with
  | none => exact ⟨Nat.le_refl _, Nat.zero_le _⟩
  | some x =>
    have := cutL_len h
    exact ⟨by show x.2.length ≤ _; omega, by show x.1.length ≤ _; omega⟩
theorem fst_len (c : UInt8) (s : L) : (fst' c s).length ≤ s.length ∧ (snd' c s).length ≤ s.length := by
  unfold fst' snd'
  cases h : cutB c s with
  | none => exact ⟨Nat.le_refl _, Nat.zero_le _⟩
  | some x =>
    have := cutB_len h
    exact ⟨by show x.1.length ≤ _; omega, by show x.2.length ≤ _; omega⟩
end Pol8

namespace Msg15
open Go
open Pol8 hiding text right Right

/-- A text's field. -/
def fld (s : L) : L := dec s.length ++ 58 :: (s ++ [44])
def flds : List L → L
  | [] => []
  | s :: l => fld s ++ flds l
theorem flds_app (a b : List L) : flds (a ++ b) = flds a ++ flds b := by
  induction a with
  | nil => rfl
  | cons s a ih => show fld s ++ flds (a ++ b) = fld s ++ flds a ++ flds b; rw [ih, List.append_assoc]
theorem dec_ne (n : Nat) : dec n ≠ [] := by
  by_cases h : n < 10
  · rw [dec_small n h]; simp
  · rw [dec_big n h]; simp
theorem fld_ne (s : L) : fld s ≠ [] := by
  unfold fld
  simp [dec_ne]
theorem flds_len : ∀ l : List L, l.length ≤ (flds l).length
  | [] => Nat.le_refl _
  | s :: l => by
    have := flds_len l
    have h : 0 < (fld s).length := List.length_pos_iff.2 (fld_ne s)
    show l.length + 1 ≤ (fld s ++ flds l).length
    rw [List.length_append]
    omega
theorem dig58 : dig 58 = false := by decide
theorem tw_dec (n : Nat) (x : L) : (dec n ++ 58 :: x).takeWhile dig = dec n := by
  have h := (dec_facts n).1
  rw [List.takeWhile_append_of_pos (fun a ha => List.all_eq_true.1 h a ha), List.takeWhile_cons_of_neg (by rw [dig58]; decide), List.append_nil]
theorem dec_inj {a b : Nat} (h : dec a = dec b) : a = b := by
  rw [← (dec_facts a).2, ← (dec_facts b).2, h]
theorem fld_cut (s x : L) : fld s ++ x = dec s.length ++ 58 :: (s ++ 44 :: x) := by
  unfold fld
  simp
theorem fld_inj {s t x y : L} (h : fld s ++ x = fld t ++ y) : s = t ∧ x = y := by
  rw [fld_cut, fld_cut] at h
  have h1 : dec s.length = dec t.length := by rw [← tw_dec s.length (s ++ 44 :: x), h, tw_dec]
  rw [h1] at h
  have h2 := List.append_cancel_left h
  injection h2 with _ h2
  obtain ⟨e1, e2⟩ := List.append_inj h2 (dec_inj h1)
  injection e2 with _ e2
  exact ⟨e1, e2⟩
theorem flds_inj : ∀ (a b : List L), flds a = flds b → a = b
  | [], [], _ => rfl
  | [], t :: b, h => by
    have : fld t ++ flds b = [] := h.symm
    exact absurd (List.append_eq_nil_iff.1 this).1 (fld_ne t)
  | s :: a, [], h => by
    have : fld s ++ flds a = [] := h
    exact absurd (List.append_eq_nil_iff.1 this).1 (fld_ne s)
  | s :: a, t :: b, h => by
    obtain ⟨rfl, e⟩ := fld_inj (show fld s ++ flds a = fld t ++ flds b from h)
    rw [flds_inj a b e]

/-- A message. -/
structure Ms where
  kind : Int
  fr : Int
  to : Int
  ep : Int
  ids : List L
  posts : List (L × L)
  pol : Pol
def Ms.zero : Ms := ⟨0, 0, 0, 0, [], [], Pol.zero⟩
/-- IDs rise, and are as long as they may be. -/
def riseI (l : List L) : Bool := l.all (fun s => decide (1 ≤ s.length ∧ s.length ≤ 16)) && (Pol8.chain l && decide (l.length ≤ 64))
structure MRight (m : Ms) : Prop where
  fr : 0 ≤ m.fr ∧ m.fr ≤ 5
  to : 0 ≤ m.to ∧ m.to ≤ 5
  ne : m.fr ≠ m.to
  ep : 0 ≤ m.ep ∧ m.ep ≤ 1000000
  kind : 1 ≤ m.kind ∧ m.kind ≤ 4
  ids : m.kind ≠ 1 → m.ids = []
  posts : m.kind ≠ 2 → m.posts = []
  pol : m.kind ≠ 3 → m.pol = Pol.zero
  noep : m.kind = 2 ∨ m.kind = 3 → m.ep = 0
  rpol : m.kind = 3 → Pol8.right m.pol = true
  rids : riseI m.ids = true
  rposts : riseI (m.posts.map (·.1)) = true
  raws : ∀ p ∈ m.posts, p.2.length ≤ 2000
/-- The posts' fields. -/
def two : List (L × L) → List L
  | [] => []
  | p :: r => p.1 :: p.2 :: two r
theorem two_len : ∀ l, (two l).length = 2 * l.length
  | [] => rfl
  | p :: r => by show (two r).length + 1 + 1 = 2 * (r.length + 1); rw [two_len r]; omega
theorem two_inj : ∀ a b, two a = two b → a = b
  | [], [], _ => rfl
  | [], _ :: _, h => by cases h
  | _ :: _, [], h => by cases h
  | (p, q) :: a, (r, s) :: b, h => by
    injection h with h1 h
    injection h with h2 h
    rw [two_inj a b h]
    have e1 : p = r := h1
    have e2 : q = s := h2
    rw [e1, e2]
def body (m : Ms) : List L :=
  if m.kind = 1 then dec m.ids.length :: m.ids else if m.kind = 2 then dec m.posts.length :: two m.posts else if m.kind = 3 then [Pol8.text m.pol] else []
def listM (m : Ms) : List L := dec m.kind.toNat :: dec m.fr.toNat :: dec m.to.toNat :: dec m.ep.toNat :: body m
def textM (m : Ms) : L := flds (listM m)
theorem Ms.ext' {a b : Ms} (h1 : a.kind = b.kind) (h2 : a.fr = b.fr) (h3 : a.to = b.to) (h4 : a.ep = b.ep) (h5 : a.ids = b.ids) (h6 : a.posts = b.posts) (h7 : a.pol = b.pol) : a = b := by
  obtain ⟨_, _, _, _, _, _, _⟩ := a
  obtain ⟨_, _, _, _, _, _, _⟩ := b
  simp only at h1 h2 h3 h4 h5 h6 h7
  subst h1 h2 h3 h4 h5 h6 h7
  rfl
theorem kinds {m : Ms} (h : MRight m) : m.kind = 1 ∨ m.kind = 2 ∨ m.kind = 3 ∨ m.kind = 4 := by have := h.kind; omega
/-- The list of one is no beginning of another's. -/
theorem list_pre {a b : Ms} (ha : MRight a) (hb : MRight b) {x : List L} (h : listM b = listM a ++ x) : a = b ∧ x = [] := by
  unfold listM at h
  simp only [List.cons_append, List.cons.injEq] at h
  obtain ⟨h1, h2, h3, h4, h5⟩ := h
  have e1 : a.kind = b.kind := by have := dec_inj h1; have := ha.kind; have := hb.kind; omega
  have e2 : a.fr = b.fr := by have := dec_inj h2; have := ha.fr; have := hb.fr; omega
  have e3 : a.to = b.to := by have := dec_inj h3; have := ha.to; have := hb.to; omega
  have e4 : a.ep = b.ep := by have := dec_inj h4; have := ha.ep; have := hb.ep; omega
  unfold body at h5
  rw [← e1] at h5
  rcases kinds ha with k | k | k | k
  · rw [if_pos k, if_pos k] at h5
    simp only [List.cons_append, List.cons.injEq] at h5
    have hl := dec_inj h5.1
    have hx : x = [] := by
      have := congrArg List.length h5.2
      rw [List.length_append] at this
      exact List.eq_nil_of_length_eq_zero (by omega)
    subst hx
    rw [List.append_nil] at h5
    have k' : b.kind = 1 := by rw [← e1]; exact k
    exact ⟨Ms.ext' e1 e2 e3 e4 h5.2.symm (by rw [ha.posts (by omega), hb.posts (by omega)]) (by rw [ha.pol (by omega), hb.pol (by omega)]), rfl⟩
  · rw [if_neg (by omega), if_pos k, if_neg (by omega), if_pos k] at h5
    simp only [List.cons_append, List.cons.injEq] at h5
    have hl := dec_inj h5.1
    have hx : x = [] := by
      have := congrArg List.length h5.2
      rw [List.length_append, two_len, two_len] at this
      exact List.eq_nil_of_length_eq_zero (by omega)
    subst hx
    rw [List.append_nil] at h5
    have k' : b.kind = 2 := by rw [← e1]; exact k
    exact ⟨Ms.ext' e1 e2 e3 e4 (by rw [ha.ids (by omega), hb.ids (by omega)]) (two_inj _ _ h5.2.symm) (by rw [ha.pol (by omega), hb.pol (by omega)]), rfl⟩
  · rw [if_neg (by omega), if_neg (by omega), if_pos k, if_neg (by omega), if_neg (by omega), if_pos k] at h5
    simp only [List.cons_append, List.nil_append, List.cons.injEq] at h5
    have k' : b.kind = 3 := by rw [← e1]; exact k
    have r1 := read_text ((right_iff _).1 (ha.rpol k))
    have r2 := read_text ((right_iff _).1 (hb.rpol k'))
    rw [← h5.1, r2] at r1
    exact ⟨Ms.ext' e1 e2 e3 e4 (by rw [ha.ids (by omega), hb.ids (by omega)]) (by rw [ha.posts (by omega), hb.posts (by omega)]) (Option.some.inj r1).symm, h5.2.symm⟩
  · rw [if_neg (by omega), if_neg (by omega), if_neg (by omega), if_neg (by omega), if_neg (by omega), if_neg (by omega)] at h5
    exact ⟨Ms.ext' e1 e2 e3 e4 (by rw [ha.ids (by omega), hb.ids (by omega)]) (by rw [ha.posts (by omega), hb.posts (by omega)]) (by rw [ha.pol (by omega), hb.pol (by omega)]), by simpa using h5.symm⟩
theorem text_inj {a b : Ms} (ha : MRight a) (hb : MRight b) (h : textM a = textM b) : a = b := by
  have := flds_inj _ _ h
  exact (list_pre ha hb (x := []) (by rw [List.append_nil]; exact this.symm)).1

/-- The digits that a text begins with, six at most. -/
def kd (s : L) : L := (s.takeWhile dig).take 6
/-- The field that a text begins with, and the rest. -/
def oneF (s : L) : Option (L × L) :=
  if (kd s).length = 0 ∨ (1 < (kd s).length ∧ s[0]? = some 48) ∨ s.length ≤ (kd s).length + 1 + numTo 0 (kd s) ∨ s[(kd s).length]? ≠ some 58 ∨ s[(kd s).length + 1 + numTo 0 (kd s)]? ≠ some 44 then none
  else some ((s.drop ((kd s).length + 1)).take (numTo 0 (kd s)), s.drop ((kd s).length + 2 + numTo 0 (kd s)))
/-- The beginning of a field, not whole. -/
def begB (s : L) : Bool :=
  if (kd s).length = 0 ∨ (1 < (kd s).length ∧ s[0]? = some 48) then false
  else decide ((kd s).length = s.length ∨ (s[(kd s).length]? = some 58 ∧ s.length - (kd s).length - 1 ≤ numTo 0 (kd s)))
theorem dec_head (n : Nat) (h : 10 ≤ n) : ∃ c r, dec n = c :: r ∧ c ≠ 48 ∧ r ≠ [] := by
  induction n using Nat.strongRecOn with
  | _ n ih =>
    rw [dec_big n (by omega)]
    by_cases h2 : n / 10 < 10
    · rw [dec_small _ h2]
      refine ⟨_, _, rfl, ?_, by simp⟩
      intro e
      have := congrArg UInt8.toNat e
      simp at this
      omega
    · obtain ⟨c, r, e, hc, hr⟩ := ih (n / 10) (by omega) (by omega)
      rw [e]
      exact ⟨c, r ++ _, rfl, hc, by simp⟩
theorem numTo_snoc (l : L) (c : UInt8) : numTo 0 (l ++ [c]) = numTo 0 l * 10 + (c.toNat - 48) := by
  rw [numTo_app]
  rfl
theorem dig_iff (c : UInt8) : dig c = true ↔ 48 ≤ c.toNat ∧ c.toNat ≤ 57 := by unfold dig; exact decide_eq_true_iff
theorem ofNat_dig {c : UInt8} (h : dig c = true) : UInt8.ofNat (48 + (c.toNat - 48)) = c := by
  have := (dig_iff c).1 h
  rw [show 48 + (c.toNat - 48) = c.toNat by omega]
  simp
/-- Digits without a 0 ahead are a number's. -/
theorem dec_num : ∀ (l : L), l ≠ [] → (∀ c ∈ l, dig c = true) → (1 < l.length → l[0]? ≠ some 48) → dec (numTo 0 l) = l := by
  intro l
  suffices ∀ (n : Nat) (l : L), l.length = n → l ≠ [] → (∀ c ∈ l, dig c = true) → (1 < l.length → l[0]? ≠ some 48) → dec (numTo 0 l) = l from this l.length l rfl
  intro n
  induction n using Nat.strongRecOn with
  | _ n ih =>
    intro l hn hne hd h0
    obtain ⟨a, c, rfl⟩ : ∃ a c, l = a ++ [c] := ⟨l.dropLast, l.getLast hne, (List.dropLast_concat_getLast hne).symm⟩
    have hc := hd c (by simp)
    have hcn := (dig_iff c).1 hc
    rw [numTo_snoc]
    by_cases ha : a = []
    · subst ha
      show dec (0 * 10 + (c.toNat - 48)) = [c]
      rw [dec_small _ (by omega), Nat.zero_mul, Nat.zero_add, ofNat_dig hc]
    · have hla : 0 < a.length := List.length_pos_iff.2 ha
      have hlen : (a ++ [c]).length = a.length + 1 := by simp
      have ha0 : a[0]? ≠ some 48 := by
        have h := h0 (by omega)
        rw [List.getElem?_append_left hla] at h
        exact h
      have iha := ih a.length (by omega) a rfl ha (fun x hx => hd x (List.mem_append_left _ hx)) (fun _ => ha0)
      have hpos : 1 ≤ numTo 0 a := by
        rcases Nat.eq_zero_or_pos (numTo 0 a) with h | h
        · rw [h, dec_small 0 (by decide)] at iha
          rw [← iha] at ha0
          exact absurd rfl ha0
        · exact h
      rw [dec_big _ (by omega), show (numTo 0 a * 10 + (c.toNat - 48)) / 10 = numTo 0 a by omega, show (numTo 0 a * 10 + (c.toNat - 48)) % 10 = c.toNat - 48 by omega, iha, ofNat_dig hc]
theorem num_lt6 : ∀ (l : L), (∀ c ∈ l, dig c = true) → l.length ≤ 6 → numTo 0 l ≤ 999999 := by
  suffices ∀ (n : Nat) (l : L), l.length = n → (∀ c ∈ l, dig c = true) → numTo 0 l < 10 ^ n by
    intro l hd hl
    have h := this l.length l rfl hd
    have h2 : 10 ^ l.length ≤ 10 ^ 6 := Nat.pow_le_pow_right (by decide) hl
    omega
  intro n
  induction n with
  | zero =>
    intro l hl _
    rw [List.eq_nil_of_length_eq_zero hl]
    decide
  | succ n ih =>
    intro l hl hd
    have hne : l ≠ [] := fun e => by rw [e] at hl; simp at hl
    obtain ⟨a, c, rfl⟩ : ∃ a c, l = a ++ [c] := ⟨l.dropLast, l.getLast hne, (List.dropLast_concat_getLast hne).symm⟩
    rw [numTo_snoc]
    have h1 := ih a (by simpa using hl) (fun x hx => hd x (List.mem_append_left _ hx))
    have h2 := (dig_iff c).1 (hd c (by simp))
    rw [Nat.pow_succ]
    omega
theorem kd_dec (n : Nat) (h : n ≤ 999999) (x : L) : kd (dec n ++ 58 :: x) = dec n := by
  unfold kd
  rw [tw_dec, List.take_of_length_le (by have := dec_len n 5 (by omega); omega)]
theorem one_fld (t r : L) (h : t.length ≤ 999999) : oneF (fld t ++ r) = some (t, r) := by
  unfold oneF
  rw [fld_cut, kd_dec _ h, (dec_facts t.length).2]
  have hne : 0 < (dec t.length).length := List.length_pos_iff.2 (dec_ne _)
  have hl : (dec t.length ++ 58 :: (t ++ 44 :: r)).length = (dec t.length).length + 1 + t.length + 1 + r.length := by simp; omega
  rw [if_neg, List.drop_append, List.drop_append]
  · have e1 : (dec t.length).drop ((dec t.length).length + 1) = [] := List.drop_eq_nil_of_le (by omega)
    have e2 : (dec t.length).drop ((dec t.length).length + 2 + t.length) = [] := List.drop_eq_nil_of_le (by omega)
    rw [e1, e2, show (dec t.length).length + 1 - (dec t.length).length = 1 by omega, show (dec t.length).length + 2 + t.length - (dec t.length).length = t.length + 1 + 1 by omega]
    simp
  · intro hh
    rcases hh with hh | hh | hh | hh | hh
    · omega
    · by_cases h10 : t.length < 10
      · rw [dec_small _ h10] at hh
        simp at hh
      · obtain ⟨c, q, e, hc, _⟩ := dec_head t.length (by omega)
        rw [e] at hh
        simp at hh
        exact hc hh.2
    · omega
    · rw [List.getElem?_append_right (Nat.le_refl _), Nat.sub_self] at hh
      exact hh rfl
    · rw [List.getElem?_append_right (by omega), show (dec t.length).length + 1 + t.length - (dec t.length).length = t.length + 1 by omega, List.getElem?_cons_succ, List.getElem?_append_right (Nat.le_refl _), Nat.sub_self] at hh
      exact hh rfl
theorem one_is {s t r : L} (h : oneF s = some (t, r)) : s = fld t ++ r ∧ t.length ≤ 999999 := by
  unfold oneF at h
  split at h
  · cases h
  · rename_i hc
    obtain ⟨K, hK⟩ : ∃ K, K = (kd s).length := ⟨_, rfl⟩
    obtain ⟨n, hn⟩ : ∃ n, n = numTo 0 (kd s) := ⟨_, rfl⟩
    rw [← hK, ← hn] at hc h
    have c1 : K ≠ 0 := fun e => hc (.inl e)
    have c2 : ¬ (1 < K ∧ s[0]? = some 48) := fun e => hc (.inr (.inl e))
    have c3 : K + 1 + n < s.length := by
      rcases Nat.lt_or_ge (K + 1 + n) s.length with h | h
      · exact h
      · exact absurd (.inr (.inr (.inl h))) hc
    have c4 : s[K]? = some 58 := Classical.byContradiction fun e => hc (.inr (.inr (.inr (.inl e))))
    have c5 : s[K + 1 + n]? = some 44 := Classical.byContradiction fun e => hc (.inr (.inr (.inr (.inr e))))
    injection h with h
    injection h with h1 h2
    have hk6 : K ≤ 6 := by rw [hK]; unfold kd; rw [List.length_take]; omega
    have hpre : kd s = s.take K := by
      have h3 : s.takeWhile dig <+: s := List.takeWhile_prefix ..
      have h4 : kd s <+: s := (List.take_prefix ..).trans h3
      rw [hK]
      exact List.prefix_iff_eq_take.1 h4
    have hdig : ∀ c ∈ kd s, dig c = true := fun c hcc => by
      have : c ∈ s.takeWhile dig := List.mem_of_mem_take hcc
      exact List.all_eq_true.1 (List.all_takeWhile ..) c this
    have hds : dec n = kd s := by
      rw [hn]
      refine dec_num _ (fun e => c1 (by rw [hK, e]; rfl)) hdig (fun hl => ?_)
      intro e
      refine c2 ⟨by rw [hK]; exact hl, ?_⟩
      rw [hpre, List.getElem?_take, if_pos (by omega)] at e
      exact e
    have htl : t.length = n := by rw [← h1, List.length_take, List.length_drop]; omega
    have hnl : n ≤ 999999 := by
      have h6 : (kd s).length ≤ 6 := by rw [← hK]; exact hk6
      have := num_lt6 (kd s) hdig h6
      omega
    refine ⟨?_, by omega⟩
    rw [fld_cut, htl, hds, hpre]
    have e1 : s = s.take K ++ s.drop K := (List.take_append_drop K s).symm
    have e2 : s.drop K = 58 :: s.drop (K + 1) := by rw [List.drop_eq_getElem_cons (by omega)]; congr 1; rw [List.getElem?_eq_getElem (by omega)] at c4; exact Option.some.inj c4
    have e3 : s.drop (K + 1) = t ++ s.drop (K + 1 + n) := by
      have h9 := (List.take_append_drop n (s.drop (K + 1))).symm
      rw [List.drop_drop, h1] at h9
      exact h9
    have e4 : s.drop (K + 1 + n) = 44 :: r := by
      rw [List.drop_eq_getElem_cons (by omega), ← h2, show K + 1 + n + 1 = K + 2 + n by omega]
      rw [List.getElem?_eq_getElem (by omega)] at c5
      rw [Option.some.inj c5]
    rw [← e4, ← e3, ← e2, ← e1]
end Msg15

namespace Msg15
open Go
open Pol8 hiding text right Right

/-- A text's fields, and what is left that begins with none. -/
structure Fl (s : L) (l : List L) (left : L) : Prop where
  eq : s = flds l ++ left
  small : ∀ t ∈ l, t.length ≤ 999999
  stop : oneF left = none
theorem Fl.one {s : L} {l : List L} {left : L} (h : Fl s l left) : ∀ {l' : List L} {left' : L}, Fl s l' left' → l = l' ∧ left = left' := by
  obtain ⟨e, hs, hp⟩ := h
  subst e
  induction l with
  | nil =>
    intro l' left' h'
    cases l' with
    | nil => exact ⟨rfl, h'.eq⟩
    | cons t l' =>
      have h1 := h'.eq
      simp only [flds, List.nil_append, List.append_assoc] at h1
      rw [h1, one_fld t _ (h'.small t (List.mem_cons_self ..))] at hp
      cases hp
  | cons t l ih =>
    intro l' left' h'
    cases l' with
    | nil =>
      have h1 := h'.eq
      simp only [flds, List.nil_append, List.append_assoc] at h1
      have hp' := h'.stop
      rw [← h1, one_fld t _ (hs t (List.mem_cons_self ..))] at hp'
      cases hp'
    | cons u l' =>
      have h1 := h'.eq
      simp only [flds, List.append_assoc] at h1
      obtain ⟨rfl, e⟩ := fld_inj h1
      obtain ⟨rfl, rfl⟩ := ih (fun x hx => hs x (List.mem_cons_of_mem _ hx)) ⟨e, fun x hx => h'.small x (List.mem_cons_of_mem _ hx), h'.stop⟩
      exact ⟨rfl, rfl⟩
theorem fld_len (t : L) : t.length + 3 ≤ (fld t).length := by
  unfold fld
  have : 0 < (dec t.length).length := List.length_pos_iff.2 (dec_ne _)
  simp
  omega
theorem fl_all (s : L) : ∃ l left, Fl s l left := by
  suffices ∀ n (s : L), s.length ≤ n → ∃ l left, Fl s l left from this s.length s (Nat.le_refl _)
  intro n
  induction n with
  | zero =>
    intro s h
    have : s = [] := List.eq_nil_of_length_eq_zero (by omega)
    subst this
    exact ⟨[], [], rfl, by simp, by decide⟩
  | succ n ih =>
    intro s h
    cases ho : oneF s with
    | none => exact ⟨[], s, rfl, by simp, ho⟩
    | some tr =>
      obtain ⟨t, r⟩ := tr
      obtain ⟨e, ht⟩ := one_is ho
      have hl := fld_len t
      have he := congrArg List.length e
      rw [List.length_append] at he
      obtain ⟨l, left, hf⟩ := ih r (by omega)
      refine ⟨t :: l, left, ?_, ?_, hf.stop⟩
      · show s = fld t ++ flds l ++ left
        rw [List.append_assoc, ← hf.eq]
        exact e
      · intro x hx
        rcases List.mem_cons.1 hx with rfl | hx
        · exact ht
        · exact hf.small x hx
theorem flds_pre : ∀ (a b : List L) (y : L), flds b = flds a ++ y → ∃ x, b = a ++ x ∧ y = flds x
  | [], b, y, h => ⟨b, rfl, h.symm⟩
  | s :: a, [], y, h => by
    have h1 : [] = fld s ++ flds a ++ y := h
    rw [List.append_assoc] at h1
    exact absurd (List.append_eq_nil_iff.1 h1.symm).1 (fld_ne s)
  | s :: a, t :: b, y, h => by
    have h1 : fld t ++ flds b = fld s ++ (flds a ++ y) := by rw [← List.append_assoc]; exact h
    obtain ⟨rfl, e⟩ := fld_inj h1
    obtain ⟨x, rfl, rfl⟩ := flds_pre a b y e
    exact ⟨x, rfl, rfl⟩
/-- A beginning of a message's text is none. -/
theorem cut_none {m m' : Ms} (h : MRight m) (h' : MRight m') {k : Nat} (hk : k < (textM m).length) : textM m' ≠ (textM m).take k := by
  intro e
  have e1 : flds (listM m) = flds (listM m') ++ (textM m).drop k := by
    rw [show flds (listM m') = (textM m).take k from e, List.take_append_drop]
    rfl
  obtain ⟨x, hx, hy⟩ := flds_pre _ _ _ e1
  obtain ⟨_, rfl⟩ := list_pre h' h hx
  have := congrArg List.length hy
  rw [List.length_drop] at this
  have h0 : (flds ([] : List L)).length = 0 := rfl
  omega
theorem lns_len (head : L) (B : Nat) : ∀ l : List L, (∀ x ∈ l, x.length ≤ B) → (lns head l).length ≤ l.length * (head.length + B + 2)
  | [], _ => by simp [lns]
  | x :: r, h => by
    have h1 := lns_len head B r (fun y hy => h y (List.mem_cons_of_mem _ hy))
    have h2 := h x (List.mem_cons_self ..)
    show (ln head x ++ lns head r).length ≤ (r.length + 1) * (head.length + B + 2)
    rw [List.length_append, Nat.add_mul, Nat.one_mul]
    unfold ln
    simp only [List.length_append, List.length_singleton]
    omega
theorem word_len {x : L} (h : isWord x = true) : x.length ≤ 32 := by
  unfold isWord at h
  simp at h
  omega
theorem words_64 {l : List L} (h : words l = true) : l.length ≤ 64 := by
  unfold words rises at h
  simp at h
  omega
theorem pol_len {p : Pol} (h : Pol8.Right p) : (Pol8.text p).length ≤ 40000 := by
  have hw : ∀ l, words l = true → ∀ x ∈ l, x.length ≤ 65 := fun l hl x hx => by have := word_len (words_all hl x hx); omega
  have ha : ∀ x ∈ p.at_, x.length ≤ 65 := fun x hx => by
    have h1 := h.ao x hx
    unfold attrOk at h1
    cases hd : dot x with
    | none => rw [hd] at h1; cases h1
    | some na =>
      obtain ⟨n, a⟩ := na
      rw [hd] at h1
      simp only [Bool.and_eq_true, decide_eq_true_eq] at h1
      obtain ⟨e, _⟩ := dot_is x n a hd
      have h2 : a.length ≤ 32 := by
        have h3 := h1.2
        unfold may at h3
        simp only [Bool.and_eq_true] at h3
        exact word_len h3.1
      have h4 : n.length ≤ 32 := by
        rcases h1.1 with e2 | e2
        · rw [e2]; decide
        · exact word_len (words_all h.el n e2)
      rw [e]
      simp
      omega
  have hat : p.at_.length ≤ 64 := by
    have := h.at_
    unfold rises at this
    simp at this
    omega
  have l1 := lns_len kElem 65 p.el (hw _ h.el)
  have l2 := lns_len kAttr 65 p.at_ ha
  have l3 := lns_len kScheme 65 p.sc (hw _ h.sc)
  have l4 := lns_len kClass 65 p.cl (hw _ h.cl)
  have l5 := lns_len kProp 65 p.pr (hw _ h.pr)
  have m1 := words_64 h.el
  have m3 := words_64 h.sc
  have m4 := words_64 h.cl
  have m5 := words_64 h.pr
  have d1 := dec_len p.ep.toNat 6 (by have := h.c; omega)
  have d2 := dec_len p.dp.toNat 6 (by have := h.c; omega)
  have d3 := dec_len p.nd.toNat 6 (by have := h.c; omega)
  have d4 := dec_len p.bt.toNat 6 (by have := h.c; omega)
  have k1 : kElem.length = 4 := rfl
  have k2 : kAttr.length = 4 := rfl
  have k3 : kScheme.length = 6 := rfl
  have k4 : kClass.length = 5 := rfl
  have k5 : kProp.length = 4 := rfl
  have k6 : kEpoch.length = 5 := rfl
  have k7 : kCaps.length = 4 := rfl
  rw [k1] at l1
  rw [k2] at l2
  rw [k3] at l3
  rw [k4] at l4
  rw [k5] at l5
  unfold Pol8.text
  simp only [List.length_append, List.length_singleton]
  omega
theorem list_small {m : Ms} (h : MRight m) : ∀ t ∈ listM m, t.length ≤ 999999 := by
  have hd : ∀ n : Nat, n ≤ 1000000 → (dec n).length ≤ 999999 := fun n hn => by have := dec_len n 6 (by omega); omega
  intro t ht
  unfold listM at ht
  have h1 := h.kind
  have h2 := h.fr
  have h3 := h.to
  have h4 := h.ep
  simp only [List.mem_cons] at ht
  rcases ht with rfl | rfl | rfl | rfl | ht
  · exact hd _ (by omega)
  · exact hd _ (by omega)
  · exact hd _ (by omega)
  · exact hd _ (by omega)
  · have hr : ∀ l, riseI l = true → l.length ≤ 64 ∧ ∀ x ∈ l, x.length ≤ 16 := fun l hl => by
      unfold riseI at hl
      simp only [Bool.and_eq_true, List.all_eq_true, decide_eq_true_eq] at hl
      exact ⟨hl.2.2, fun x hx => (hl.1 x hx).2⟩
    unfold body at ht
    split at ht
    · rcases List.mem_cons.1 ht with rfl | ht
      · exact hd _ (by have := (hr _ h.rids).1; omega)
      · have := (hr _ h.rids).2 t ht
        omega
    · split at ht
      · rcases List.mem_cons.1 ht with rfl | ht
        · have := (hr _ h.rposts).1
          rw [List.length_map] at this
          exact hd _ (by omega)
        · have h5 := (hr _ h.rposts).2
          have h6 := h.raws
          have : ∀ (l : List (L × L)), (∀ x ∈ l.map (·.1), x.length ≤ 16) → (∀ p ∈ l, p.2.length ≤ 2000) → ∀ x ∈ two l, x.length ≤ 999999 := by
            intro l
            induction l with
            | nil => intro _ _ x hx; cases hx
            | cons p l ih =>
              intro a b x hx
              rcases List.mem_cons.1 hx with rfl | hx
              · have := a p.1 (by simp)
                omega
              · rcases List.mem_cons.1 hx with rfl | hx
                · have := b p (List.mem_cons_self ..)
                  omega
                · exact ih (fun y hy => a y (by simp only [List.map_cons, List.mem_cons]; exact .inr hy)) (fun q hq => b q (List.mem_cons_of_mem _ hq)) x hx
          exact this m.posts h5 h6 t ht
      · split at ht
        · rename_i hk3
          rw [List.mem_singleton.1 ht]
          have := pol_len ((right_iff _).1 (h.rpol hk3))
          omega
        · cases ht
theorem fl_text {m : Ms} (h : MRight m) : Fl (textM m) (listM m) [] := ⟨(List.append_nil _).symm, list_small h, by decide⟩
theorem fl_more {m : Ms} (h : MRight m) : Fl (textM m ++ [120]) (listM m) [120] := ⟨rfl, list_small h, by decide⟩
/-- What is told of a text. -/
def Dcd (s : L) (m : Ms) (e : Int) : Prop :=
  (MRight m ∧ textM m = s ∧ e = 0) ∨ ((∀ m', MRight m' → textM m' ≠ s) ∧ m = Ms.zero ∧ ∃ l left, Fl s l left ∧ e = if begB left = true then 3 else 2)
theorem Dcd.one {s : L} {m m' : Ms} {e e' : Int} (h : Dcd s m e) (h' : Dcd s m' e') : m = m' ∧ e = e' := by
  rcases h with ⟨a, b, c⟩ | ⟨a, b, l, left, f, c⟩
  · rcases h' with ⟨a', b', c'⟩ | ⟨a', _⟩
    · exact ⟨text_inj a a' (by rw [b, b']), by rw [c, c']⟩
    · exact absurd b (a' m a)
  · rcases h' with ⟨a', b', _⟩ | ⟨_, b', l', left', f', c'⟩
    · exact absurd b' (a m' a')
    · obtain ⟨_, rfl⟩ := f.one f'
      exact ⟨by rw [b, b'], by rw [c, c']⟩
theorem dcd_text {m : Ms} (h : MRight m) : Dcd (textM m) m 0 := .inl ⟨h, rfl, rfl⟩
theorem dcd_ok {s : L} {m : Ms} (h : Dcd s m 0) : MRight m ∧ textM m = s := by
  rcases h with ⟨a, b, _⟩ | ⟨_, _, _, _, _, c⟩
  · exact ⟨a, b⟩
  · split at c <;> cases c
theorem dcd_cut {m : Ms} (h : MRight m) {k : Nat} (hk : k < (textM m).length) {n : Ms} {e : Int} (hd : Dcd ((textM m).take k) n e) : n = Ms.zero ∧ (e = 3 ∨ e = 2) := by
  rcases hd with ⟨a, b, _⟩ | ⟨_, b, _, _, _, c⟩
  · exact absurd b (cut_none h a hk)
  · refine ⟨b, ?_⟩
    rw [c]
    split
    · exact .inl rfl
    · exact .inr rfl
theorem dcd_more {m : Ms} (h : MRight m) {n : Ms} {e : Int} (hd : Dcd (textM m ++ [120]) n e) : n = Ms.zero ∧ e = 2 := by
  rcases hd with ⟨a, b, _⟩ | ⟨_, b, l, left, f, c⟩
  · have h1 := fl_text a
    rw [b] at h1
    obtain ⟨_, h2⟩ := h1.one (fl_more h)
    cases h2
  · obtain ⟨_, rfl⟩ := f.one (fl_more h)
    exact ⟨b, by rw [c]; rfl⟩
end Msg15

namespace Msg15
open Go
open Pol8 hiding text right Right

theorem dec_no58 (n : Nat) : (58 : UInt8) ∉ dec n := fun h => by
  have := List.all_eq_true.1 (dec_facts n).1 58 h
  rw [dig58] at this
  cases this
theorem part58 {a b c d : L} (ha : (58 : UInt8) ∉ a) (hc : (58 : UInt8) ∉ c) (h : a ++ 58 :: b = c ++ 58 :: d) : a = c ∧ b = d := by
  have h1 := cutB_some 58 a b ha
  rw [h, cutB_some 58 c d hc] at h1
  injection h1 with h1
  injection h1 with h1 h2
  exact ⟨h1.symm, h2.symm⟩
theorem fld_colon {d m t r : L} (hd : (58 : UInt8) ∉ d) (h : d ++ 58 :: m = fld t ++ r) : d = dec t.length ∧ m = t ++ 44 :: r := by
  rw [fld_cut] at h
  exact part58 hd (dec_no58 _) h
theorem fld_none {s : L} (h : (58 : UInt8) ∉ s) (t r : L) : s ≠ fld t ++ r := fun e => by
  rw [e, fld_cut] at h
  exact h (by simp)
theorem fld_make {d m : L} {n : Nat} (hd : d = dec n) (hn : m[n]? = some 44) : d ++ 58 :: m = fld (m.take n) ++ m.drop (n + 1) := by
  have hl : n < m.length := (List.getElem?_eq_some_iff.1 hn).1
  rw [fld_cut, hd]
  have e : (m.take n).length = n := by rw [List.length_take]; omega
  rw [e]
  congr 2
  conv => lhs; rw [← List.take_append_drop n m]
  congr 1
  rw [List.drop_eq_getElem_cons hl]
  congr 1
  rw [List.getElem?_eq_getElem hl] at hn
  exact Option.some.inj hn
/-- No field: the length is none, or it is too great, or no comma closes. -/
theorem fld_not {d m : L} (hd : (58 : UInt8) ∉ d) (h : ∀ n, d = dec n → n < m.length → m[n]? ≠ some 44) (t r : L) : d ++ 58 :: m ≠ fld t ++ r := fun e => by
  obtain ⟨h1, h2⟩ := fld_colon hd e
  refine h t.length h1 (by rw [h2]; simp) ?_
  rw [h2, List.getElem?_append_right (Nat.le_refl _), Nat.sub_self]
  rfl
theorem colon_at {s : L} (h : (58 : UInt8) ∈ s) : ∃ d m, s = d ++ 58 :: m ∧ (58 : UInt8) ∉ d := List.eq_append_cons_of_mem h
theorem kd_take (s : L) : kd s = s.take (kd s).length := by
  have h3 : s.takeWhile dig <+: s := List.takeWhile_prefix ..
  have h4 : kd s <+: s := (List.take_prefix ..).trans h3
  exact List.prefix_iff_eq_take.1 h4
theorem kd_dig (s : L) : ∀ c ∈ kd s, dig c = true := fun c hc => by
  have : c ∈ s.takeWhile dig := List.mem_of_mem_take hc
  exact List.all_eq_true.1 (List.all_takeWhile ..) c this
theorem kd_six (s : L) : (kd s).length ≤ 6 := by unfold kd; rw [List.length_take]; omega
theorem kd_num {s : L} (h1 : (kd s).length ≠ 0) (h2 : ¬ (1 < (kd s).length ∧ s[0]? = some 48)) : dec (numTo 0 (kd s)) = kd s := by
  refine dec_num _ (fun e => h1 (by rw [e]; rfl)) (kd_dig s) (fun hl e => h2 ⟨hl, ?_⟩)
  rw [kd_take s, List.getElem?_take, if_pos (by omega)] at e
  exact e
theorem dec_lead {n : Nat} (h : 1 < (dec n).length) (x : L) : (dec n ++ x)[0]? ≠ some 48 := by
  by_cases h10 : n < 10
  · rw [dec_small _ h10] at h
    simp at h
  · obtain ⟨c, q, e, hc, _⟩ := dec_head n (by omega)
    rw [e]
    intro hh
    simp at hh
    exact hc hh
theorem kd_is (n : Nat) (x : L) (h : (dec n).length ≤ 6) (hx : x = [] ∨ ∃ m, x = 58 :: m) : kd (dec n ++ x) = dec n := by
  unfold kd
  rcases hx with rfl | ⟨m, rfl⟩
  · rw [List.append_nil]
    have h1 : (dec n).takeWhile dig = dec n := by
      have := List.takeWhile_append_of_pos (l₁ := dec n) (l₂ := []) (p := dig) (fun a ha => List.all_eq_true.1 (dec_facts n).1 a ha)
      simpa using this
    rw [h1, List.take_of_length_le h]
  · rw [tw_dec, List.take_of_length_le h]
/-- The beginning of a field, not whole, by its digits. -/
def begP (d m : L) : Prop := ∃ n, d = dec n ∧ d.length ≤ 6 ∧ m.length ≤ n
theorem begB_of {d m x : L} (hx : (x = [] ∧ m = []) ∨ x = 58 :: m) (h : begP d m) : begB (d ++ x) = true := by
  obtain ⟨n, rfl, h6, hm⟩ := h
  have hk : kd (dec n ++ x) = dec n := kd_is n x h6 (by rcases hx with ⟨h, _⟩ | h; exact .inl h; exact .inr ⟨m, h⟩)
  have h0 : (dec n).length ≠ 0 := by have := List.length_pos_iff.2 (dec_ne n); omega
  unfold begB
  rw [hk, (dec_facts n).2, if_neg (by
    rintro (h | ⟨h1, h2⟩)
    · exact h0 h
    · exact dec_lead h1 x h2)]
  apply decide_eq_true
  rcases hx with ⟨rfl, _⟩ | rfl
  · exact .inl (by simp)
  · refine .inr ⟨by rw [List.getElem?_append_right (Nat.le_refl _), Nat.sub_self]; rfl, ?_⟩
    simp
    omega
theorem begB_to {d m x : L} (hd : (58 : UInt8) ∉ d) (hx : (x = [] ∧ m = []) ∨ x = 58 :: m) (h : begB (d ++ x) = true) : begP d m := by
  unfold begB at h
  split at h
  · cases h
  · rename_i hc
    have c1 : (kd (d ++ x)).length ≠ 0 := fun e => hc (.inl e)
    have c2 := kd_num c1 (fun e => hc (.inr e))
    have h := of_decide_eq_true h
    have hkt := kd_take (d ++ x)
    have h6 := kd_six (d ++ x)
    have hno : (58 : UInt8) ∉ kd (d ++ x) := fun e => by
      have := kd_dig _ _ e
      rw [dig58] at this
      cases this
    rcases h with h | ⟨h1, h2⟩
    · have e : kd (d ++ x) = d ++ x := by rw [h, List.take_length] at hkt; exact hkt
      rcases hx with ⟨rfl, rfl⟩ | rfl
      · rw [List.append_nil] at *
        exact ⟨numTo 0 (kd d), by rw [c2, e], by rw [← e]; exact h6, by simp⟩
      · exact absurd (by rw [e]; simp) hno
    · obtain ⟨K, hK⟩ : ∃ K, K = kd (d ++ x) := ⟨_, rfl⟩
      rw [← hK] at c2 h1 h2 hkt h6 hno
      have hl : K.length < (d ++ x).length := (List.getElem?_eq_some_iff.1 h1).1
      have e : d ++ x = K ++ 58 :: (d ++ x).drop (K.length + 1) := by
        conv => lhs; rw [← List.take_append_drop K.length (d ++ x), ← hkt]
        congr 1
        rw [List.drop_eq_getElem_cons hl]
        congr 1
        rw [List.getElem?_eq_getElem hl] at h1
        exact Option.some.inj h1
      rcases hx with ⟨rfl, rfl⟩ | rfl
      · rw [List.append_nil] at e
        exact absurd (by rw [e]; simp) hd
      · obtain ⟨e1, e2⟩ := part58 hd hno e
        refine ⟨numTo 0 K, by rw [c2, e1], by rw [e1]; exact h6, ?_⟩
        rw [e2, List.length_drop]
        omega
theorem fl_make {s : L} {l : List L} {left : L} (h : s = flds l ++ left) (hs : s.length ≤ 999999) (hn : ∀ t r, left ≠ fld t ++ r) : Fl s l left := by
  refine ⟨h, ?_, ?_⟩
  · intro t ht
    have : ∀ (l : List L) (t : L), t ∈ l → t.length ≤ (flds l).length := by
      intro l
      induction l with
      | nil => intro t ht; cases ht
      | cons u l ih =>
        intro t ht
        show t.length ≤ (fld u ++ flds l).length
        rw [List.length_append]
        rcases List.mem_cons.1 ht with rfl | ht
        · have := fld_len t
          omega
        · have := ih t ht
          omega
    have h1 := this l t ht
    have h2 := congrArg List.length h
    rw [List.length_append] at h2
    omega
  · cases ho : oneF left with
    | none => rfl
    | some x =>
      obtain ⟨t, r⟩ := x
      exact absurd (one_is ho).1 (hn t r)

/-- What one call of a reader gives. -/
def Rdr (s t r : L) : Prop := s = fld t ++ r ∨ ((∀ a b, s ≠ fld a ++ b) ∧ t = [] ∧ r = [])
/-- The fields that were read: whatever the fields of all are, if there are as many. -/
def Pre (s : L) (l : List L) (cur : L) : Prop := ∀ F, s = flds F → l.length ≤ F.length → ∃ G, F = l ++ G ∧ cur = flds G
theorem Pre.start (s : L) : Pre s [] s := fun F h _ => ⟨F, rfl, h⟩
theorem Pre.step {s cur t r : L} {l : List L} (h : Pre s l cur) (hr : Rdr cur t r) : Pre s (l ++ [t]) r := by
  intro F hF hl
  rw [List.length_append] at hl
  have hl' : l.length + 1 ≤ F.length := hl
  obtain ⟨G, e, hc⟩ := h F hF (by omega)
  cases G with
  | nil =>
    rw [e, List.append_nil] at hl'
    omega
  | cons g G =>
    have hc' : cur = fld g ++ flds G := hc
    rcases hr with hr | ⟨hr, _⟩
    · rw [hr] at hc'
      obtain ⟨rfl, e2⟩ := fld_inj hc'
      exact ⟨G, by rw [e]; simp, e2⟩
    · exact absurd hc' (hr g _)
/-- A number that was read. -/
def Nm (x : L) (v : Int) : Prop := ∀ n : Nat, n ≤ 1000000 → x = dec n → v = (n : Int)
theorem Nm.is {n : Nat} {v : Int} (h : Nm (dec n) v) (hn : n ≤ 1000000) : v = (n : Int) := h n hn rfl
theorem Rdr.len {s t r : L} (h : Rdr s t r) : t.length ≤ s.length ∧ r.length ≤ s.length := by
  rcases h with rfl | ⟨_, rfl, rfl⟩
  · have := fld_len t
    rw [List.length_append]
    omega
  · simp
end Msg15

namespace Mail17
open Go
open Pol8 hiding text right Right
open Msg15

/-- How many messages are to a node. -/
def cnt (t : Int) (ms : List Ms) : Nat := (ms.filter fun m => decide (m.to = t)).length
theorem cnt_nil (t : Int) : cnt t [] = 0 := rfl
theorem cnt_app (t : Int) (a b : List Ms) : cnt t (a ++ b) = cnt t a + cnt t b := by
  unfold cnt
  rw [List.filter_append, List.length_append]
theorem cnt_one (t : Int) (m : Ms) : cnt t [m] = if m.to = t then 1 else 0 := by
  unfold cnt
  by_cases h : m.to = t
  · simp [h]
  · simp [h]
theorem cnt_cons (t : Int) (m : Ms) (ms : List Ms) : cnt t (m :: ms) = (if m.to = t then 1 else 0) + cnt t ms := by
  have := cnt_app t [m] ms
  rw [cnt_one] at this
  exact this
theorem cnt_sub {t : Int} {a b : List Ms} (h : a.Sublist b) : cnt t a ≤ cnt t b := (h.filter _).length_le
theorem cnt_le (t : Int) (a : List Ms) : cnt t a ≤ a.length := List.length_filter_le _ _
/-- Its text is not too long. -/
def Sml (m : Ms) : Prop := (textM m).length ≤ 99999
/-- All may be, and there are not too many. -/
structure Fine (ms : List Ms) : Prop where
  r : ∀ m ∈ ms, MRight m
  s : ∀ m ∈ ms, Sml m
  c : ∀ t, cnt t ms ≤ 16
theorem fine_nil : Fine [] := ⟨fun m h => (by cases h), fun m h => (by cases h), fun t => (by rw [cnt_nil]; omega)⟩
theorem len_cnt : ∀ ms : List Ms, (∀ m ∈ ms, 0 ≤ m.to ∧ m.to ≤ 5) → ms.length = cnt 0 ms + cnt 1 ms + cnt 2 ms + cnt 3 ms + cnt 4 ms + cnt 5 ms
  | [], _ => rfl
  | m :: ms, h => by
    have ih := len_cnt ms (fun x hx => h x (List.mem_cons_of_mem _ hx))
    obtain ⟨h0, h5⟩ := h m List.mem_cons_self
    simp only [cnt_cons, List.length_cons]
    have : m.to = 0 ∨ m.to = 1 ∨ m.to = 2 ∨ m.to = 3 ∨ m.to = 4 ∨ m.to = 5 := by omega
    rcases this with e | e | e | e | e | e <;> simp [e] <;> omega
theorem Fine.len {ms : List Ms} (h : Fine ms) : ms.length ≤ 96 := by
  have := len_cnt ms (fun m hm => (h.r m hm).to)
  have h0 := h.c 0
  have h1 := h.c 1
  have h2 := h.c 2
  have h3 := h.c 3
  have h4 := h.c 4
  have h5 := h.c 5
  omega
/-- What a Put answers and leaves. -/
def PutR (ms : List Ms) (m : Ms) (c : Int) (ms' : List Ms) : Prop :=
  (¬ MRight m ∧ c = 1 ∧ ms' = ms) ∨ (MRight m ∧ 16 ≤ cnt m.to ms ∧ c = 10 ∧ ms' = ms) ∨ (MRight m ∧ cnt m.to ms < 16 ∧ c = 0 ∧ ms' = ms ++ [m])
theorem PutR.one {ms : List Ms} {m : Ms} {c c' : Int} {a b : List Ms} (h : PutR ms m c a) (h' : PutR ms m c' b) : c = c' ∧ a = b := by
  rcases h with ⟨h1, rfl, rfl⟩ | ⟨h1, h2, rfl, rfl⟩ | ⟨h1, h2, rfl, rfl⟩ <;> rcases h' with ⟨k1, rfl, rfl⟩ | ⟨k1, k2, rfl, rfl⟩ | ⟨k1, k2, rfl, rfl⟩ <;> first | exact ⟨rfl, rfl⟩ | exact absurd k1 h1 | exact absurd h1 k1 | omega
theorem PutR.fine {ms : List Ms} {m : Ms} {c : Int} {a : List Ms} (h : PutR ms m c a) (hs : MRight m → Sml m) (hf : Fine ms) : Fine a := by
  rcases h with ⟨h1, rfl, rfl⟩ | ⟨h1, h2, rfl, rfl⟩ | ⟨h1, h2, rfl, rfl⟩
  · exact hf
  · exact hf
  · refine ⟨fun x hx => ?_, fun x hx => ?_, fun t => ?_⟩
    · rcases List.mem_append.1 hx with h | h
      · exact hf.r x h
      · rw [List.mem_singleton.1 h]
        exact h1
    · rcases List.mem_append.1 hx with h | h
      · exact hf.s x h
      · rw [List.mem_singleton.1 h]
        exact hs h1
    · rw [cnt_app, cnt_one]
      by_cases e : m.to = t
      · rw [if_pos e, ← e]
        omega
      · rw [if_neg e]
        exact hf.c t
/-- What a Take answers and leaves. -/
def TakeR (ms : List Ms) (n : Int) (b : Bool) (m : Ms) (ms' : List Ms) : Prop :=
  (b = false ∧ m = Ms.zero ∧ ms' = ms ∧ (n < 0 ∨ (ms.length : Int) ≤ n)) ∨ (b = true ∧ ∃ k : Nat, n = (k : Int) ∧ ms[k]? = some m ∧ ms' = ms.eraseIdx k)
theorem TakeR.one {ms : List Ms} {n : Int} {b b' : Bool} {m m' : Ms} {x y : List Ms} (h : TakeR ms n b m x) (h' : TakeR ms n b' m' y) : b = b' ∧ m = m' ∧ x = y := by
  rcases h with ⟨rfl, rfl, rfl, h1⟩ | ⟨rfl, k, rfl, h2, rfl⟩ <;> rcases h' with ⟨rfl, rfl, rfl, k1⟩ | ⟨rfl, j, e, k2, rfl⟩
  · exact ⟨rfl, rfl, rfl⟩
  · have := (List.getElem?_eq_some_iff.1 k2).1
    omega
  · have := (List.getElem?_eq_some_iff.1 h2).1
    omega
  · have : k = j := by omega
    subst this
    rw [h2] at k2
    injection k2 with k2
    exact ⟨rfl, k2, rfl⟩
theorem Fine.sub {a b : List Ms} (h : a.Sublist b) (hf : Fine b) : Fine a := ⟨fun m hm => hf.r m (h.mem hm), fun m hm => hf.s m (h.mem hm), fun t => Nat.le_trans (cnt_sub h) (hf.c t)⟩
theorem TakeR.fine {ms : List Ms} {n : Int} {b : Bool} {m : Ms} {a : List Ms} (h : TakeR ms n b m a) (hf : Fine ms) : Fine a := by
  rcases h with ⟨rfl, rfl, rfl, h1⟩ | ⟨rfl, k, rfl, h2, rfl⟩
  · exact hf
  · exact hf.sub (List.eraseIdx_sublist ms k)
/-- What a Twice answers and leaves. -/
def TwiceR (ms : List Ms) (n c : Int) (ms' : List Ms) : Prop :=
  ((n < 0 ∨ (ms.length : Int) ≤ n) ∧ c = 8 ∧ ms' = ms) ∨ ∃ (k : Nat) (m : Ms), n = (k : Int) ∧ ms[k]? = some m ∧ PutR ms m c ms'
theorem TwiceR.one {ms : List Ms} {n c c' : Int} {a b : List Ms} (h : TwiceR ms n c a) (h' : TwiceR ms n c' b) : c = c' ∧ a = b := by
  rcases h with ⟨h1, rfl, rfl⟩ | ⟨k, m, rfl, h2, h3⟩ <;> rcases h' with ⟨k1, rfl, rfl⟩ | ⟨j, m', e, k2, k3⟩
  · exact ⟨rfl, rfl⟩
  · have := (List.getElem?_eq_some_iff.1 k2).1
    omega
  · have := (List.getElem?_eq_some_iff.1 h2).1
    omega
  · have : k = j := by omega
    subst this
    rw [h2] at k2
    injection k2 with k2
    subst k2
    exact h3.one k3
theorem TwiceR.fine {ms : List Ms} {n c : Int} {a : List Ms} (h : TwiceR ms n c a) (hf : Fine ms) : Fine a := by
  rcases h with ⟨h1, rfl, rfl⟩ | ⟨k, m, rfl, h2, h3⟩
  · exact hf
  · exact h3.fine (fun _ => hf.s m (List.mem_of_getElem? h2)) hf

/-- An acknowledgement. -/
def ackM (f t e : Int) : Ms := ⟨4, f, t, e, [], [], Pol.zero⟩
theorem ackM_right {f t e : Int} (h1 : 0 ≤ f ∧ f ≤ 5) (h2 : 0 ≤ t ∧ t ≤ 5) (h3 : f ≠ t) (h4 : 0 ≤ e ∧ e ≤ 1000000) : MRight (ackM f t e) :=
  ⟨h1, h2, h3, h4, ⟨by show (1 : Int) ≤ 4; decide, by show (4 : Int) ≤ 4; decide⟩, fun _ => rfl, fun _ => rfl, fun _ => rfl, fun h => (by rcases h with h | h <;> cases h), fun h => (by cases h), rfl, rfl, fun q hq => (by cases hq)⟩
theorem ackM_sml {f t e : Int} (h : MRight (ackM f t e)) : Sml (ackM f t e) := by
  have h1 := h.fr
  have h2 := h.to
  have h4 := h.ep
  have d : ∀ n : Nat, n ≤ 1000000 → (fld (dec n)).length ≤ 20 := fun n hn => by
    have h7 := dec_len n 6 (by omega)
    have h9 := dec_len (dec n).length 6 (by omega)
    unfold fld
    simp
    omega
  have d0 := d 4 (by decide)
  have d1 := d f.toNat (by show f.toNat ≤ _; have : 0 ≤ f ∧ f ≤ 5 := h1; omega)
  have d2 := d t.toNat (by show t.toNat ≤ _; have : 0 ≤ t ∧ t ≤ 5 := h2; omega)
  have d3 := d e.toNat (by show e.toNat ≤ _; have : 0 ≤ e ∧ e ≤ 1000000 := h4; omega)
  show (fld (dec 4) ++ (fld (dec f.toNat) ++ (fld (dec t.toNat) ++ (fld (dec e.toNat) ++ [])))).length ≤ 99999
  rw [List.length_append, List.length_append, List.length_append, List.length_append, List.length_nil]
  omega
/-- So many acknowledgements, of rising epochs. -/
def acks (f t : Int) (n : Nat) : List Ms := (List.range n).map fun (i : Nat) => ackM f t (i : Int)
theorem acks_len (f t : Int) (n : Nat) : (acks f t n).length = n := by unfold acks; simp
theorem acks_next (f t : Int) (n : Nat) : acks f t (n + 1) = acks f t n ++ [ackM f t (n : Int)] := by
  unfold acks
  rw [List.range_succ, List.map_append]
  rfl
theorem acks_at {f t : Int} {n i : Nat} (h : i < n) : (acks f t n)[i]? = some (ackM f t (i : Int)) := by
  unfold acks
  rw [List.getElem?_map, List.getElem?_range h]
  rfl
theorem acks_cnt (f t : Int) (n : Nat) : cnt t (acks f t n) = n := by
  induction n with
  | zero => rfl
  | succ n ih =>
    rw [acks_next, cnt_app, ih, cnt_one, if_pos (show (ackM f t n).to = t from rfl)]
theorem acks_other {f t u : Int} (h : t ≠ u) (n : Nat) : cnt u (acks f t n) = 0 := by
  induction n with
  | zero => rfl
  | succ n ih =>
    rw [acks_next, cnt_app, ih, cnt_one, if_neg (show ¬ (ackM f t n).to = u from h)]
end Mail17
