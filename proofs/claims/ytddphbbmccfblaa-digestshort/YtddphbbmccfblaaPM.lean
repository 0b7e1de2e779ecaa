/-
  Policies: which may be, their texts, which text is a policy's, which is stricter, in the words of the plain mathematics.
-/
import Derived.Test.YtddphbbmccfblaaMath
namespace Pol8
open Go

abbrev L := List UInt8
def lt (a b : L) : Bool := Op.bytesLess a b
theorem lt_irr : ∀ a : L, lt a a = false
  | [] => rfl
  | x :: a => by
    have ih := lt_irr a
    unfold lt at ih ⊢
    simp [Op.bytesLess, ih]
theorem lt_trans : ∀ a b c : L, lt a b = true → lt b c = true → lt a c = true
  | _, [], _, h, _ => by unfold lt at h; simp [Op.bytesLess] at h
  | _, _ :: _, [], _, h => by unfold lt at h; simp [Op.bytesLess] at h
  | [], _ :: _, _ :: _, _, _ => by unfold lt; simp [Op.bytesLess]
  | x :: a, y :: b, z :: c, h1, h2 => by
    unfold lt at h1 h2 ⊢
    simp only [Op.bytesLess, Bool.or_eq_true, decide_eq_true_eq, Bool.and_eq_true, beq_iff_eq] at h1 h2 ⊢
    rcases h1 with h1 | ⟨rfl, h1⟩
    · rcases h2 with h2 | ⟨rfl, _⟩
      · exact .inl (UInt8.lt_trans h1 h2)
      · exact .inl h1
    · rcases h2 with h2 | ⟨rfl, h2⟩
      · exact .inl h2
      · exact .inr ⟨rfl, lt_trans a b c h1 h2⟩

def sm (c : UInt8) : Bool := decide (97 ≤ c.toNat ∧ c.toNat ≤ 122)
def wc (c : UInt8) : Bool := decide ((97 ≤ c.toNat ∧ c.toNat ≤ 122) ∨ (48 ≤ c.toNat ∧ c.toNat ≤ 57) ∨ c.toNat = 45)
/-- A word. -/
def isWord (l : L) : Bool := decide (1 ≤ l.length ∧ l.length ≤ 32) && (l.all wc && l.head?.any sm)
def chain : List L → Bool
  | [] => true
  | [_] => true
  | a :: b :: r => lt a b && chain (b :: r)
/-- A list that is right. -/
def rises (l : List L) : Bool := chain l && decide (l.length ≤ 64)
def words (l : List L) : Bool := l.all isWord && rises l
def rawL : List L := [[115, 99, 114, 105, 112, 116], [115, 116, 121, 108, 101], [120, 109, 112], [105, 102, 114, 97, 109, 101], [110, 111, 101, 109, 98, 101, 100], [110, 111, 102, 114, 97, 109, 101, 115], [112, 108, 97, 105, 110, 116, 101, 120, 116]]
def rcL : List L := [[116, 101, 120, 116, 97, 114, 101, 97], [116, 105, 116, 108, 101]]
def isRaw (s : L) : Bool := decide (s ∈ rawL) || decide (s ∈ rcL)
def neverL : List L := [[98, 97, 115, 101], [101, 109, 98, 101, 100], [102, 111, 114, 109], [105, 110, 112, 117, 116], [108, 105, 110, 107], [109, 97, 116, 104], [109, 101, 116, 97], [111, 98, 106, 101, 99, 116], [112, 97, 114, 97, 109], [115, 101, 108, 101, 99, 116], [115, 118, 103], [116, 101, 109, 112, 108, 97, 116, 101], [110, 111, 115, 99, 114, 105, 112, 116], [102, 114, 97, 109, 101], [102, 114, 97, 109, 101, 115, 101, 116]]
def never (s : L) : Bool := isRaw s || decide (s ∈ neverL)
/-- A text, parted at the first point. -/
def dot : L → Option (L × L)
  | [] => none
  | b :: l => if b = 46 then some ([], l) else (dot l).map fun x => (b :: x.1, x.2)
theorem dot_none : ∀ (p : L), (46 : UInt8) ∉ p → dot p = none
  | [], _ => rfl
  | b :: p, h => by
    have hb : b ≠ 46 := fun e => h (by simp [e])
    have hp : (46 : UInt8) ∉ p := fun e => h (by simp [e])
    rw [dot, if_neg hb, dot_none p hp]
    rfl
theorem dot_some : ∀ (a b : L), (46 : UInt8) ∉ a → dot (a ++ 46 :: b) = some (a, b)
  | [], b, _ => by simp [dot]
  | c :: a, b, h => by
    have hb : c ≠ 46 := fun e => h (by simp [e])
    have hp : (46 : UInt8) ∉ a := fun e => h (by simp [e])
    rw [List.cons_append, dot, if_neg hb, dot_some a b hp]
    rfl
theorem dot_is : ∀ (p a b : L), dot p = some (a, b) → p = a ++ 46 :: b ∧ (46 : UInt8) ∉ a
  | [], a, b, h => by simp [dot] at h
  | c :: p, a, b, h => by
    rw [dot] at h
    by_cases hc : c = 46
    · rw [if_pos hc] at h
      simp at h
      obtain ⟨rfl, rfl⟩ := h
      subst hc
      simp
    · rw [if_neg hc] at h
      cases hp : dot p with
      | none => rw [hp] at h; simp at h
      | some x =>
        rw [hp] at h
        simp at h
        obtain ⟨rfl, rfl⟩ := h
        obtain ⟨e, hn⟩ := dot_is p x.1 x.2 hp
        refine ⟨by rw [List.cons_append, ← e], ?_⟩
        intro hm
        rcases List.mem_cons.1 hm with hm | hm
        · exact hc hm.symm
        · exact hn hm
def isOn (a : L) : Bool := decide (a.take 2 = [111, 110])
def srcdoc : L := [115, 114, 99, 100, 111, 99]
def formaction : L := [102, 111, 114, 109, 97, 99, 116, 105, 111, 110]
def style : L := [115, 116, 121, 108, 101]
/-- A word that may be an attribute's. -/
def may (a : L) : Bool := isWord a && (!isOn a && decide (a ≠ srcdoc ∧ a ≠ formaction ∧ a ≠ style))
def attrOk (el : List L) (s : L) : Bool := match dot s with
  | none => false
  | some (n, a) => decide (n = [42] ∨ n ∈ el) && may a

structure Pol where
  ep : Int
  el : List L
  at_ : List L
  sc : List L
  cl : List L
  pr : List L
  dp : Int
  nd : Int
  bt : Int
def Pol.zero : Pol := ⟨0, [], [], [], [], [], 0, 0, 0⟩
theorem Pol.ext' {p q : Pol} (h1 : p.ep = q.ep) (h2 : p.el = q.el) (h3 : p.at_ = q.at_) (h4 : p.sc = q.sc) (h5 : p.cl = q.cl) (h6 : p.pr = q.pr) (h7 : p.dp = q.dp) (h8 : p.nd = q.nd) (h9 : p.bt = q.bt) : p = q := by
  cases p
  cases q
  simp at *
  exact ⟨h1, h2, h3, h4, h5, h6, h7, h8, h9⟩
def li : L := [108, 105]
def ul : L := [117, 108]
def ol : L := [111, 108]
def js : L := [106, 97, 118, 97, 115, 99, 114, 105, 112, 116]
def dat : L := [100, 97, 116, 97]
def vbs : L := [118, 98, 115, 99, 114, 105, 112, 116]
def caps (p : Pol) : Bool := decide ((1 ≤ p.ep ∧ p.ep ≤ 1000000) ∧ (1 ≤ p.dp ∧ p.dp ≤ 64) ∧ (1 ≤ p.nd ∧ p.nd ≤ 2000) ∧ (1 ≤ p.bt ∧ p.bt ≤ 16384))
/-- A policy that may be. -/
def right (p : Pol) : Bool := caps p && ((words p.el && (rises p.at_ && (words p.sc && (words p.cl && words p.pr)))) && (p.el.all (fun e => !never e) && (p.at_.all (attrOk p.el) && (decide (li ∈ p.el → ul ∈ p.el ∧ ol ∈ p.el) && decide (js ∉ p.sc ∧ dat ∉ p.sc ∧ vbs ∉ p.sc)))))
structure Right (p : Pol) : Prop where
  c : (1 ≤ p.ep ∧ p.ep ≤ 1000000) ∧ (1 ≤ p.dp ∧ p.dp ≤ 64) ∧ (1 ≤ p.nd ∧ p.nd ≤ 2000) ∧ (1 ≤ p.bt ∧ p.bt ≤ 16384)
  el : words p.el = true
  at_ : rises p.at_ = true
  sc : words p.sc = true
  cl : words p.cl = true
  pr : words p.pr = true
  nv : ∀ e ∈ p.el, never e = false
  ao : ∀ a ∈ p.at_, attrOk p.el a = true
  ll : li ∈ p.el → ul ∈ p.el ∧ ol ∈ p.el
  ss : js ∉ p.sc ∧ dat ∉ p.sc ∧ vbs ∉ p.sc
theorem right_iff (p : Pol) : right p = true ↔ Right p := by
  unfold right caps
  simp only [Bool.and_eq_true, decide_eq_true_eq, List.all_eq_true, Bool.not_eq_true']
  constructor
  · rintro ⟨h1, ⟨h2, h3, h4, h5, h6⟩, h7, h8, h9, h10⟩
    exact ⟨h1, h2, h3, h4, h5, h6, h7, h8, h9, h10⟩
  · rintro ⟨h1, h2, h3, h4, h5, h6, h7, h8, h9, h10⟩
    exact ⟨h1, ⟨h2, h3, h4, h5, h6⟩, h7, h8, h9, h10⟩

/-- A number's digits. -/
def dec (n : Nat) : L := if h : n < 10 then [UInt8.ofNat (48 + n)] else dec (n / 10) ++ [UInt8.ofNat (48 + n % 10)]
decreasing_by omega
def ln (head x : L) : L := head ++ [32] ++ x ++ [10]
def lns (head : L) : List L → L
  | [] => []
  | x :: r => ln head x ++ lns head r
def kEpoch : L := [101, 112, 111, 99, 104]
def kElem : L := [101, 108, 101, 109]
def kAttr : L := [97, 116, 116, 114]
def kScheme : L := [115, 99, 104, 101, 109, 101]
def kClass : L := [99, 108, 97, 115, 115]
def kProp : L := [112, 114, 111, 112]
def kCaps : L := [99, 97, 112, 115]
def text (p : Pol) : L := kEpoch ++ [32] ++ dec p.ep.toNat ++ [10] ++ lns kElem p.el ++ lns kAttr p.at_ ++ lns kScheme p.sc ++ lns kClass p.cl ++ lns kProp p.pr ++ kCaps ++ [32] ++ dec p.dp.toNat ++ [32] ++ dec p.nd.toNat ++ [32] ++ dec p.bt.toNat ++ [10]

/-- A text's parts between bytes. -/
def segs (c : UInt8) : L → List L
  | [] => [[]]
  | b :: l => if b = c then [] :: segs c l else
    match segs c l with
    | [] => [[b]]
    | x :: r => (b :: x) :: r
theorem segs_ne (c : UInt8) (l : L) : segs c l ≠ [] := by
  cases l with
  | nil => simp [segs]
  | cons b l =>
    unfold segs
    split
    · simp
    · split <;> simp
theorem segs_end (c : UInt8) : ∀ (p : L), c ∉ p → segs c p = [p]
  | [], _ => rfl
  | b :: p, h => by
    have hb : b ≠ c := fun e => h (by simp [e])
    have hp : c ∉ p := fun e => h (by simp [e])
    rw [segs, if_neg hb, segs_end c p hp]
theorem segs_app (c : UInt8) : ∀ (a r : L), segs c (a ++ c :: r) = segs c a ++ segs c r
  | [], r => by simp [segs]
  | b :: a, r => by
    by_cases hb : b = c
    · rw [List.cons_append, segs, if_pos hb, segs, if_pos hb, segs_app c a r, List.cons_append]
    · rw [List.cons_append, segs, if_neg hb, segs, if_neg hb, segs_app c a r]
      cases h : segs c a with
      | nil => exact absurd h (segs_ne c a)
      | cons x q => simp
theorem segs_semi (c : UInt8) (p r : L) (h : c ∉ p) : segs c (p ++ c :: r) = p :: segs c r := by
  rw [segs_app, segs_end c p h]
  rfl
theorem segs_len (c : UInt8) : ∀ s : L, ((segs c s).map fun p => p.length + 1).sum = s.length + 1
  | [] => by simp [segs]
  | b :: s => by
    have ih := segs_len c s
    rw [segs]
    split
    · simp
      omega
    · split
      · rename_i h; exact absurd h (segs_ne c s)
      · rename_i x r h
        rw [h] at ih
        simp at ih ⊢
        omega
theorem seg_len (c : UInt8) (s p : L) (h : p ∈ segs c s) : p.length ≤ s.length := by
  have h1 := segs_len c s
  have h2 : p.length + 1 ≤ ((segs c s).map fun p => p.length + 1).sum := by
    clear h1
    generalize segs c s = l at h
    induction l with
    | nil => cases h
    | cons x r ih =>
      rcases List.mem_cons.1 h with h | h
      · subst h; simp
      · have := ih h; simp; omega
  omega
theorem segs_count (c : UInt8) (s : L) : (segs c s).length ≤ s.length + 1 := by
  have h1 := segs_len c s
  have h2 : ∀ l : List L, l.length ≤ (l.map fun p => p.length + 1).sum := by
    intro l
    induction l with
    | nil => simp
    | cons x r ih => simp; omega
  have := h2 (segs c s)
  omega

def dig (c : UInt8) : Bool := decide (48 ≤ c.toNat ∧ c.toNat ≤ 57)
def stepN (n : Nat) (c : UInt8) : Nat := n * 10 + (c.toNat - 48)
def numTo (n : Nat) (l : L) : Nat := l.foldl stepN n
/-- Of digits; 0: it is none. -/
def num (s : L) : Nat := if s.all dig = true ∧ s.length ≤ 7 then numTo 0 s else 0
def put (p : Pol) (w : List L) : Pol := match w with
  | [k, x] => if k = kEpoch then { p with ep := num x } else if k = kElem then { p with el := p.el ++ [x] } else if k = kAttr then { p with at_ := p.at_ ++ [x] } else if k = kScheme then { p with sc := p.sc ++ [x] } else if k = kClass then { p with cl := p.cl ++ [x] } else if k = kProp then { p with pr := p.pr ++ [x] } else p
  | [k, x, y, z] => if k = kCaps then { p with dp := num x, nd := num y, bt := num z } else p
  | _ => p
def putL (p : Pol) (line : L) : Pol := put p (segs 32 line)
/-- Each line taken for what it may be. -/
def parse (s : L) : Pol := (segs 10 s).foldl putL Pol.zero
/-- The policy of which a text is the text. -/
def readP (s : L) : Option Pol := if right (parse s) = true ∧ text (parse s) = s then some (parse s) else none

/-! Numbers. -/
theorem dec_small (n : Nat) (h : n < 10) : dec n = [UInt8.ofNat (48 + n)] := by
  rw [dec, dif_pos h]
theorem dec_big (n : Nat) (h : ¬ n < 10) : dec n = dec (n / 10) ++ [UInt8.ofNat (48 + n % 10)] := by
  rw [dec, dif_neg h]
theorem dig_of (d : Nat) (h : d < 10) : dig (UInt8.ofNat (48 + d)) = true ∧ (UInt8.ofNat (48 + d)).toNat - 48 = d := by
  have e : (UInt8.ofNat (48 + d)).toNat = 48 + d := by
    rw [UInt8.toNat_ofNat']
    omega
  unfold dig
  rw [e]
  exact ⟨decide_eq_true (by omega), by omega⟩
theorem numTo_app (a b : L) (n : Nat) : numTo n (a ++ b) = numTo (numTo n a) b := List.foldl_append
theorem numTo_cons (n : Nat) (c : UInt8) (l : L) : numTo n (c :: l) = numTo (stepN n c) l := List.foldl_cons ..
theorem numTo_one (n : Nat) (c : UInt8) : numTo n [c] = stepN n c := rfl
theorem dec_facts (n : Nat) : (dec n).all dig = true ∧ numTo 0 (dec n) = n := by
  induction n using Nat.strongRecOn with
  | ind n ih =>
    by_cases h : n < 10
    · rw [dec_small n h]
      obtain ⟨h1, h2⟩ := dig_of n h
      refine ⟨by rw [List.all_cons, h1]; rfl, ?_⟩
      rw [numTo_one]
      unfold stepN
      rw [h2]
      omega
    · rw [dec_big n h]
      obtain ⟨i1, i2⟩ := ih (n / 10) (by omega)
      obtain ⟨h1, h2⟩ := dig_of (n % 10) (by omega)
      refine ⟨by rw [List.all_append, i1, List.all_cons, h1]; rfl, ?_⟩
      rw [numTo_app, i2, numTo_one]
      unfold stepN
      rw [h2]
      omega
theorem dec_len (n : Nat) : ∀ k, n < 10 ^ (k + 1) → (dec n).length ≤ k + 1 := by
  intro k
  induction k generalizing n with
  | zero =>
    intro h
    rw [dec_small n (by omega)]
    simp
  | succ k ih =>
    intro h
    by_cases hn : n < 10
    · rw [dec_small n hn]
      simp
    · rw [dec_big n hn, List.length_append]
      have := ih (n / 10) (by rw [Nat.pow_succ] at h; omega)
      simp
      omega
theorem num_dec (n : Nat) (h : n ≤ 1000000) : num (dec n) = n := by
  unfold num
  rw [if_pos ⟨(dec_facts n).1, dec_len n 6 (by omega)⟩]
  exact (dec_facts n).2
theorem dec_no (n : Nat) (c : UInt8) (hc : dig c = false) : c ∉ dec n := by
  intro h
  have := List.all_eq_true.1 (dec_facts n).1 c h
  rw [this] at hc
  cases hc

/-! What is laid out is read. -/
theorem wc_no (c : UInt8) (hc : wc c = false) {l : L} (h : isWord l = true) : c ∉ l := by
  intro hm
  unfold isWord at h
  rw [Bool.and_eq_true, Bool.and_eq_true, List.all_eq_true] at h
  have := h.2.1 c hm
  rw [this] at hc
  cases hc
theorem words_all {l : List L} (h : words l = true) : ∀ x ∈ l, isWord x = true := by
  unfold words at h
  rw [Bool.and_eq_true, List.all_eq_true] at h
  exact h.1
theorem attr_no (c : UInt8) (hc : wc c = false) (h46 : c ≠ 46) (h42 : c ≠ 42) {el : List L} (hel : ∀ x ∈ el, isWord x = true) {a : L} (h : attrOk el a = true) : c ∉ a := by
  unfold attrOk at h
  cases hd : dot a with
  | none => rw [hd] at h; cases h
  | some x =>
    rw [hd] at h
    obtain ⟨n, w⟩ := x
    simp only [Bool.and_eq_true, decide_eq_true_eq] at h
    obtain ⟨e, _⟩ := dot_is a n w hd
    subst e
    obtain ⟨h1, h2⟩ := h
    unfold may at h2
    rw [Bool.and_eq_true] at h2
    intro hm
    rw [List.mem_append, List.mem_cons] at hm
    rcases hm with hm | hm | hm
    · rcases h1 with h1 | h1
      · subst h1
        exact h42 (by simpa using hm)
      · exact wc_no c hc (hel n h1) hm
    · exact h46 hm
    · exact wc_no c hc h2.1 hm
theorem segs_ln (head x r : L) (h1 : (10 : UInt8) ∉ head) (h2 : (10 : UInt8) ∉ x) : segs 10 (ln head x ++ r) = (head ++ [32] ++ x) :: segs 10 r := by
  have e : ln head x ++ r = (head ++ [32] ++ x) ++ 10 :: r := by simp [ln]
  rw [e, segs_semi]
  intro hm
  rw [List.mem_append, List.mem_append] at hm
  rcases hm with (hm | hm) | hm
  · exact h1 hm
  · revert hm; decide
  · exact h2 hm
theorem segs_lns (head : L) (h1 : (10 : UInt8) ∉ head) : ∀ (l : List L) (r : L), (∀ x ∈ l, (10 : UInt8) ∉ x) → segs 10 (lns head l ++ r) = (l.map fun x => head ++ [32] ++ x) ++ segs 10 r
  | [], r, _ => rfl
  | x :: l, r, h => by
    rw [lns, List.append_assoc, segs_ln head x _ h1 (h x (by simp)), segs_lns head h1 l r (fun y hy => h y (by simp [hy]))]
    rfl
theorem segs_two (head x : L) (h1 : (32 : UInt8) ∉ head) (h2 : (32 : UInt8) ∉ x) : segs 32 (head ++ [32] ++ x) = [head, x] := by
  have e : head ++ [32] ++ x = head ++ 32 :: x := by simp
  rw [e, segs_semi 32 head x h1, segs_end 32 x h2]
theorem fold_el : ∀ (l : List L) (p : Pol), (∀ x ∈ l, (32 : UInt8) ∉ x) → (l.map fun x => kElem ++ [32] ++ x).foldl putL p = { p with el := p.el ++ l }
  | [], p, _ => by simp
  | x :: l, p, h => by
    have e : putL p (kElem ++ [32] ++ x) = { p with el := p.el ++ [x] } := by
      unfold putL
      rw [segs_two kElem x (by decide) (h x (by simp))]
      rfl
    rw [List.map_cons, List.foldl_cons, e, fold_el l _ (fun y hy => h y (by simp [hy]))]
    simp
theorem fold_at : ∀ (l : List L) (p : Pol), (∀ x ∈ l, (32 : UInt8) ∉ x) → (l.map fun x => kAttr ++ [32] ++ x).foldl putL p = { p with at_ := p.at_ ++ l }
  | [], p, _ => by simp
  | x :: l, p, h => by
    have e : putL p (kAttr ++ [32] ++ x) = { p with at_ := p.at_ ++ [x] } := by
      unfold putL
      rw [segs_two kAttr x (by decide) (h x (by simp))]
      rfl
    rw [List.map_cons, List.foldl_cons, e, fold_at l _ (fun y hy => h y (by simp [hy]))]
    simp
theorem fold_sc : ∀ (l : List L) (p : Pol), (∀ x ∈ l, (32 : UInt8) ∉ x) → (l.map fun x => kScheme ++ [32] ++ x).foldl putL p = { p with sc := p.sc ++ l }
  | [], p, _ => by simp
  | x :: l, p, h => by
    have e : putL p (kScheme ++ [32] ++ x) = { p with sc := p.sc ++ [x] } := by
      unfold putL
      rw [segs_two kScheme x (by decide) (h x (by simp))]
      rfl
    rw [List.map_cons, List.foldl_cons, e, fold_sc l _ (fun y hy => h y (by simp [hy]))]
    simp
theorem fold_cl : ∀ (l : List L) (p : Pol), (∀ x ∈ l, (32 : UInt8) ∉ x) → (l.map fun x => kClass ++ [32] ++ x).foldl putL p = { p with cl := p.cl ++ l }
  | [], p, _ => by simp
  | x :: l, p, h => by
    have e : putL p (kClass ++ [32] ++ x) = { p with cl := p.cl ++ [x] } := by
      unfold putL
      rw [segs_two kClass x (by decide) (h x (by simp))]
      rfl
    rw [List.map_cons, List.foldl_cons, e, fold_cl l _ (fun y hy => h y (by simp [hy]))]
    simp
theorem fold_pr : ∀ (l : List L) (p : Pol), (∀ x ∈ l, (32 : UInt8) ∉ x) → (l.map fun x => kProp ++ [32] ++ x).foldl putL p = { p with pr := p.pr ++ l }
  | [], p, _ => by simp
  | x :: l, p, h => by
    have e : putL p (kProp ++ [32] ++ x) = { p with pr := p.pr ++ [x] } := by
      unfold putL
      rw [segs_two kProp x (by decide) (h x (by simp))]
      rfl
    rw [List.map_cons, List.foldl_cons, e, fold_pr l _ (fun y hy => h y (by simp [hy]))]
    simp
theorem caps_line (x y z : Nat) : segs 32 (kCaps ++ [32] ++ dec x ++ [32] ++ dec y ++ [32] ++ dec z) = [kCaps, dec x, dec y, dec z] := by
  have e : kCaps ++ [32] ++ dec x ++ [32] ++ dec y ++ [32] ++ dec z = kCaps ++ 32 :: (dec x ++ 32 :: (dec y ++ 32 :: dec z)) := by simp
  rw [e, segs_semi 32 kCaps _ (by decide), segs_semi 32 _ _ (dec_no x 32 (by decide)), segs_semi 32 _ _ (dec_no y 32 (by decide)), segs_end 32 _ (dec_no z 32 (by decide))]
theorem parse_text {p : Pol} (h : Right p) : parse (text p) = p := by
  have w10 : ∀ l : List L, words l = true → ∀ x ∈ l, (10 : UInt8) ∉ x := fun l hl x hx => wc_no 10 (by decide) (words_all hl x hx)
  have w32 : ∀ l : List L, words l = true → ∀ x ∈ l, (32 : UInt8) ∉ x := fun l hl x hx => wc_no 32 (by decide) (words_all hl x hx)
  have a10 : ∀ x ∈ p.at_, (10 : UInt8) ∉ x := fun x hx => attr_no 10 (by decide) (by decide) (by decide) (words_all h.el) (h.ao x hx)
  have a32 : ∀ x ∈ p.at_, (32 : UInt8) ∉ x := fun x hx => attr_no 32 (by decide) (by decide) (by decide) (words_all h.el) (h.ao x hx)
  obtain ⟨h1, h2, h3, h4⟩ := h.c
  have e : text p = ln kEpoch (dec p.ep.toNat) ++ (lns kElem p.el ++ (lns kAttr p.at_ ++ (lns kScheme p.sc ++ (lns kClass p.cl ++ (lns kProp p.pr ++ ((kCaps ++ [32] ++ dec p.dp.toNat ++ [32] ++ dec p.nd.toNat ++ [32] ++ dec p.bt.toNat) ++ 10 :: [])))))) := by
    simp [text, ln]
  have c10 : (10 : UInt8) ∉ kCaps ++ [32] ++ dec p.dp.toNat ++ [32] ++ dec p.nd.toNat ++ [32] ++ dec p.bt.toNat := by
    have d := fun n => dec_no n 10 (by decide)
    simp only [List.mem_append]
    rintro ((((((hm | hm) | hm) | hm) | hm) | hm) | hm)
    · revert hm; decide
    · revert hm; decide
    · exact d _ hm
    · revert hm; decide
    · exact d _ hm
    · revert hm; decide
    · exact d _ hm
  unfold parse
  rw [e, segs_ln kEpoch _ _ (by decide) (dec_no _ 10 (by decide)), segs_lns kElem (by decide) _ _ (w10 _ h.el), segs_lns kAttr (by decide) _ _ a10, segs_lns kScheme (by decide) _ _ (w10 _ h.sc), segs_lns kClass (by decide) _ _ (w10 _ h.cl), segs_lns kProp (by decide) _ _ (w10 _ h.pr), segs_semi 10 _ _ c10, segs_end 10 [] (by simp)]
  rw [List.foldl_cons, List.foldl_append, List.foldl_append, List.foldl_append, List.foldl_append, List.foldl_append, List.foldl_cons, List.foldl_cons, List.foldl_nil]
  have e1 : putL Pol.zero (kEpoch ++ [32] ++ dec p.ep.toNat) = { Pol.zero with ep := p.ep } := by
    unfold putL
    rw [segs_two kEpoch _ (by decide) (dec_no _ 32 (by decide))]
    show ({ Pol.zero with ep := (num (dec p.ep.toNat) : Int) } : Pol) = _
    rw [num_dec _ (by omega), Int.toNat_of_nonneg (by omega)]
  rw [e1, fold_el _ _ (w32 _ h.el), fold_at _ _ a32, fold_sc _ _ (w32 _ h.sc), fold_cl _ _ (w32 _ h.cl), fold_pr _ _ (w32 _ h.pr)]
  unfold putL
  rw [caps_line]
  show put _ [[]] = p
  unfold put
  apply Pol.ext'
  · rfl
  · simp [Pol.zero]
  · simp [Pol.zero]
  · simp [Pol.zero]
  · simp [Pol.zero]
  · simp [Pol.zero]
  · show ((num (dec p.dp.toNat) : Nat) : Int) = p.dp
    rw [num_dec _ (by omega), Int.toNat_of_nonneg (by omega)]
  · show ((num (dec p.nd.toNat) : Nat) : Int) = p.nd
    rw [num_dec _ (by omega), Int.toNat_of_nonneg (by omega)]
  · show ((num (dec p.bt.toNat) : Nat) : Int) = p.bt
    rw [num_dec _ (by omega), Int.toNat_of_nonneg (by omega)]
theorem read_text {p : Pol} (h : Right p) : readP (text p) = some p := by
  unfold readP
  rw [parse_text h, if_pos ⟨(right_iff p).2 h, rfl⟩]
theorem read_some {s : L} {p : Pol} (h : readP s = some p) : Right p ∧ text p = s := by
  unfold readP at h
  split at h
  · rename_i hc
    cases h
    exact ⟨(right_iff _).1 hc.1, hc.2⟩
  · cases h

/-! Stricter. -/
def star (a : L) : L := 42 :: a.dropWhile (fun c => decide (c ≠ 46))
def sub (a b : List L) : Bool := a.all fun x => decide (x ∈ b)
def stricter (p q : Pol) : Bool := p.at_.all (fun a => decide (a ∈ q.at_ ∨ star a ∈ q.at_)) && (sub p.el q.el && (sub p.sc q.sc && (sub p.cl q.cl && (sub p.pr q.pr && decide (p.dp ≤ q.dp ∧ p.nd ≤ q.nd ∧ p.bt ≤ q.bt)))))
def attrB (p : Pol) (e a : L) : Bool := decide (e ∈ p.el) && decide ((42 :: 46 :: a) ∈ p.at_ ∨ (e ++ 46 :: a) ∈ p.at_)
structure Str (p q : Pol) : Prop where
  at_ : ∀ a ∈ p.at_, a ∈ q.at_ ∨ star a ∈ q.at_
  el : ∀ x ∈ p.el, x ∈ q.el
  sc : ∀ x ∈ p.sc, x ∈ q.sc
  cl : ∀ x ∈ p.cl, x ∈ q.cl
  pr : ∀ x ∈ p.pr, x ∈ q.pr
  c : p.dp ≤ q.dp ∧ p.nd ≤ q.nd ∧ p.bt ≤ q.bt
theorem str_iff (p q : Pol) : stricter p q = true ↔ Str p q := by
  unfold stricter sub
  simp only [Bool.and_eq_true, decide_eq_true_eq, List.all_eq_true]
  constructor
  · rintro ⟨h1, h2, h3, h4, h5, h6⟩
    exact ⟨h1, h2, h3, h4, h5, h6⟩
  · rintro ⟨h1, h2, h3, h4, h5, h6⟩
    exact ⟨h1, h2, h3, h4, h5, h6⟩
theorem str_refl (p : Pol) : Str p p := ⟨fun _ h => .inl h, fun _ h => h, fun _ h => h, fun _ h => h, fun _ h => h, by omega⟩
theorem star_star (a : L) : star (star a) = star a := by
  unfold star
  rw [List.dropWhile_cons, if_pos (by decide)]
  congr 1
  induction a with
  | nil => rfl
  | cons c a ih =>
    rw [List.dropWhile_cons]
    split
    · exact ih
    · rename_i h
      rw [List.dropWhile_cons, if_neg h]
theorem str_trans {p q r : Pol} (h1 : Str p q) (h2 : Str q r) : Str p r := by
  refine ⟨fun a ha => ?_, fun x h => h2.el x (h1.el x h), fun x h => h2.sc x (h1.sc x h), fun x h => h2.cl x (h1.cl x h), fun x h => h2.pr x (h1.pr x h), ?_⟩
  · rcases h1.at_ a ha with h | h
    · exact h2.at_ a h
    · rcases h2.at_ _ h with h | h
      · exact .inr h
      · rw [star_star] at h
        exact .inr h
  · have := h1.c
    have := h2.c
    omega
theorem dw_app (e a : L) (h : (46 : UInt8) ∉ e) : (e ++ 46 :: a).dropWhile (fun c => decide (c ≠ 46)) = 46 :: a := by
  induction e with
  | nil => rw [List.nil_append, List.dropWhile_cons, if_neg (by decide)]
  | cons c e ih =>
    rw [List.cons_append, List.dropWhile_cons, if_pos (by
      apply decide_eq_true
      intro hc
      exact h (by simp [hc]))]
    exact ih (fun hm => h (by simp [hm]))
/-- What a stricter one lets the other one does. -/
theorem lets_more {p q : Pol} (h : Str p q) {e a : L} (he : (46 : UInt8) ∉ e) (hp : attrB p e a = true) : attrB q e a = true := by
  unfold attrB at hp ⊢
  rw [Bool.and_eq_true, decide_eq_true_eq, decide_eq_true_eq] at hp ⊢
  refine ⟨h.el e hp.1, ?_⟩
  have key : ∀ x, star x = 42 :: 46 :: a → x ∈ p.at_ → (42 :: 46 :: a) ∈ q.at_ ∨ x ∈ q.at_ := fun x hx hm => by
    rcases h.at_ x hm with g | g
    · exact .inr g
    · rw [hx] at g
      exact .inl g
  rcases hp.2 with g | g
  · rcases key _ (by
      unfold star
      exact congrArg (42 :: ·) (dw_app [42] a (by decide))) g with g | g
    · exact .inl g
    · exact .inl g
  · rcases key _ (by
      unfold star
      rw [dw_app e a he]) g with g | g
    · exact .inl g
    · exact .inr g

/-! Fewer. -/
theorem chain_tail {a : L} {r : List L} (h : chain (a :: r) = true) : chain r = true := by
  cases r with
  | nil => rfl
  | cons b r =>
    rw [chain, Bool.and_eq_true] at h
    exact h.2
theorem chain_all : ∀ (r : List L) (a : L), chain (a :: r) = true → ∀ x ∈ r, lt a x = true
  | [], _, _, x, hx => by cases hx
  | b :: r, a, h, x, hx => by
    rw [chain, Bool.and_eq_true] at h
    rcases List.mem_cons.1 hx with e | hx
    · rw [e]; exact h.1
    · exact lt_trans a b x h.1 (chain_all r b h.2 x hx)
theorem chain_mk : ∀ (r : List L) (a : L), (∀ x ∈ r, lt a x = true) → chain r = true → chain (a :: r) = true
  | [], _, _, _ => rfl
  | b :: r, a, h, hc => by
    rw [chain, Bool.and_eq_true]
    exact ⟨h b (by simp), hc⟩
theorem chain_erase : ∀ (l : List L) (k : Nat), chain l = true → chain (l.eraseIdx k) = true
  | [], k, _ => by simp [chain]
  | a :: r, 0, h => chain_tail h
  | a :: r, k + 1, h => by
    rw [List.eraseIdx_cons_succ]
    exact chain_mk _ a (fun x hx => chain_all r a h x (List.mem_of_mem_eraseIdx hx)) (chain_erase r k (chain_tail h))
theorem chain_gone : ∀ (l : List L) (k : Nat) (x : L), chain l = true → l[k]? = some x → x ∉ l.eraseIdx k
  | [], k, x, _, h => by simp at h
  | a :: r, 0, x, hc, h => by
    have : a = x := by simpa using h
    subst this
    intro hm
    have hm : a ∈ r := hm
    have := chain_all r a hc a hm
    rw [lt_irr] at this
    cases this
  | a :: r, k + 1, x, hc, h => by
    have h' : r[k]? = some x := by simpa using h
    rw [List.eraseIdx_cons_succ]
    intro hm
    rcases List.mem_cons.1 hm with e | hm
    · have := chain_all r a hc x (List.mem_of_getElem? h')
      rw [e, lt_irr] at this
      cases this
    · exact chain_gone r k x (chain_tail hc) h' hm
theorem words_erase {l : List L} (k : Nat) (h : words l = true) : words (l.eraseIdx k) = true := by
  have ha := words_all h
  unfold words rises at h ⊢
  rw [Bool.and_eq_true, Bool.and_eq_true, decide_eq_true_eq] at h ⊢
  refine ⟨List.all_eq_true.2 fun x hx => ha x (List.mem_of_mem_eraseIdx hx), chain_erase l k h.2.1, ?_⟩
  have := List.length_eraseIdx_le l k
  omega
theorem words_chain {l : List L} (h : words l = true) : chain l = true := by
  unfold words rises at h
  rw [Bool.and_eq_true, Bool.and_eq_true] at h
  exact h.2.1

/-! Never. -/
theorem never_not {p : Pol} (h : Right p) {n : L} (hn : never n = true) : n ∉ p.el := fun hm => by
  have := h.nv n hm
  rw [hn] at this
  cases this
theorem on_not (el : List L) (n : L) : attrOk el ([42, 46, 111, 110] ++ n) = false := by
  have e : ([42, 46, 111, 110] ++ n : L) = [42] ++ 46 :: ([111, 110] ++ n) := rfl
  unfold attrOk
  rw [e, dot_some [42] _ (by decide)]
  have : isOn ([111, 110] ++ n) = true := by unfold isOn; exact decide_eq_true rfl
  simp only [may, this, Bool.not_true, Bool.false_and, Bool.and_false]
theorem style_not (el : List L) : attrOk el ([42, 46] ++ style) = false := by
  unfold attrOk
  rw [show dot ([42, 46] ++ style) = some ([42], style) from rfl]
  have : may style = false := by decide
  simp only [this, Bool.and_false]
theorem not_right_attr {p : Pol} {a : L} (ha : a ∈ p.at_) (h : attrOk p.el a = false) : right p = false := by
  cases hr : right p
  · rfl
  · have := ((right_iff p).1 hr).ao a ha
    rw [h] at this
    cases this
end Pol8
