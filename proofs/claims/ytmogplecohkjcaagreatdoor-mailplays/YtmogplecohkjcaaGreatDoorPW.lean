/-
  Words, lists that rise, texts parted at a byte, policies among values, tok.Raw: what the walks of this layer share.
-/
import Derived.Test.YtmogplecohkjcaaGreatDoorPG
import Derived.Test.YtmogplecohkjcaaGreatDoorMZ
import Derived.BigQuiet
namespace Go.Proofs.YtmogplecohkjcaaGreatDoor
open Go.RowKit
open Utf1 Pol8

def wcn (k n : Nat) : Bool := decide ((97 ≤ n ∧ n ≤ 122) ∨ (0 < k ∧ ((48 ≤ n ∧ n ≤ 57) ∨ n = 45)))
def wcp (k : Nat) (c : UInt8) : Bool := wcn k c.toNat
theorem word_bad {l : L} {k : Nat} {c : UInt8} (h : l[k]? = some c) (hc : wcp k c = false) : isWord l = false := by
  cases hw : isWord l
  · rfl
  · exfalso
    unfold isWord at hw
    rw [Bool.and_eq_true, Bool.and_eq_true, List.all_eq_true] at hw
    have h1 := of_decide_eq_true (hw.2.1 c (List.mem_of_getElem? h))
    have h2 := of_decide_eq_false hc
    have h3 : k = 0 → sm c = true := fun e => by
      subst e
      have := hw.2.2
      rw [List.head?_eq_getElem?, h] at this
      exact this
    by_cases e : k = 0
    · have := of_decide_eq_true (h3 e)
      exact h2 (.inl this)
    · exact h2 (by omega)
theorem word_all {l : L} (h : ∀ j c, j < l.length → l[j]? = some c → wcp j c = true) : isWord l = decide (1 ≤ l.length ∧ l.length ≤ 32) := by
  unfold isWord
  by_cases h1 : 1 ≤ l.length ∧ l.length ≤ 32
  · rw [decide_eq_true h1, Bool.true_and, Bool.and_eq_true, List.all_eq_true]
    refine ⟨fun c hc => ?_, ?_⟩
    · obtain ⟨j, hj, e⟩ := List.mem_iff_getElem.1 hc
      have := of_decide_eq_true (h j c hj (by rw [List.getElem?_eq_getElem hj, e]))
      exact decide_eq_true (by omega)
    · rw [List.head?_eq_getElem?, List.getElem?_eq_getElem (by omega)]
      have := of_decide_eq_true (h 0 l[0] (by omega) (List.getElem?_eq_getElem (by omega)))
      exact decide_eq_true (by omega)
  · rw [decide_eq_false h1]
    rfl
theorem wup {l : L} {k : Nat} {c : UInt8} (h : l[k]? = some c) (hc : wcp k c = true) (hu : ∀ j d, j < k → l[j]? = some d → wcp j d = true) : ∀ j d, j < k + 1 → l[j]? = some d → wcp j d = true := by
  intro j d hj hd
  by_cases e : j = k
  · subst e
    rw [h] at hd
    cases hd
    exact hc
  · exact hu j d (by omega) hd

theorem chain_iff : ∀ l : List L, chain l = true ↔ ∀ j a b, l[j]? = some a → l[j + 1]? = some b → lt a b = true
  | [] => by simp [chain]
  | [x] => by simp [chain]
  | x :: y :: r => by
    have ih := chain_iff (y :: r)
    rw [chain, Bool.and_eq_true, ih]
    constructor
    · rintro ⟨h1, h2⟩ j a b ha hb
      cases j with
      | zero =>
        simp at ha hb
        subst ha
        subst hb
        exact h1
      | succ j => exact h2 j a b (by simpa using ha) (by simpa using hb)
    · intro h
      exact ⟨h 0 x y rfl rfl, fun j a b ha hb => h (j + 1) a b (by simpa using ha) (by simpa using hb)⟩
theorem less_is (a b : ByteArray) : Op.bytesLess a.toList b.toList = lt (bl a) (bl b) := by
  rw [ByteArray.toList_eq, ByteArray.toList_eq]
  rfl

theorem split_at (c : UInt8) : ∀ (l : L), c ∈ l → ∃ a b, l = a ++ c :: b ∧ c ∉ a
  | [], h => by simp at h
  | x :: l, h => by
    by_cases e : x = c
    · exact ⟨[], l, by simp [e], by simp⟩
    · rcases List.mem_cons.1 h with h | h
      · exact absurd h.symm e
      · obtain ⟨a, b, rfl, hn⟩ := split_at c l h
        exact ⟨x :: a, b, by simp, by simp [hn, Ne.symm e]⟩
/-- A text parted at the first of a byte: its two parts as texts. -/
theorem split_ba (s : ByteArray) (c : UInt8) (h : c ∈ bl s) : ∃ A B : ByteArray, bl s = bl A ++ c :: bl B ∧ c ∉ bl A ∧ s.size = A.size + 1 + B.size ∧ s.extract 0 A.size = A ∧ s.extract (A.size + 1) s.size = B ∧ (∀ j d, (bl s)[j]? = some d → (j < A.size → d ≠ c) ∧ (j = A.size → d = c)) := by
  obtain ⟨a, b, e, hn⟩ := split_at c (bl s) h
  obtain ⟨A, hA⟩ : ∃ A : ByteArray, A = ⟨a.toArray⟩ := ⟨_, rfl⟩
  obtain ⟨B, hB⟩ : ∃ B : ByteArray, B = ⟨b.toArray⟩ := ⟨_, rfl⟩
  have eA : bl A = a := by rw [hA]
  have eB : bl B = b := by rw [hB]
  rw [← eA, ← eB] at e
  rw [← eA] at hn
  have hsz : s.size = A.size + 1 + B.size := by
    have := congrArg List.length e
    rw [bl_len, List.length_append, List.length_cons, bl_len, bl_len] at this
    omega
  refine ⟨A, B, e, hn, hsz, ?_, ?_, ?_⟩
  · apply ba_ext
    rw [extract_bl, e]
    have : A.size = (bl A).length := (bl_len A).symm
    rw [this]
    simp
  · apply ba_ext
    rw [extract_bl, e, List.drop_append, bl_len, List.drop_eq_nil_of_le (by rw [bl_len]; omega), show A.size + 1 - A.size = 1 by omega]
    simp
    rw [List.take_of_length_le (by rw [bl_len]; omega)]
  · intro j d hd
    rw [e] at hd
    constructor
    · intro hj
      rw [List.getElem?_append_left (by rw [bl_len]; exact hj)] at hd
      intro e'
      exact hn (by rw [← e']; exact List.mem_of_getElem? hd)
    · rintro rfl
      rw [List.getElem?_append_right (by rw [bl_len]; exact Nat.le_refl _), bl_len, Nat.sub_self] at hd
      simp at hd
      exact hd.symm
theorem neqK (c : UInt8) (n : Nat) (hn : n < 256) : ((c.toNat : Int) != (n : Int)) = decide (c ≠ UInt8.ofNat n) := by
  by_cases h : c = UInt8.ofNat n
  · have e : (c.toNat : Int) = (n : Int) := by rw [h, toNat_ofNat hn]
    rw [decide_eq_false (fun e => e h), e]
    simp
  · have e : ¬ (c.toNat : Int) = (n : Int) := fun e => h ((u8_eq hn).2 (by omega))
    rw [decide_eq_true h]
    simpa using e

/-- A policy as a value. -/
structure PolV (w : World) (v1 v2 v3 v4 v5 : Value) (p : Pol) (l1 l2 l3 l4 l5 : List ByteArray) : Prop where
  s1 : StrArg w v1 l1
  s2 : StrArg w v2 l2
  s3 : StrArg w v3 l3
  s4 : StrArg w v4 l4
  s5 : StrArg w v5 l5
  e1 : l1.map bl = p.el
  e2 : l2.map bl = p.at_
  e3 : l3.map bl = p.sc
  e4 : l4.map bl = p.cl
  e5 : l5.map bl = p.pr
  g : Glob w
theorem PolV.below {w w' : World} {v1 v2 v3 v4 v5 : Value} {p : Pol} {l1 l2 l3 l4 l5 : List ByteArray} (h : PolV w v1 v2 v3 v4 v5 p l1 l2 l3 l4 l5) (hb : Below w.heap.size w w') : PolV w' v1 v2 v3 v4 v5 p l1 l2 l3 l4 l5 :=
  ⟨h.s1.below hb, h.s2.below hb, h.s3.below hb, h.s4.below hb, h.s5.below hb, h.e1, h.e2, h.e3, h.e4, h.e5, h.g.below hb⟩
/-- Lists that are not too long, of texts that are not too long. -/
def fits (p : Pol) : Prop := (∀ l ∈ [p.el, p.at_, p.sc, p.cl, p.pr], l.length ≤ 100000 ∧ ∀ x ∈ l, x.length ≤ 100000)
theorem fits_of {p : Pol} (h : fits p) {l : List ByteArray} {q : List L} (hq : q ∈ [p.el, p.at_, p.sc, p.cl, p.pr]) (e : l.map bl = q) : l.length ≤ 100000 ∧ ∀ x ∈ l, x.size ≤ 100000 := by
  obtain ⟨h1, h2⟩ := h q hq
  rw [← e] at h1 h2
  refine ⟨by rwa [List.length_map] at h1, fun x hx => ?_⟩
  have := h2 (bl x) (List.mem_map_of_mem hx)
  rwa [bl_len] at this
theorem new_block (w : World) (A : Array Value) (t : TypeId) : (w.alloc (.cells A t)).heap[w.heap.size]? = some (.cells A t (0, 0)) := by
  show (w.heap.push _)[w.heap.size]? = _
  simp
theorem tag_cell {w : World} {b : Nat} {cs : Array Value} {t : TypeId} (h : w.heap[b]? = some (.cells cs t (0, 0))) (i : Nat) (v : Value) (hv : cs[i]? = some v) : w.cell? ⟨b, i, none⟩ = some v := by
  simp [World.cell?, h, hv]

theorem bel_drewN (w : World) (n : Nat) : Below w.heap.size w (w.drewN n) := ⟨rfl, rfl, rfl, Nat.le_refl _, fun _ _ => rfl⟩
/-- The block in which a policy's parameter lies. -/
def BoxP (w : World) (A : Array Value) (wx : World) : Prop := wx.heap[w.heap.size]? = some (.cells A 33 (0, 0)) ∧ Below w.heap.size w wx
theorem BoxP.keep {w wx wy : World} {A : Array Value} (h : BoxP w A wx) (hb : Below wx.heap.size wx wy) : BoxP w A wy :=
  ⟨(hb.block _ (Array.getElem?_eq_some_iff.1 h.1).1).trans h.1, h.2.trans (hb.mono h.2.size)⟩
theorem BoxP.cell {w wx : World} {A : Array Value} (h : BoxP w A wx) (i : Nat) (v : Value) (hv : A[i]? = some v) : wx.cell? ⟨w.heap.size, i, none⟩ = some v := tag_cell h.1 i v hv
theorem all_false {l : List ByteArray} {i : Nat} {y : ByteArray} {f : L → Bool} (h : l[i]? = some y) (hf : f (bl y) = false) : (l.map bl).all f = false := by
  rw [List.all_eq_false]
  exact ⟨bl y, List.mem_map_of_mem (List.mem_of_getElem? h), by rw [hf]; decide⟩
theorem all_true {l : List ByteArray} {f : L → Bool} (h : ∀ j z, j < l.length → l[j]? = some z → f (bl z) = true) : (l.map bl).all f = true := by
  rw [List.all_eq_true]
  intro z hz
  obtain ⟨y, hy, rfl⟩ := List.mem_map.1 hz
  obtain ⟨j, hj, e⟩ := List.mem_iff_getElem.1 hy
  exact h j y hj (by rw [List.getElem?_eq_getElem hj, e])
theorem upto_next {l : List ByteArray} {i : Nat} {y : ByteArray} {f : L → Bool} (h : l[i]? = some y) (hf : f (bl y) = true) (hu : ∀ j z, j < i → l[j]? = some z → f (bl z) = true) : ∀ j z, j < i + 1 → l[j]? = some z → f (bl z) = true := by
  intro j z hj hz
  by_cases e : j = i
  · subst e
    rw [h] at hz
    cases hz
    exact hf
  · exact hu j z (by omega) hz

set_option maxHeartbeats 4000000 in
theorem traw_any (s : ByteArray) (w : World) :
    Calls Tryz.prog 87 #[.string s] w fun e w' => (∃ x, e = .returned (.tuple #[.bool (isRaw (bl s)), .bool x])) ∧ w' = w := by
  have f0 := eq_lit s [115, 99, 114, 105, 112, 116]
  by_cases h0 : bl s = [115, 99, 114, 105, 112, 116]
  · rw [decide_eq_true h0] at f0
    rw [show isRaw (bl s) = true by rw [h0]; decide]
    clear h0
    go_enter Tryz.func87, Tryz.ntmps87
    go_wp2_with fail
    go_ret2
    exact ⟨⟨_, rfl⟩, rfl⟩
  rw [decide_eq_false h0] at f0
  have f1 := eq_lit s [115, 116, 121, 108, 101]
  by_cases h1 : bl s = [115, 116, 121, 108, 101]
  · rw [decide_eq_true h1] at f1
    rw [show isRaw (bl s) = true by rw [h1]; decide]
    clear h0 h1
    go_enter Tryz.func87, Tryz.ntmps87
    go_wp2_with fail
    go_ret2
    exact ⟨⟨_, rfl⟩, rfl⟩
  rw [decide_eq_false h1] at f1
  have f2 := eq_lit s [120, 109, 112]
  by_cases h2 : bl s = [120, 109, 112]
  · rw [decide_eq_true h2] at f2
    rw [show isRaw (bl s) = true by rw [h2]; decide]
    clear h0 h1 h2
    go_enter Tryz.func87, Tryz.ntmps87
    go_wp2_with fail
    go_ret2
    exact ⟨⟨_, rfl⟩, rfl⟩
  rw [decide_eq_false h2] at f2
  have f3 := eq_lit s [105, 102, 114, 97, 109, 101]
  by_cases h3 : bl s = [105, 102, 114, 97, 109, 101]
  · rw [decide_eq_true h3] at f3
    rw [show isRaw (bl s) = true by rw [h3]; decide]
    clear h0 h1 h2 h3
    go_enter Tryz.func87, Tryz.ntmps87
    go_wp2_with fail
    go_ret2
    exact ⟨⟨_, rfl⟩, rfl⟩
  rw [decide_eq_false h3] at f3
  have f4 := eq_lit s [110, 111, 101, 109, 98, 101, 100]
  by_cases h4 : bl s = [110, 111, 101, 109, 98, 101, 100]
  · rw [decide_eq_true h4] at f4
    rw [show isRaw (bl s) = true by rw [h4]; decide]
    clear h0 h1 h2 h3 h4
    go_enter Tryz.func87, Tryz.ntmps87
    go_wp2_with fail
    go_ret2
    exact ⟨⟨_, rfl⟩, rfl⟩
  rw [decide_eq_false h4] at f4
  have f5 := eq_lit s [110, 111, 102, 114, 97, 109, 101, 115]
  by_cases h5 : bl s = [110, 111, 102, 114, 97, 109, 101, 115]
  · rw [decide_eq_true h5] at f5
    rw [show isRaw (bl s) = true by rw [h5]; decide]
    clear h0 h1 h2 h3 h4 h5
    go_enter Tryz.func87, Tryz.ntmps87
    go_wp2_with fail
    go_ret2
    exact ⟨⟨_, rfl⟩, rfl⟩
  rw [decide_eq_false h5] at f5
  have f6 := eq_lit s [112, 108, 97, 105, 110, 116, 101, 120, 116]
  by_cases h6 : bl s = [112, 108, 97, 105, 110, 116, 101, 120, 116]
  · rw [decide_eq_true h6] at f6
    rw [show isRaw (bl s) = true by rw [h6]; decide]
    clear h0 h1 h2 h3 h4 h5 h6
    go_enter Tryz.func87, Tryz.ntmps87
    go_wp2_with fail
    go_ret2
    exact ⟨⟨_, rfl⟩, rfl⟩
  rw [decide_eq_false h6] at f6
  have f7 := eq_lit s [116, 101, 120, 116, 97, 114, 101, 97]
  by_cases h7 : bl s = [116, 101, 120, 116, 97, 114, 101, 97]
  · rw [decide_eq_true h7] at f7
    rw [show isRaw (bl s) = true by rw [h7]; decide]
    clear h0 h1 h2 h3 h4 h5 h6 h7
    go_enter Tryz.func87, Tryz.ntmps87
    go_wp2_with fail
    go_ret2
    exact ⟨⟨_, rfl⟩, rfl⟩
  rw [decide_eq_false h7] at f7
  have f8 := eq_lit s [116, 105, 116, 108, 101]
  by_cases h8 : bl s = [116, 105, 116, 108, 101]
  · rw [decide_eq_true h8] at f8
    rw [show isRaw (bl s) = true by rw [h8]; decide]
    clear h0 h1 h2 h3 h4 h5 h6 h7 h8
    go_enter Tryz.func87, Tryz.ntmps87
    go_wp2_with fail
    go_ret2
    exact ⟨⟨_, rfl⟩, rfl⟩
  rw [decide_eq_false h8] at f8
  have e : isRaw (bl s) = false := by
    unfold isRaw
    rw [decide_eq_false (by
      simp only [rawL, List.mem_cons, List.not_mem_nil, or_false]
      rintro (h | h | h | h | h | h | h)
      all_goals contradiction), decide_eq_false (by
      simp only [rcL, List.mem_cons, List.not_mem_nil, or_false]
      rintro (h | h)
      all_goals contradiction)]
    rfl
  rw [e]
  clear e h0 h1 h2 h3 h4 h5 h6 h7 h8
  go_enter Tryz.func87, Tryz.ntmps87
  go_wp2_with fail
  go_ret2
  exact ⟨⟨_, rfl⟩, rfl⟩
end Go.Proofs.YtmogplecohkjcaaGreatDoor
