/-
  How long a light policy's text is; what is read of a text fits.
-/
import Derived.Test.YtmogplecohkjcaaGreatDoorQ12
namespace Pol8
theorem lns_size_eq (head : L) : ∀ l : List L, (lns head l).length = sizeL l + l.length * (head.length + 2)
  | [] => by simp [lns, sizeL]
  | x :: l => by
    have e2 : sizeL (x :: l) = x.length + sizeL l := by simp [sizeL]
    rw [lns, List.length_append, lns_size_eq head l, e2]
    simp only [ln, List.length_append, List.length_cons, List.length_nil]
    rw [Nat.succ_mul]
    omega
theorem text_len {p : Pol} (hr : Right p) (h : light p) : (text p).length ≤ 20000 := by
  obtain ⟨h1, h2⟩ := h
  have a1 := h1 p.el (by simp [Pol.lists])
  have a2 := h1 p.at_ (by simp [Pol.lists])
  have a3 := h1 p.sc (by simp [Pol.lists])
  have a4 := h1 p.cl (by simp [Pol.lists])
  have a5 := h1 p.pr (by simp [Pol.lists])
  simp only [Pol.lists, List.map_cons, List.map_nil, List.sum_cons, List.sum_nil] at h2
  obtain ⟨c1, c2, c3, c4⟩ := hr.c
  have d1 := dec_len p.ep.toNat 6 (by omega)
  have d2 := dec_len p.dp.toNat 6 (by omega)
  have d3 := dec_len p.nd.toNat 6 (by omega)
  have d4 := dec_len p.bt.toNat 6 (by omega)
  simp only [text, List.length_append, lns_size_eq, kEpoch, kElem, kAttr, kScheme, kClass, kProp, kCaps, List.length_cons, List.length_nil]
  omega
/-- Lists of at most n texts, each of at most b bytes. -/
def upTo (n b : Nat) (p : Pol) : Prop := ∀ l ∈ p.lists, l.length ≤ n ∧ ∀ x ∈ l, x.length ≤ b
theorem upTo_more {n b m : Nat} {p : Pol} (h : upTo n b p) (hm : n ≤ m) : upTo m b p := fun l hl => ⟨by have := (h l hl).1; omega, (h l hl).2⟩
theorem upTo_iff (n b : Nat) (p : Pol) : upTo n b p ↔ (p.el.length ≤ n ∧ ∀ x ∈ p.el, x.length ≤ b) ∧ (p.at_.length ≤ n ∧ ∀ x ∈ p.at_, x.length ≤ b) ∧ (p.sc.length ≤ n ∧ ∀ x ∈ p.sc, x.length ≤ b) ∧ (p.cl.length ≤ n ∧ ∀ x ∈ p.cl, x.length ≤ b) ∧ (p.pr.length ≤ n ∧ ∀ x ∈ p.pr, x.length ≤ b) := by
  simp only [upTo, Pol.lists, List.forall_mem_cons]
  constructor
  · rintro ⟨h1, h2, h3, h4, h5, -⟩
    exact ⟨h1, h2, h3, h4, h5⟩
  · rintro ⟨h1, h2, h3, h4, h5⟩
    exact ⟨h1, h2, h3, h4, h5, fun x h => by simp at h⟩
theorem one_more {n b : Nat} {l : List L} {x : L} (h : l.length ≤ n ∧ ∀ y ∈ l, y.length ≤ b) (hx : x.length ≤ b) : (l ++ [x]).length ≤ n + 1 ∧ ∀ y ∈ l ++ [x], y.length ≤ b := by
  refine ⟨by simp; exact h.1, fun y hy => ?_⟩
  rcases List.mem_append.1 hy with hy | hy
  · exact h.2 y hy
  · simp at hy
    rw [hy]
    exact hx
theorem upTo_put {n b : Nat} {p : Pol} (h : upTo n b p) (w : List L) (hw : ∀ x ∈ w, x.length ≤ b) : upTo (n + 1) b (put p w) := by
  have hm := upTo_more h (Nat.le_succ n)
  obtain ⟨m1, m2, m3, m4, m5⟩ := (upTo_iff _ _ _).1 hm
  obtain ⟨h1, h2, h3, h4, h5⟩ := (upTo_iff _ _ _).1 h
  unfold put
  split
  · rename_i k x
    have hx := hw x (by simp)
    split
    · exact (upTo_iff _ _ _).2 ⟨m1, m2, m3, m4, m5⟩
    · split
      · exact (upTo_iff _ _ _).2 ⟨one_more h1 hx, m2, m3, m4, m5⟩
      · split
        · exact (upTo_iff _ _ _).2 ⟨m1, one_more h2 hx, m3, m4, m5⟩
        · split
          · exact (upTo_iff _ _ _).2 ⟨m1, m2, one_more h3 hx, m4, m5⟩
          · split
            · exact (upTo_iff _ _ _).2 ⟨m1, m2, m3, one_more h4 hx, m5⟩
            · split
              · exact (upTo_iff _ _ _).2 ⟨m1, m2, m3, m4, one_more h5 hx⟩
              · exact hm
  · split
    · exact (upTo_iff _ _ _).2 ⟨m1, m2, m3, m4, m5⟩
    · exact hm
  · exact hm
theorem upTo_fold {b : Nat} : ∀ (ls : List L) (n : Nat) (p : Pol), upTo n b p → (∀ l ∈ ls, l.length ≤ b) → upTo (n + ls.length) b (ls.foldl putL p)
  | [], n, p, h, _ => h
  | l :: ls, n, p, h, hl => by
    rw [List.foldl_cons, List.length_cons, show n + (ls.length + 1) = n + 1 + ls.length from by omega]
    refine upTo_fold ls (n + 1) _ (upTo_put h _ fun x hx => ?_) (fun y hy => hl y (by simp [hy]))
    have := seg_len 32 l x hx
    have := hl l (by simp)
    omega
theorem upTo_zero (b : Nat) : upTo 0 b Pol.zero := by
  intro l hl
  simp only [Pol.lists, Pol.zero, List.mem_cons, List.not_mem_nil, or_false] at hl
  rcases hl with rfl | rfl | rfl | rfl | rfl <;> simp
theorem upTo_parse (s : L) (k : Nat) : upTo k s.length (((segs 10 s).take k).foldl putL Pol.zero) := by
  have h := upTo_fold ((segs 10 s).take k) 0 Pol.zero (upTo_zero s.length) (fun l hl => seg_len 10 s l (List.mem_of_mem_take hl))
  refine upTo_more h ?_
  rw [List.length_take]
  omega
end Pol8
namespace Go.Proofs.YtmogplecohkjcaaGreatDoor
open Go.RowKit
open Utf1 Pol8
theorem upTo_fits {n b : Nat} {p : Pol} (h : upTo n b p) (hn : n ≤ 100000) (hb : b ≤ 100000) : fits p := fun l hl => ⟨by have := (h l hl).1; omega, fun x hx => by have := (h l hl).2 x hx; omega⟩
theorem parse_fits (s : L) (h : s.length ≤ 99999) : fits (parse s) := by
  have h1 := upTo_fold (segs 10 s) 0 Pol.zero (upTo_zero s.length) (fun l hl => seg_len 10 s l hl)
  have h2 := segs_count 10 s
  exact upTo_fits h1 (by omega) (by omega)
theorem zero_fits : fits Pol.zero := upTo_fits (upTo_zero 0) (by omega) (by omega)
theorem read_fits (s : L) (h : s.length ≤ 99999) : fits ((readP s).getD Pol.zero) := by
  unfold readP
  split
  · exact parse_fits s h
  · exact zero_fits
end Go.Proofs.YtmogplecohkjcaaGreatDoor
