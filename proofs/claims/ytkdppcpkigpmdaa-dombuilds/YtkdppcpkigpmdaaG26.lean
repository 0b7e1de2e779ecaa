/-
  dom.Build: the tree of any tokens in memory.
-/
import Derived.Test.YtkdppcpkigpmdaaG25
namespace Go.Proofs.Ytkdppcpkigpmdaa
open Go.RowKit
open Utf1

/-- A token, its attributes' slice and whether it is closed. -/
abbrev Te := Tk × (Option Addr × Nat × Nat) × Bool
/-- A slice holds tokens. -/
def TokRow (w : World) (v : Value) (l : List Te) : Prop := ∃ p c, v = .slice p l.length c ∧ ∀ i e, l[i]? = some e → ∃ g off, p = some ⟨g, off, none⟩ ∧ w.cell? ⟨g, off + i * 5, none⟩ = some (.int .i64 e.1.kind) ∧ w.cell? ⟨g, off + i * 5 + 1, none⟩ = some (.string ⟨e.1.name.toArray⟩) ∧ w.cell? ⟨g, off + i * 5 + 2, none⟩ = some (.slice e.2.1.1 e.2.1.2.1 e.2.1.2.2) ∧ w.cell? ⟨g, off + i * 5 + 3, none⟩ = some (.bool e.2.2) ∧ w.cell? ⟨g, off + i * 5 + 4, none⟩ = some (.string ⟨e.1.text.toArray⟩)
def textSum : List Te → Nat
  | [] => 0
  | e :: r => e.1.text.length + textSum r

theorem start_o {s : Bs} (h : Good s) (name : List UInt8) (at' : List (List UInt8 × List UInt8)) : (startB name at' s).o ≤ max s.o (startB name at' s).n := by
  have W := wayR_all name s.r s.t h.ne h.root
  have hc := h.cnt
  unfold startB startR
  by_cases hn : name = []
  · rw [if_pos hn]
    exact Nat.le_max_left _ _
  · rw [if_neg hn]
    cases hh : (wayR name s.r s.t).1 with
    | nil => exact Nat.le_max_left _ _
    | cons nd q =>
      rw [hh] at W
      have hl := len_cnt (nd :: q)
      simp only [List.length_cons] at hl W
      simp only []
      split
      · exact Nat.le_max_left _ _
      · show max s.o (q.length + 1) ≤ max s.o (s.n + 1)
        omega
theorem end_o {s : Bs} (h : Good s) (name : List UInt8) : (endB name s).o ≤ max s.o (endB name s).n := by
  unfold endB
  split
  · exact Nat.le_max_left _ _
  · split
    · exact start_o h [112] []
    · split
      · exact start_o h [98, 114] []
      · exact Nat.le_max_left _ _
theorem take_o {s : Bs} (h : Good s) (k : Tk) : (takeB k s).o ≤ max s.o (takeB k s).n ∧ (takeB k s).n ≤ s.n + 1 := by
  unfold takeB
  split
  · refine ⟨Nat.le_max_left _ _, ?_⟩
    show s.n + newT s.t k.text ≤ _
    unfold newT
    split <;> omega
  · split
    · exact ⟨start_o h _ _, (start_good h _ _).2.2.2⟩
    · split
      · exact ⟨end_o h _, (end_good h _).2.2.2⟩
      · exact ⟨Nat.le_max_left _ _, Nat.le_succ _⟩

/-- What is read of the tree's root. -/
theorem root_facts {w : World} {base B : Nat} {nd : Nd} {pa bv : Value} {o n : Nat} (h : St0 w base B [nd] pa bv o n) : ∃ go oc kp km kc fp, w.cell? ⟨B, 0, none⟩ = some (.slice (some ⟨go, 0, none⟩) 1 oc) ∧ w.cell? ⟨go, 3, none⟩ = some (.slice kp km kc) ∧ KAt w base (.slice kp km kc) nd.kids fp := by
  obtain ⟨hbB, hbw, ov, l, fp, hl, hB, hro, hall, hnd⟩ := h
  obtain ⟨li, av, kv, rfl, hli⟩ := map_snoc (i := []) hl
  have hli : li = [] := by
    cases li with
    | nil => rfl
    | cons a b => cases hli
  subst hli
  obtain ⟨hav, hkv⟩ := kall_one hall
  obtain ⟨go, oc, rfl, hcell⟩ := own_at hro (by simp)
  obtain ⟨k, f, hk1, hk2, hrk, _⟩ := kat_inv hkv
  obtain ⟨kp, km, kc, rfl⟩ := own_slice hrk
  refine ⟨go, oc, kp, km, kc, fp, tag_cell hB 0 _ rfl, ?_, hkv⟩
  rw [hcell 3 (by simp)]
  rfl

/-- The builder, made anew. -/
theorem new_sb (w : World) : SB ((w.alloc (.cells #[.string ⟨#[]⟩, .slice none 0 0, .string ⟨#[]⟩, .slice none 0 0] 40)).alloc (.cells #[.slice (some ⟨w.heap.size, 0, none⟩) 1 1, .pointer none, .slice none 0 0, .int .i64 0, .int .i64 0] 49)) w.heap.size (w.heap.size + 1) bs0 := by
  have hal : ∀ o, Below (w.alloc (.cells #[.string ⟨#[]⟩, .slice none 0 0, .string ⟨#[]⟩, .slice none 0 0] 40)).heap.size (w.alloc (.cells #[.string ⟨#[]⟩, .slice none 0 0, .string ⟨#[]⟩, .slice none 0 0] 40)) ((w.alloc (.cells #[.string ⟨#[]⟩, .slice none 0 0, .string ⟨#[]⟩, .slice none 0 0] 40)).alloc o) := fun o => (Below.refl _ _).alloc (Nat.le_refl _) _
  refine ⟨.pointer none, .slice none 0 0, ⟨Nat.le_succ _, ?_, .slice (some ⟨w.heap.size, 0, none⟩) 1 1, [(.mk [] [] [] [], .slice none 0 0, .slice none 0 0)], [], rfl, ?_, ?_, ?_, ?_⟩, .inl rfl, World.ownsRow_nil _ _ _ _⟩
  · simp; omega
  · exact heap_alloc2_new _ _ _
  · refine own_below ?_ (hal _)
    refine ⟨rfl, .inr ⟨w.heap.size, 1, _, rfl, Nat.le_refl _, heap_alloc_new _ _, Nat.le_refl _, ?_, ?_, ?_⟩⟩
    · unfold maxLen; decide
    · rfl
    · rfl
  · exact KAll.cons (.mk [] [] [] []) _ _ [] [] [] (World.ownsRow_nil _ _ _ _) (KAt.empty _ _) .nil
  · simp [blk, Value.ownBlock]
end Go.Proofs.Ytkdppcpkigpmdaa
