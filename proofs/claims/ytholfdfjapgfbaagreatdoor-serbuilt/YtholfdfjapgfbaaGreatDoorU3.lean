/-
  readTag's map of names.
-/
import Derived.Test.YtholfdfjapgfbaaGreatDoorU0
namespace Go.Proofs.YtholfdfjapgfbaaGreatDoor
open Go.RowKit
open Utf1

theorem zeroInt (w : World) : (zeroValue 3).run Tryz.prog w = .ok (.int .i64 0) w := by kernel_rfl
theorem law9 : Maps.Keyed Tryz.prog 9 := Maps.string_keyed Tryz.underlying9

theorem own_not_map {w : World} {P : Program} {base : Nat} {e k : TypeId} {size : Nat} {v : Value} {n m b : Nat} {xs : List Value} {R : Value → Option (DataW Unit × List MemPlace)} {D : DataW Unit} (h : w.ownsRow base e size v n xs) (hm : w.ownsMap P k R b m D) : v.ownBlock ≠ some b := by
  obtain ⟨es, cl, hb, _⟩ := hm
  obtain ⟨_, ⟨rfl, _⟩ | ⟨g, cap, cur, rfl, _, hg, _⟩⟩ := h
  · simp [Value.ownBlock]
  · intro e1
    have : g = b := by simpa [Value.ownBlock] using e1
    subst this
    rw [hg] at hb
    simp at hb

/-- The attributes' row and the tag as they were, the map with one name more. -/
def TagMid (w0 wr : World) (start : Bool) (nm : ByteArray) (acc acc' : List (List UInt8 × List UInt8)) (k : Nat) (av : Value) : Prop :=
  wr.heap[w0.heap.size]? = some (.cells #[.int .i64 0, .string ⟨#[]⟩, .slice none 0 0, .bool false, .string ⟨#[]⟩] 35 (0, 0)) ∧
  wr.heap[w0.heap.size + 1]? = some (.cells #[.int .i64 (if start then 2 else 3), .string nm, av, .bool false, .string ⟨#[]⟩] 35 (0, 0)) ∧
  wr.ownsRow w0.heap.size 38 2 av (atts start acc).length (attrCells (atts start acc)) ∧
  (∃ D : DataW Unit, wr.ownsMap Tryz.prog 9 (plainElem Tryz.prog 3) (w0.heap.size + 2) (k + 1) D ∧ Maps.IsMap D ∧ Met D (acc'.map Prod.fst) (k + 1)) ∧
  acc.length ≤ k ∧ Below w0.heap.size w0 wr

theorem names_add (acc : List (List UInt8 × List UInt8)) (n v m : List UInt8) : m ∈ (addAt acc n v).map Prod.fst ↔ m = n ∨ m ∈ acc.map Prod.fst := by
  unfold addAt
  split
  · rename_i h
    constructor
    · exact fun h => .inr h
    · rintro (rfl | h)
      · assumption
      · exact h
  · rw [List.map_append, List.mem_append]
    constructor
    · rintro (h | h)
      · exact .inr h
      · simp at h
        exact .inl h
    · rintro (rfl | h)
      · right
        simp
      · exact .inl h

theorem keep_map {w0 w1 : World} {start : Bool} {nm : ByteArray} {acc : List (List UInt8 × List UInt8)} {k : Nat} {av : Value} (hst : TagSt w0 w1 start nm acc k av) (L : ByteArray) (hL : L.size ≤ 4294967296) (hk : k ≤ 4294967296) :
    ∃ (c : Int) (w2 : World), 0 ≤ c ∧ c ≤ 4294967296 ∧ (c = 0 ↔ bl L ∉ acc.map Prod.fst) ∧
      (Instr.lookup 82 (.map (some (w0.heap.size + 2))) (.string L) false).run Tryz.prog w1 = .ok (.int .i64 c) w1 ∧
      (Instr.mapUpdate 82 (.map (some (w0.heap.size + 2))) (.string L) (.int .i64 (c + 1))).run Tryz.prog w1 = .ok () w2 ∧
      (Instr.lookup 82 (.map (some (w0.heap.size + 2))) (.string L) false).run Tryz.prog w2 = .ok (.int .i64 (c + 1)) w2 ∧
      ∀ v, TagMid w0 w2 start nm acc (addAt acc (bl L) v) k av := by
  obtain ⟨h1, h2, h3, ⟨D, h4, hD, hm⟩, h6, h7⟩ := hst
  have hkey : keyOf Tryz.prog 9 (.string L) = some (.string L.data.toList) := WideMaps.keyOf_string_mk Tryz.underlying9 (by unfold maxLen; omega)
  obtain ⟨c, hlk, hat, _⟩ := h4.lookup_int law9 Tryz.underlying82 Tryz.underlying3 (zeroInt _) hkey
  obtain ⟨c', hat', hc0, hck, hcz⟩ := hm (bl L)
  have hcc : c' = c := by
    rw [hat] at hat'
    cases hat'
    rfl
  subst hcc
  have hwf : (Lit.int .i64 (c' + 1)).wf = true := WalkArith.wf_i64 (by omega)
  obtain ⟨w2, hup, hown2, hgr⟩ := h4.update law9 Tryz.underlying82 (by unfold maxLen; omega) hkey (plainElem_int (H := Unit) Tryz.underlying3 hwf)
  obtain ⟨c2, hlk2, hat2, _⟩ := hown2.lookup_int law9 Tryz.underlying82 Tryz.underlying3 (zeroInt _) hkey
  have hc2 : c2 = c' + 1 := by
    rw [Maps.atKey_put_same hD (show WideAt.IsKeyLit (.string L.data.toList) from trivial)] at hat2
    cases hat2
    rfl
  subst hc2
  refine ⟨c', w2, hc0, by omega, hcz, hlk, hup, hlk2, fun v => ⟨?_, ?_, ?_, ⟨_, hown2, hD.put _ _, ?_⟩, h6, ?_⟩⟩
  · exact (hgr.block _ (lt_of_block h1) (by simp)).trans h1
  · exact (hgr.block _ (lt_of_block h2) (by simp)).trans h2
  · exact h3.kept hgr (.inr (own_not_map h3 h4))
  · intro n
    by_cases hn : n = bl L
    · subst hn
      refine ⟨c' + 1, Maps.atKey_put_same hD (show WideAt.IsKeyLit (.string L.data.toList) from trivial) _ _, by omega, by omega, ?_⟩
      constructor
      · intro h
        omega
      · intro h
        exact absurd ((names_add acc (bl L) v (bl L)).2 (.inl rfl)) h
    · obtain ⟨d, hd1, hd2, hd3, hd4⟩ := hm n
      refine ⟨d, ?_, hd2, by omega, ?_⟩
      · rw [Maps.atKey_put_other (by intro e; cases e; exact hn rfl)]
        exact hd1
      · rw [hd4, names_add]
        simp [hn]
  · exact h7.grown hgr h7.size (fun j hj => by cases hj; omega)

/-- Where no attribute is laid. -/
theorem TagMid.same {w0 wr : World} {start : Bool} {nm : ByteArray} {acc : List (List UInt8 × List UInt8)} {k : Nat} {av : Value} {n v : List UInt8} (h : TagMid w0 wr start nm acc (addAt acc n v) k av) (hc : start = false ∨ n ∈ acc.map Prod.fst) : TagSt w0 wr start nm (addAt acc n v) (k + 1) av := by
  obtain ⟨h1, h2, h3, h4, h5, h6⟩ := h
  have e : atts start (addAt acc n v) = atts start acc := by
    rcases hc with rfl | hc
    · rfl
    · unfold addAt
      rw [if_pos hc]
  have e2 : (addAt acc n v).length ≤ acc.length + 1 := by
    unfold addAt
    split
    · omega
    · simp
  refine ⟨h1, h2, ?_, h4, by omega, h6⟩
  rw [e]
  exact h3
theorem bl_eta (L : ByteArray) : (⟨(bl L).toArray⟩ : ByteArray) = L := by
  cases L
  simp

theorem TagMid.below {w0 wr w1 : World} {start : Bool} {nm : ByteArray} {acc acc' : List (List UInt8 × List UInt8)} {k : Nat} {av : Value} (h : TagMid w0 wr start nm acc acc' k av) (hb : Below wr.heap.size wr w1) : TagMid w0 w1 start nm acc acc' k av := by
  obtain ⟨h1, h2, h3, ⟨D, h4, h5⟩, h6, h7⟩ := h
  refine ⟨(hb.block _ (lt_of_block h1)).trans h1, (hb.block _ (lt_of_block h2)).trans h2, h3.kept (below_grown hb) ?_, ⟨D, h4.kept (below_grown hb) (by simp), h5⟩, h6, h7.trans (hb.mono h7.size)⟩
  cases v : av.ownBlock with
  | none => exact .inl rfl
  | some g => exact .inr (by simp)

/-- Where one more attribute is laid. -/
theorem keep_append {w0 w3 w5 : World} {nm L RV : ByteArray} {acc : List (List UInt8 × List UInt8)} {k : Nat} {av v' : Value} {o : Obj} (h : TagMid w0 w3 true nm acc (addAt acc (bl L) (bl RV)) k av) (hni : bl L ∉ acc.map Prod.fst)
    (hown5 : w5.ownsRow w0.heap.size 38 2 v' (acc.length + 1) (attrCells acc ++ [.string L, .string RV])) (hgr : (w3.alloc o).grownBy w5 av.ownBlock) :
    w5.cell? ⟨w0.heap.size + 1, 2, none⟩ = some av ∧ w5.frozen? ⟨w0.heap.size + 1, 2, none⟩ = false ∧ TagSt w0 (w5.setCell ⟨w0.heap.size + 1, 2, none⟩ v') true nm (addAt acc (bl L) (bl RV)) (k + 1) v' := by
  obtain ⟨h1, h2, h3, ⟨D, h4, h5⟩, h6, h7⟩ := h
  have a1 : (w3.alloc o).heap[w0.heap.size]? = _ := (Below.heap_alloc _ _ _ (lt_of_block h1)).trans h1
  have a2 : (w3.alloc o).heap[w0.heap.size + 1]? = _ := (Below.heap_alloc _ _ _ (lt_of_block h2)).trans h2
  have b1 := (hgr.block _ (lt_of_block a1) (fun e => own_apart (h3.alloc o) a1 (by decide) e.symm)).trans a1
  have b2 := (hgr.block _ (lt_of_block a2) (fun e => own_apart (h3.alloc o) a2 (by decide) e.symm)).trans a2
  have b4 := (h4.alloc o).kept hgr (fun e => own_not_map (h3.alloc o) (h4.alloc o) e.symm)
  have hb3 : Below w0.heap.size w0 (w3.alloc o) := h7.alloc h7.size o
  have hlt := (h3.alloc o).lt
  have hb5 : Below w0.heap.size w0 w5 := hb3.grown hgr hb3.size (fun j hj => (hlt j hj).1)
  have e2 : addAt acc (bl L) (bl RV) = acc ++ [(bl L, bl RV)] := by
    unfold addAt
    rw [if_neg hni]
  refine ⟨tag_cell b2 2 _ rfl, tag_free b2 2, ?_, ?_, ?_, ⟨D, ?_, h5⟩, ?_, ?_⟩
  · exact (Below.heap_setCell _ _ _ _ (by simp)).trans b1
  · exact tok_set b2 2 v'
  · have e3 : atts true (addAt acc (bl L) (bl RV)) = acc ++ [(bl L, bl RV)] := e2
    rw [e3, attrCells_app, List.length_append]
    have e4 : attrCells [(bl L, bl RV)] = [.string L, .string RV] := by
      show [Value.string ⟨(bl L).toArray⟩, .string ⟨(bl RV).toArray⟩] = _
      rw [bl_eta, bl_eta]
    rw [e4]
    exact own_set hown5 b2 (by decide) 2 v'
  · obtain ⟨es, cl, hm, hrest⟩ := b4
    exact ⟨es, cl, (Below.heap_setCell _ _ _ _ (by simp)).trans hm, hrest⟩
  · rw [e2, List.length_append]
    simp only [List.length_cons, List.length_nil]
    omega
  · exact hb5.setCell (p := ⟨w0.heap.size + 1, 2, none⟩) (Nat.le_succ _) v'
end Go.Proofs.YtholfdfjapgfbaaGreatDoor
