/-
  strings.Builder's String within the tree's builder.
-/
import Derived.Test.YtholfdfjapgfbaaGreatDoorG4
import Derived.RegionTactic
namespace Go.Proofs.YtholfdfjapgfbaaGreatDoor.Dm
open Go.RowKit
open Utf1

theorem cellsByte : Tryz.prog.cellsOf 5 = 1 := by kernel_rfl
set_option maxRecDepth 100000 in
set_option maxHeartbeats 2000000 in
theorem bstring_any (w : World) (B base : Nat) (ov pa bv x y : Value) (t : List UInt8) (h : BB w B ov pa bv x y) (hw : Wait w base B pa bv t) (h0 : t ≠ []) :
    Calls Tryz.prog 29 #[.pointer (some ⟨B, 1, none⟩)] w fun e w' => e = .returned (.string ⟨t.toArray⟩) ∧ BB w' B ov pa bv x y ∧ Stays w w' (blk bv) ∧ Below base w w' := by
  have hown := hw.2
  have hl0 : t.length ≠ 0 := by simpa using h0
  rw [byte_len] at hown
  obtain ⟨g, cap, cur, rfl, hbg, hg, hnc, hcm, hcs, htake⟩ : ∃ g cap cur, bv = .slice (some ⟨g, 0, none⟩) t.length cap ∧ base ≤ g ∧ w.heap[g]? = some (.cells cur 5 (0, 0)) ∧ t.length ≤ cap ∧ cap ≤ maxLen ∧ cur.size = cap * 1 ∧ cur.toList.take (t.length * 1) = Lib.byteCells t := by
    rcases hown.2 with ⟨_, hz⟩ | ⟨g, cap, cur, hv, r⟩
    · exact absurd hz hl0
    · exact ⟨g, cap, cur, hv, r⟩
  have c2 : w.drew.cell? ⟨B, 2, none⟩ = some (.slice (some ⟨g, 0, none⟩) t.length cap) := tag_cell h 2 _ rfl
  have hSD : (Builtin.unsafeSliceData_ #[49] 97 #[.slice (some ⟨g, 0, none⟩) t.length cap]).run Tryz.prog w.drew = .ok (.pointer (some ⟨g, 0, none⟩)) w.drew :=
    Lib.run_unsafeSliceData_row _ _ _ _ _ _ (by omega)
  have hUS : (Builtin.unsafeString_ #[97, 3] 9 #[.pointer (some ⟨g, 0, none⟩), .int .i64 t.length]).run Tryz.prog w.drew = .ok (.string ⟨t.toArray⟩) (w.drew.freeze ⟨g, 0, none⟩ t.length) := by
    refine Lib.run_unsafeString_row w.drew 97 3 9 5 Tryz.underlying97 cellsByte g cur.size (by have hg' : w.drew.heap[g]? = some (.cells cur 5 (0, 0)) := hg; simp [World.shape?, hg']) t h0 (by omega) (by unfold maxLen at hcm; omega) ?_
    intro j x hx
    have := hown.cells (g := g) rfl j (.int .u8 x.toNat) (by simp [Lib.byteCells, hx])
    exact this
  have HB := hide h
  have HO := hide hown
  have hap := own_apart hown h (by decide)
  have HF : Hid (BB (w.drew.freeze ⟨g, 0, none⟩ t.length) B ov pa (.slice (some ⟨g, 0, none⟩) t.length cap) x y ∧ Stays w (w.drew.freeze ⟨g, 0, none⟩ t.length) (blk (.slice (some ⟨g, 0, none⟩) t.length cap)) ∧ Below base w (w.drew.freeze ⟨g, 0, none⟩ t.length)) := hide (by
    have hb := Lib.below_freeze (Below.drew (Below.refl base w)) (p := ⟨g, 0, none⟩) hbg t.length
    have hne : ∀ k, k ≠ g → (w.drew.freeze ⟨g, 0, none⟩ t.length).heap[k]? = w.heap[k]? := by
      intro k hk
      unfold World.freeze
      simp only [h0, List.length_eq_zero_iff, if_false]
      show (w.heap.modify g _)[k]? = _
      rw [Array.getElem?_modify, if_neg (Ne.symm hk)]
    refine ⟨(hne B (fun e => hap (by rw [e]; rfl))).trans h, ⟨hb.size, fun k _ hS => hne k (fun e => hS (by rw [e]; simp [blk, Value.ownBlock])), ?_⟩, hb⟩
    intro k hk cs fz e
    have : k = g := by simpa [blk, Value.ownBlock] using hk
    subst this
    rw [hg] at e
    simp at e)
  clear hw h hown hap hg htake hcs
  go_enter Tryz.func29, Tryz.ntmps29
  go_wp2_with fail
  go_region
  all_goals (go_wp2_with fail; go_ret; exact ⟨rfl, HF.out⟩)
end Go.Proofs.YtholfdfjapgfbaaGreatDoor.Dm
