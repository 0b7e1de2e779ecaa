/-
  The tree's builder: an open node more, in the builder's state.
-/
import Derived.Test.YtholfdfjapgfbaaGreatDoorG17
namespace Go.Proofs.YtholfdfjapgfbaaGreatDoor.Dm
open Go.RowKit
open Utf1

theorem push_st {w w' : World} {base B : Nat} {ov pa bv : Value} {o n : Nat} {l : List (Nd × Value × Value)} {fp : List Nat} {ov' : Value} (nm : List UInt8) (at' : List (List UInt8 × List UInt8)) (ap : Option Addr) (am ac : Nat) (hbB : base ≤ B) (hbw : base ≤ w.heap.size)
    (h : BB w B ov pa bv (.int .i64 (o : Int)) (.int .i64 (n : Int))) (hro : w.ownsRow base 42 4 ov l.length (ndCells l)) (hK : KAll w base l fp) (hnd : (blk ov ++ fp).Nodup) (ha : w.ownsRow base 38 2 (.slice ap am ac) at'.length (attrCells at'))
    (hp : PushEnd w w' B base ov pa bv (.int .i64 (o : Int)) (.int .i64 (n : Int)) l ⟨nm.toArray⟩ ⟨#[]⟩ ap am ac none 0 0 ov') :
    St0 w' base B (l.map Prod.fst ++ [.mk nm at' [] []]) pa bv o n ∧ Below base w w' ∧ ∀ (b : Nat) (v : Value) (m : Nat) (xs : List Value), w.ownsRow b 5 1 v m xs → w'.ownsRow b 5 1 v m xs := by
  obtain ⟨p1, p2, p3, p4, p5⟩ := hp
  have hnd' := List.nodup_append.1 hnd
  have hfp : ∀ j ∈ fp, j ∉ B :: blk ov := by
    intro j hj hm
    rcases List.mem_cons.1 hm with rfl | hm
    · obtain ⟨cs, fz, e⟩ := nodes_typed hK j hj
      unfold BB at h
      rw [h] at e
      cases e
    · exact hnd'.2.2 j hm j hj rfl
  refine ⟨⟨hbB, Nat.le_trans hbw p5.size, ov', l ++ [(.mk nm at' [] [], .slice ap am ac, .slice none 0 0)], fp ++ [], ?_, p1, ?_, ?_, ?_⟩, p5, ?_⟩
  · rw [List.map_append]
    rfl
  · rw [nd_one, List.length_append]
    exact p2
  · refine (hK.stays p4 hfp).app ?_
    exact KAll.cons (.mk nm at' [] []) _ _ [] [] [] (attr_stays ha p4) (KAt.empty _ _) .nil
  · rw [List.append_nil]
    rcases p3 with e | e
    · unfold blk
      rw [e]
      exact hnd
    · have : blk ov' = [w.heap.size] := by unfold blk; rw [e]; rfl
      rw [this]
      refine List.nodup_append.2 ⟨by simp, hnd'.2.1, ?_⟩
      intro a ha b hb e
      have h1 := (hK.lt b hb).2
      simp only [List.mem_singleton] at ha
      omega
  · intro b v m xs ho
    refine own_stays ho p4.block ?_
    intro j hj hm
    rcases List.mem_cons.1 hm with rfl | hm
    · exact own_apart ho h (by decide) hj
    · exact own_two_ne ho hro (by decide) hj (by unfold blk at hm; simpa using hm)
end Go.Proofs.YtholfdfjapgfbaaGreatDoor.Dm
