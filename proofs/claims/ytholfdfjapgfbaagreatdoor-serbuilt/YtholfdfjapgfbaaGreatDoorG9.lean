/-
  The tree's builder: endText.
-/
import Derived.Test.YtholfdfjapgfbaaGreatDoorG8
namespace Go.Proofs.YtholfdfjapgfbaaGreatDoor.Dm
open Go.RowKit
open Utf1

/-- What the innermost has once the text that waits is put there. -/
def textIn (nd : Nd) (t : List UInt8) : Nd := if t = [] then nd else addKid nd (.mk [] [] t [])

theorem St0.bb {w : World} {base B : Nat} {os : List Nd} {pa bv : Value} {o n : Nat} (h : St0 w base B os pa bv o n) : ∃ ov, BB w B ov pa bv (.int .i64 (o : Int)) (.int .i64 (n : Int)) := by
  obtain ⟨_, _, ov, _, _, _, h4, _⟩ := h
  exact ⟨ov, h4⟩
theorem bytes_no_node {w : World} {base B : Nat} {pa bv : Value} {t : List UInt8} (h : Wait w base B pa bv t) : ∀ k ∈ blk bv, ∀ cs fz, w.heap[k]? ≠ some (.cells cs 42 fz) := by
  intro k hk cs fz e
  exact own_apart h.2 e (by decide) (by unfold blk at hk; simpa using hk)
theorem bb_no_node {w : World} {B : Nat} {ov pa bv x y : Value} (h : BB w B ov pa bv x y) : ∀ k ∈ [B], ∀ cs fz, w.heap[k]? ≠ some (.cells cs 42 fz) := by
  intro k hk cs fz e
  have : k = B := by simpa using hk
  subst this
  unfold BB at h
  rw [h] at e
  simp at e

set_option maxHeartbeats 4000000 in
theorem endText_st (w : World) (base B : Nat) (i : List Nd) (nd : Nd) (t : List UInt8) (o n : Nat) (h : St w base B (i ++ [nd]) t o n) (hi : i.length ≤ 100000) (hk : nd.kids.length ≤ 100000) (ht : t.length ≤ 100000000) :
    Calls Tryz.prog 20 #[.pointer (some ⟨B, 0, none⟩)] w fun e w' => e = .returned (.tuple #[]) ∧ St w' base B (i ++ [textIn nd t]) [] o n ∧ Below base w w' := by
  obtain ⟨pa, bv, h0, hw⟩ := h
  obtain ⟨ov, hB⟩ := h0.bb
  obtain ⟨bp, bm, bc, rfl⟩ := own_slice hw.2
  have hbm : bm = t.length := by
    obtain ⟨_, _, e⟩ := own_len hw.2
    injection e with _ e2 _
    rw [byte_len] at e2
    exact e2
  subst hbm
  have HL := hide (blen_any w B ov pa bp t.length bc _ _ hB)
  have hBl : B < w.heap.size := lt_of_block hB
  by_cases ht0 : t = []
  · subst ht0
    have HE : Hid (St w base B (i ++ [textIn nd []]) [] o n) := hide ⟨pa, _, by unfold textIn; rw [if_pos rfl]; exact h0, hw⟩
    clear h0 hw hB
    go_enter Tryz.func20, Tryz.ntmps20
    go_wp2_with fail
    refine HL.out.mono ?_
    rintro e w1 ⟨rfl, rfl⟩
    clear HL
    go_wp2_with fail
    go_end0
    exact ⟨rfl, HE.out, Below.refl _ _⟩
  · have hpos : 0 < t.length := List.length_pos_iff.2 ht0
    have hd : decide ((0 : Int) < (t.length : Int)) = true := decide_eq_true (by omega)
    have HST := hide (bstring_any w B base ov pa (.slice bp t.length bc) _ _ t hB hw ht0)
    have HH := hide (And.intro h0 hw)
    clear h0 hw
    go_enter Tryz.func20, Tryz.ntmps20
    go_wp2_with fail
    refine HL.out.mono ?_
    rintro e w1 ⟨rfl, rfl⟩
    clear HL
    go_wp2_with fail
    refine HST.out.mono ?_
    rintro e w2 ⟨rfl, hB2, hs2, hb2⟩
    have h2 : St0 w2 base B (i ++ [nd]) pa (.slice bp t.length bc) o n := HH.out.1.stays hs2 (bytes_no_node HH.out.2) (fun ov' hB' => by
      have e : BB w1 B ov pa (.slice bp t.length bc) (.int .i64 (o : Int)) (.int .i64 (n : Int)) := hB
      unfold BB at hB' e
      rw [e] at hB'
      simp at hB'
      subst hB'
      exact hB2)
    have HP := hide (put_st w2 base B i nd pa (.slice bp t.length bc) o n (.mk [] [] t []) none 0 0 none 0 0 (stx_text h2 t) hi hk)
    have HB2 := hide hb2
    clear HST h2 hs2 hb2 hB2
    go_wp2_with fail
    refine HP.out.mono ?_
    rintro e w3 ⟨rfl, h3, hb3, -⟩
    obtain ⟨ov3, hB3⟩ := h3.bb
    have HR := hide (breset_any w3 B ov3 pa (.slice bp t.length bc) _ _ hB3)
    have HE : Hid (St ((w3.setCell ⟨B, 1, none⟩ (.pointer none)).setCell ⟨B, 2, none⟩ (.slice none 0 0)) base B (i ++ [textIn nd t]) [] o n ∧ Below base w1 ((w3.setCell ⟨B, 1, none⟩ (.pointer none)).setCell ⟨B, 2, none⟩ (.slice none 0 0))) := hide (by
      have hbB := h3.1
      refine ⟨⟨.pointer none, .slice none 0 0, ?_, .inl rfl, World.ownsRow_nil _ _ _ _⟩, (((HB2.out.trans hb3).setCell (p := ⟨B, 1, none⟩) hbB _).setCell (p := ⟨B, 2, none⟩) hbB _)⟩
      have e1 : i ++ [textIn nd t] = i ++ [addKid nd (.mk [] [] t [])] := by
        unfold textIn
        rw [if_neg ht0]
      rw [e1]
      have s1 := stays_set hB3 1 (.pointer none)
      have hB4 := (bb_set hB3 (.pointer none)).1
      have s2 := stays_set hB4 2 (.slice none 0 0)
      have q1 : St0 (w3.setCell ⟨B, 1, none⟩ (.pointer none)) base B (i ++ [addKid nd (.mk [] [] t [])]) (.pointer none) (.slice bp t.length bc) o n := h3.stays s1 (bb_no_node hB3) (fun ov' hb => (bb_set hb _).1)
      exact q1.stays s2 (bb_no_node hB4) (fun ov' hb => (bb_set hb _).2))
    clear HP h3 hb3 hB3
    go_wp2_with fail
    refine HR.out.mono ?_
    rintro e w4 ⟨rfl, rfl⟩
    clear HR
    go_wp2_with fail
    go_end0
    exact ⟨rfl, HE.out⟩
end Go.Proofs.YtholfdfjapgfbaaGreatDoor.Dm
