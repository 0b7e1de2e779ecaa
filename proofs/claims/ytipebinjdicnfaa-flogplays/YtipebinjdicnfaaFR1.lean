/-
  The document's functions, walked: Same, Frame, Frames.
-/
import Derived.Test.YtipebinjdicnfaaFW2
namespace Go.Proofs.Ytipebinjdicnfaa
open Go.RowKit

/-- A row of strings that is read. -/
def StrArg (w : World) (v : Value) (ss : List ByteArray) : Prop := ∃ p cap, v = .slice p ss.length cap ∧ (p = none → cap = 0) ∧ ∀ i s, ss[i]? = some s → ∃ b off, p = some ⟨b, off, none⟩ ∧ w.cell? ⟨b, off + i, none⟩ = some (.string s)
theorem StrArg.below {w w' : World} {v : Value} {ss : List ByteArray} (h : StrArg w v ss) (hb : Below w.heap.size w w') : StrArg w' v ss := by
  obtain ⟨p, cap, e, h0, hc⟩ := h
  refine ⟨p, cap, e, h0, fun i s hi => ?_⟩
  obtain ⟨b, off, hp, hcell⟩ := hc i s hi
  exact ⟨b, off, hp, cell_keep hcell hb⟩
theorem own_str {w : World} {B : Nat} {v : Value} {ss : List ByteArray} (h : w.ownsRow B 9 1 v ss.length (strV ss)) : StrArg w v ss := by
  obtain ⟨_, ⟨rfl, h0⟩ | ⟨g, cap, cur, rfl, h2⟩⟩ := id h
  · refine ⟨none, 0, by rw [h0], fun _ => rfl, fun i s hi => ?_⟩
    rw [List.eq_nil_of_length_eq_zero h0] at hi
    simp at hi
  · refine ⟨some ⟨g, 0, none⟩, cap, rfl, (fun h => by simp at h), fun i s hi => ⟨g, 0, rfl, ?_⟩⟩
    have hlt : i < ss.length := (List.getElem?_eq_some_iff.1 hi).1
    rw [Nat.zero_add, h.cellAt i (by omega)]
    unfold strV
    rw [List.getElem?_map, hi]
    rfl

set_option maxHeartbeats 4000000 in
theorem same_any (w : World) (u v : Value) (a b : List ByteArray) (ha : StrArg w u a) (hb : StrArg w v b) (hl : a.length ≤ 1000000) (D : Bool) (hD : D = decide (a = b)) :
    Calls Try.prog 20 #[u, v] w fun e w' => e = .returned (.bool D) ∧ Below w.heap.size w w' := by
  have HA := hide ha
  have HB := hide hb
  have HD := hide hD
  obtain ⟨p, c, rfl, -, -⟩ := ha
  obtain ⟨q, d, rfl, -, -⟩ := hb
  obtain ⟨N, hN⟩ : ∃ N, N = a.length := ⟨_, rfl⟩
  obtain ⟨M, hM⟩ : ∃ M, M = b.length := ⟨_, rfl⟩
  rw [← hN] at HA hl ⊢
  rw [← hM] at HB ⊢
  have HN := hide hN
  have HM := hide hM
  clear hD hN hM
  by_cases hNM : N = M
  · have h0 : ((N : Int) != (M : Int)) = false := by simp; omega
    have HNM := hide hNM
    clear hNM
    go_enter Try.func20, Try.ntmps20
    go_wp2_with fail
    go_loopg [5] N (fun g v5 wr => ∃ j : Nat, j + g = N ∧ v5 = .int .i64 (j : Int) ∧ Hid ((∀ i, i < j → a[i]? = b[i]?) ∧ Below w.heap.size w wr))
    case atStart => exact ⟨0, by omega, rfl, hide ⟨fun i h => by omega, Below.refl _ _⟩⟩
    case round =>
      obtain ⟨j, hj, rfl, HI⟩ := hrel
      by_cases hlt : j < N
      · have hja : j < a.length := by have := HN.out; omega
        have hjb : j < b.length := by have := HM.out; have := HNM.out; omega
        have hga : a[j]? = some a[j] := List.getElem?_eq_getElem hja
        have hgb : b[j]? = some b[j] := List.getElem?_eq_getElem hjb
        have hjM : (j : Int) < (M : Int) := by have := HNM.out; omega
        generalize a[j] = x at hga
        generalize b[j] = y at hgb
        obtain ⟨p1, c1, e1, -, hc1⟩ := HA.out.below HI.out.2
        obtain ⟨q1, d1, e2, -, hc2⟩ := HB.out.below HI.out.2
        injection e1 with e1 _ _
        injection e2 with e2 _ _
        obtain ⟨b1, o1, hp1, k1⟩ := hc1 j x hga
        obtain ⟨b2, o2, hp2, k2⟩ := hc2 j y hgb
        rw [← e1] at hp1
        rw [← e2] at hp2
        subst hp1
        subst hp2
        have HG := hide (And.intro hga hgb)
        clear e1 e2 hc1 hc2 hga hgb hja hjb
        by_cases hxy : x = y
        · have h1 : (x.toList == y.toList) = true := by rw [hxy]; exact beq_self_eq_true _
          have HXY := hide hxy
          clear hxy
          go_wp2_with fail
          go_region
          go_wp2_with fail
          go_roundg (N - (j + 1))
          case measure => omega
          case rel => exact ⟨j + 1, by omega, rfl, hide ⟨fun i hi => by
            rcases Nat.lt_or_ge i j with h | h
            · exact HI.out.1 i h
            · have : i = j := by omega
              subst this
              rw [HG.out.1, HG.out.2, HXY.out], HI.out.2.drew⟩⟩
        · have h1 : (x.toList == y.toList) = false := by
            rw [ByteArray.toList_eq, ByteArray.toList_eq]
            exact beq_eq_false_iff_ne.2 (fun e => hxy (bl_inj e))
          have HF : Hid (D = false) := hide (by
            rw [HD.out]
            exact decide_eq_false (fun e => hxy (by
              have h2 := HG.out
              rw [e, h2.2] at h2
              exact (Option.some.inj h2.1).symm)))
          clear hxy
          go_wp2_with fail
          go_region
          go_wp2_with fail
          go_ret
          rw [HF.out]
          exact ⟨rfl, HI.out.2.drew⟩
      · have hd : decide ((j : Int) < (N : Int)) = false := decide_eq_false (by omega)
        go_wp2_with fail
        go_ret
        have HF : D = true := by
          rw [HD.out]
          refine decide_eq_true (List.ext_getElem? fun i => ?_)
          rcases Nat.lt_or_ge i j with h | h
          · exact HI.out.1 i h
          · have h1 := HN.out
            have h2 := HM.out
            have h3 := HNM.out
            rw [List.getElem?_eq_none (by omega), List.getElem?_eq_none (by omega)]
        rw [HF]
        exact ⟨rfl, HI.out.2⟩
  · have h0 : ((N : Int) != (M : Int)) = true := by simp; omega
    have HF : Hid (D = false) := hide (by
      rw [HD.out]
      exact decide_eq_false (fun e => hNM (by rw [HN.out, HM.out, e])))
    clear hNM
    go_enter Try.func20, Try.ntmps20
    go_wp2_with fail
    go_ret
    rw [HF.out]
    exact ⟨rfl, Below.refl _ _⟩
end Go.Proofs.Ytipebinjdicnfaa
