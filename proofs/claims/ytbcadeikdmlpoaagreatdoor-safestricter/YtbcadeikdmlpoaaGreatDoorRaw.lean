/-
  What tok.Raw and the document's Raw answer at every name.
-/
import Derived.Test.YtbcadeikdmlpoaaGreatDoorV1
import Derived.Test.YtbcadeikdmlpoaaGreatDoorM4
import Derived.WalkMore
namespace Go.Proofs.YtbcadeikdmlpoaaGreatDoor.Dm
open Go.RowKit
open Utf1

theorem eq_lit (s : ByteArray) (l : List UInt8) : (s.toList == l) = decide (bl s = l) := by
  rw [ByteArray.toList_eq]
  by_cases h : bl s = l
  · rw [decide_eq_true h]
    exact beq_iff_eq.2 h
  · rw [decide_eq_false h]
    exact beq_eq_false_iff_ne.2 h

set_option maxHeartbeats 2000000 in
theorem raw_any (s : ByteArray) (w : World) :
    Calls Tryz.prog 73 #[.string s] w fun e w' => e = .returned (.tuple #[.bool (rawOf (bl s)).isSome, .bool ((rawOf (bl s)).getD false)]) ∧ w' = w := by
  have f0 := eq_lit s [115, 99, 114, 105, 112, 116]
  by_cases h0 : bl s = [115, 99, 114, 105, 112, 116]
  · rw [decide_eq_true h0] at f0
    have e : rawOf (bl s) = some false := by
      rw [h0]
      decide
    rw [e]
    clear e h0
    go_enter Tryz.func73, Tryz.ntmps73
    go_wp2
    go_ret2
    exact ⟨rfl, rfl⟩
  rw [decide_eq_false h0] at f0
  have f1 := eq_lit s [115, 116, 121, 108, 101]
  by_cases h1 : bl s = [115, 116, 121, 108, 101]
  · rw [decide_eq_true h1] at f1
    have e : rawOf (bl s) = some false := by
      rw [h1]
      decide
    rw [e]
    clear e h0 h1
    go_enter Tryz.func73, Tryz.ntmps73
    go_wp2
    go_ret2
    exact ⟨rfl, rfl⟩
  rw [decide_eq_false h1] at f1
  have f2 := eq_lit s [120, 109, 112]
  by_cases h2 : bl s = [120, 109, 112]
  · rw [decide_eq_true h2] at f2
    have e : rawOf (bl s) = some false := by
      rw [h2]
      decide
    rw [e]
    clear e h0 h1 h2
    go_enter Tryz.func73, Tryz.ntmps73
    go_wp2
    go_ret2
    exact ⟨rfl, rfl⟩
  rw [decide_eq_false h2] at f2
  have f3 := eq_lit s [105, 102, 114, 97, 109, 101]
  by_cases h3 : bl s = [105, 102, 114, 97, 109, 101]
  · rw [decide_eq_true h3] at f3
    have e : rawOf (bl s) = some false := by
      rw [h3]
      decide
    rw [e]
    clear e h0 h1 h2 h3
    go_enter Tryz.func73, Tryz.ntmps73
    go_wp2
    go_ret2
    exact ⟨rfl, rfl⟩
  rw [decide_eq_false h3] at f3
  have f4 := eq_lit s [110, 111, 101, 109, 98, 101, 100]
  by_cases h4 : bl s = [110, 111, 101, 109, 98, 101, 100]
  · rw [decide_eq_true h4] at f4
    have e : rawOf (bl s) = some false := by
      rw [h4]
      decide
    rw [e]
    clear e h0 h1 h2 h3 h4
    go_enter Tryz.func73, Tryz.ntmps73
    go_wp2
    go_ret2
    exact ⟨rfl, rfl⟩
  rw [decide_eq_false h4] at f4
  have f5 := eq_lit s [110, 111, 102, 114, 97, 109, 101, 115]
  by_cases h5 : bl s = [110, 111, 102, 114, 97, 109, 101, 115]
  · rw [decide_eq_true h5] at f5
    have e : rawOf (bl s) = some false := by
      rw [h5]
      decide
    rw [e]
    clear e h0 h1 h2 h3 h4 h5
    go_enter Tryz.func73, Tryz.ntmps73
    go_wp2
    go_ret2
    exact ⟨rfl, rfl⟩
  rw [decide_eq_false h5] at f5
  have f6 := eq_lit s [112, 108, 97, 105, 110, 116, 101, 120, 116]
  by_cases h6 : bl s = [112, 108, 97, 105, 110, 116, 101, 120, 116]
  · rw [decide_eq_true h6] at f6
    have e : rawOf (bl s) = some false := by
      rw [h6]
      decide
    rw [e]
    clear e h0 h1 h2 h3 h4 h5 h6
    go_enter Tryz.func73, Tryz.ntmps73
    go_wp2
    go_ret2
    exact ⟨rfl, rfl⟩
  rw [decide_eq_false h6] at f6
  have f7 := eq_lit s [116, 101, 120, 116, 97, 114, 101, 97]
  by_cases h7 : bl s = [116, 101, 120, 116, 97, 114, 101, 97]
  · rw [decide_eq_true h7] at f7
    have e : rawOf (bl s) = some true := by
      rw [h7]
      decide
    rw [e]
    clear e h0 h1 h2 h3 h4 h5 h6 h7
    go_enter Tryz.func73, Tryz.ntmps73
    go_wp2
    go_ret2
    exact ⟨rfl, rfl⟩
  rw [decide_eq_false h7] at f7
  have f8 := eq_lit s [116, 105, 116, 108, 101]
  by_cases h8 : bl s = [116, 105, 116, 108, 101]
  · rw [decide_eq_true h8] at f8
    have e : rawOf (bl s) = some true := by
      rw [h8]
      decide
    rw [e]
    clear e h0 h1 h2 h3 h4 h5 h6 h7 h8
    go_enter Tryz.func73, Tryz.ntmps73
    go_wp2
    go_ret2
    exact ⟨rfl, rfl⟩
  rw [decide_eq_false h8] at f8
  have e : rawOf (bl s) = none := by
    unfold rawOf raws
    simp only [lookR]
    rw [if_neg (Ne.symm h0), if_neg (Ne.symm h1), if_neg (Ne.symm h2), if_neg (Ne.symm h3), if_neg (Ne.symm h4), if_neg (Ne.symm h5), if_neg (Ne.symm h6), if_neg (Ne.symm h7), if_neg (Ne.symm h8)]
  rw [e]
  clear e h0 h1 h2 h3 h4 h5 h6 h7 h8
  go_enter Tryz.func73, Tryz.ntmps73
  go_wp2
  go_ret2
  exact ⟨rfl, rfl⟩

theorem eq_rev (s : ByteArray) (l : List UInt8) : (l == s.toList) = decide (bl s = l) := by
  rw [ByteArray.toList_eq]
  by_cases h : bl s = l
  · rw [decide_eq_true h]
    exact beq_iff_eq.2 h.symm
  · rw [decide_eq_false h]
    exact beq_eq_false_iff_ne.2 (Ne.symm h)

set_option maxRecDepth 100000 in
set_option maxHeartbeats 4000000 in
theorem refRaw_any (s : ByteArray) (w : World) :
    Calls Tryz.prog 84 #[.string s] w fun e w' => e = .returned (.tuple #[.bool (rawOf (bl s)).isSome, .bool ((rawOf (bl s)).getD false)]) ∧ Below w.heap.size w w' := by
  have f0 := eq_rev s [115, 99, 114, 105, 112, 116]
  have f1 := eq_rev s [115, 116, 121, 108, 101]
  have f2 := eq_rev s [120, 109, 112]
  have f3 := eq_rev s [105, 102, 114, 97, 109, 101]
  have f4 := eq_rev s [110, 111, 101, 109, 98, 101, 100]
  have f5 := eq_rev s [110, 111, 102, 114, 97, 109, 101, 115]
  have f6 := eq_rev s [112, 108, 97, 105, 110, 116, 101, 120, 116]
  have f7 := eq_lit s [116, 101, 120, 116, 97, 114, 101, 97]
  have f8 := eq_lit s [116, 105, 116, 108, 101]
  have HR : Hid (∀ (b : Bool) (k : List UInt8), (k, b) ∈ raws → bl s = k → rawOf (bl s) = some b) := hide (by
    have H : ∀ p ∈ raws, rawOf p.1 = some p.2 := by decide
    intro b k hk e
    rw [e]
    exact H _ hk)
  go_enter Tryz.func84, Tryz.ntmps84
  go_wp2_with fail
  go_loopg [5] 7 (fun g v wr => ∃ p : Nat, p + g = 7 ∧ v = .int .i64 (p : Int) ∧ Hid (Below w.heap.size w wr ∧ wr.cell? ⟨w.heap.size, 0, none⟩ = some (.string ⟨#[115, 99, 114, 105, 112, 116]⟩) ∧ wr.cell? ⟨w.heap.size, 1, none⟩ = some (.string ⟨#[115, 116, 121, 108, 101]⟩) ∧ wr.cell? ⟨w.heap.size, 2, none⟩ = some (.string ⟨#[120, 109, 112]⟩) ∧ wr.cell? ⟨w.heap.size, 3, none⟩ = some (.string ⟨#[105, 102, 114, 97, 109, 101]⟩) ∧ wr.cell? ⟨w.heap.size, 4, none⟩ = some (.string ⟨#[110, 111, 101, 109, 98, 101, 100]⟩) ∧ wr.cell? ⟨w.heap.size, 5, none⟩ = some (.string ⟨#[110, 111, 102, 114, 97, 109, 101, 115]⟩) ∧ wr.cell? ⟨w.heap.size, 6, none⟩ = some (.string ⟨#[112, 108, 97, 105, 110, 116, 101, 120, 116]⟩)) ∧ Hid (∀ k ∈ (raws.take p).map Prod.fst, bl s ≠ k))
  case atStart => exact ⟨0, by omega, rfl, hide ⟨(Below.refl _ _).alloc (Nat.le_refl _) _, by simp, by simp, by simp, by simp, by simp, by simp, by simp⟩, hide (by simp)⟩
  case round =>
    obtain ⟨p, hp, rfl, HC, HN⟩ := hrel
    obtain ⟨hbel, c0, c1, c2, c3, c4, c5, c6⟩ := HC.out
    have HBEL := hide hbel
    clear hbel
    match p, hp with
    | 0, hp =>
      by_cases h : bl s = [115, 99, 114, 105, 112, 116]
      · rw [decide_eq_true h] at f0
        have HV := hide (HR.out false _ (by decide) h)
        clear h HR HC HN f1 f2 f3 f4 f5 f6 f7 f8 c1 c2 c3 c4 c5 c6
        go_wp2_with fail
        go_ret2
        rw [HV.out]
        exact ⟨rfl, HBEL.out⟩
      · rw [decide_eq_false h] at f0
        have HN2 : Hid (∀ k ∈ (raws.take 1).map Prod.fst, bl s ≠ k) := hide (by
          intro k hk
          have e : (raws.take 1).map Prod.fst = (raws.take 0).map Prod.fst ++ [[115, 99, 114, 105, 112, 116]] := by decide
          rw [e] at hk
          rcases List.mem_append.1 hk with hk | hk
          · exact HN.out k hk
          · rw [List.mem_singleton.1 hk]
            exact h)
        clear h HN f1 f2 f3 f4 f5 f6 f7 f8 c1 c2 c3 c4 c5 c6
        go_wp2_with fail
        go_roundg (gk - 1)
        case measure => omega
        case rel => exact ⟨1, by omega, by first | rfl | simp, HC, HN2⟩
    | 1, hp =>
      by_cases h : bl s = [115, 116, 121, 108, 101]
      · rw [decide_eq_true h] at f1
        have HV := hide (HR.out false _ (by decide) h)
        clear h HR HC HN f0 f2 f3 f4 f5 f6 f7 f8 c0 c2 c3 c4 c5 c6
        go_wp2_with fail
        go_ret2
        rw [HV.out]
        exact ⟨rfl, HBEL.out⟩
      · rw [decide_eq_false h] at f1
        have HN2 : Hid (∀ k ∈ (raws.take 2).map Prod.fst, bl s ≠ k) := hide (by
          intro k hk
          have e : (raws.take 2).map Prod.fst = (raws.take 1).map Prod.fst ++ [[115, 116, 121, 108, 101]] := by decide
          rw [e] at hk
          rcases List.mem_append.1 hk with hk | hk
          · exact HN.out k hk
          · rw [List.mem_singleton.1 hk]
            exact h)
        clear h HN f0 f2 f3 f4 f5 f6 f7 f8 c0 c2 c3 c4 c5 c6
        go_wp2_with fail
        go_roundg (gk - 1)
        case measure => omega
        case rel => exact ⟨2, by omega, by first | rfl | simp, HC, HN2⟩
    | 2, hp =>
      by_cases h : bl s = [120, 109, 112]
      · rw [decide_eq_true h] at f2
        have HV := hide (HR.out false _ (by decide) h)
        clear h HR HC HN f0 f1 f3 f4 f5 f6 f7 f8 c0 c1 c3 c4 c5 c6
        go_wp2_with fail
        go_ret2
        rw [HV.out]
        exact ⟨rfl, HBEL.out⟩
      · rw [decide_eq_false h] at f2
        have HN2 : Hid (∀ k ∈ (raws.take 3).map Prod.fst, bl s ≠ k) := hide (by
          intro k hk
          have e : (raws.take 3).map Prod.fst = (raws.take 2).map Prod.fst ++ [[120, 109, 112]] := by decide
          rw [e] at hk
          rcases List.mem_append.1 hk with hk | hk
          · exact HN.out k hk
          · rw [List.mem_singleton.1 hk]
            exact h)
        clear h HN f0 f1 f3 f4 f5 f6 f7 f8 c0 c1 c3 c4 c5 c6
        go_wp2_with fail
        go_roundg (gk - 1)
        case measure => omega
        case rel => exact ⟨3, by omega, by first | rfl | simp, HC, HN2⟩
    | 3, hp =>
      by_cases h : bl s = [105, 102, 114, 97, 109, 101]
      · rw [decide_eq_true h] at f3
        have HV := hide (HR.out false _ (by decide) h)
        clear h HR HC HN f0 f1 f2 f4 f5 f6 f7 f8 c0 c1 c2 c4 c5 c6
        go_wp2_with fail
        go_ret2
        rw [HV.out]
        exact ⟨rfl, HBEL.out⟩
      · rw [decide_eq_false h] at f3
        have HN2 : Hid (∀ k ∈ (raws.take 4).map Prod.fst, bl s ≠ k) := hide (by
          intro k hk
          have e : (raws.take 4).map Prod.fst = (raws.take 3).map Prod.fst ++ [[105, 102, 114, 97, 109, 101]] := by decide
          rw [e] at hk
          rcases List.mem_append.1 hk with hk | hk
          · exact HN.out k hk
          · rw [List.mem_singleton.1 hk]
            exact h)
        clear h HN f0 f1 f2 f4 f5 f6 f7 f8 c0 c1 c2 c4 c5 c6
        go_wp2_with fail
        go_roundg (gk - 1)
        case measure => omega
        case rel => exact ⟨4, by omega, by first | rfl | simp, HC, HN2⟩
    | 4, hp =>
      by_cases h : bl s = [110, 111, 101, 109, 98, 101, 100]
      · rw [decide_eq_true h] at f4
        have HV := hide (HR.out false _ (by decide) h)
        clear h HR HC HN f0 f1 f2 f3 f5 f6 f7 f8 c0 c1 c2 c3 c5 c6
        go_wp2_with fail
        go_ret2
        rw [HV.out]
        exact ⟨rfl, HBEL.out⟩
      · rw [decide_eq_false h] at f4
        have HN2 : Hid (∀ k ∈ (raws.take 5).map Prod.fst, bl s ≠ k) := hide (by
          intro k hk
          have e : (raws.take 5).map Prod.fst = (raws.take 4).map Prod.fst ++ [[110, 111, 101, 109, 98, 101, 100]] := by decide
          rw [e] at hk
          rcases List.mem_append.1 hk with hk | hk
          · exact HN.out k hk
          · rw [List.mem_singleton.1 hk]
            exact h)
        clear h HN f0 f1 f2 f3 f5 f6 f7 f8 c0 c1 c2 c3 c5 c6
        go_wp2_with fail
        go_roundg (gk - 1)
        case measure => omega
        case rel => exact ⟨5, by omega, by first | rfl | simp, HC, HN2⟩
    | 5, hp =>
      by_cases h : bl s = [110, 111, 102, 114, 97, 109, 101, 115]
      · rw [decide_eq_true h] at f5
        have HV := hide (HR.out false _ (by decide) h)
        clear h HR HC HN f0 f1 f2 f3 f4 f6 f7 f8 c0 c1 c2 c3 c4 c6
        go_wp2_with fail
        go_ret2
        rw [HV.out]
        exact ⟨rfl, HBEL.out⟩
      · rw [decide_eq_false h] at f5
        have HN2 : Hid (∀ k ∈ (raws.take 6).map Prod.fst, bl s ≠ k) := hide (by
          intro k hk
          have e : (raws.take 6).map Prod.fst = (raws.take 5).map Prod.fst ++ [[110, 111, 102, 114, 97, 109, 101, 115]] := by decide
          rw [e] at hk
          rcases List.mem_append.1 hk with hk | hk
          · exact HN.out k hk
          · rw [List.mem_singleton.1 hk]
            exact h)
        clear h HN f0 f1 f2 f3 f4 f6 f7 f8 c0 c1 c2 c3 c4 c6
        go_wp2_with fail
        go_roundg (gk - 1)
        case measure => omega
        case rel => exact ⟨6, by omega, by first | rfl | simp, HC, HN2⟩
    | 6, hp =>
      by_cases h : bl s = [112, 108, 97, 105, 110, 116, 101, 120, 116]
      · rw [decide_eq_true h] at f6
        have HV := hide (HR.out false _ (by decide) h)
        clear h HR HC HN f0 f1 f2 f3 f4 f5 f7 f8 c0 c1 c2 c3 c4 c5
        go_wp2_with fail
        go_ret2
        rw [HV.out]
        exact ⟨rfl, HBEL.out⟩
      · rw [decide_eq_false h] at f6
        have HN2 : Hid (∀ k ∈ (raws.take 7).map Prod.fst, bl s ≠ k) := hide (by
          intro k hk
          have e : (raws.take 7).map Prod.fst = (raws.take 6).map Prod.fst ++ [[112, 108, 97, 105, 110, 116, 101, 120, 116]] := by decide
          rw [e] at hk
          rcases List.mem_append.1 hk with hk | hk
          · exact HN.out k hk
          · rw [List.mem_singleton.1 hk]
            exact h)
        clear h HN f0 f1 f2 f3 f4 f5 f7 f8 c0 c1 c2 c3 c4 c5
        go_wp2_with fail
        go_roundg (gk - 1)
        case measure => omega
        case rel => exact ⟨7, by omega, by first | rfl | simp, HC, HN2⟩
    | 7, hp =>
      have hn := HN.out
      clear c0 c1 c2 c3 c4 c5 c6 f0 f1 f2 f3 f4 f5 f6
      by_cases h7 : bl s = [116, 101, 120, 116, 97, 114, 101, 97]
      · rw [decide_eq_true h7] at f7
        have HV := hide (HR.out true _ (by decide) h7)
        clear h7 hn HR HC HN
        go_wp2_with fail
        go_ret2
        rw [HV.out]
        exact ⟨rfl, HBEL.out⟩
      · rw [decide_eq_false h7] at f7
        by_cases h8 : bl s = [116, 105, 116, 108, 101]
        · rw [decide_eq_true h8] at f8
          have HV := hide (HR.out true _ (by decide) h8)
          clear h7 h8 hn HR HC HN
          go_wp2_with fail
          go_ret2
          rw [HV.out]
          exact ⟨rfl, HBEL.out⟩
        · rw [decide_eq_false h8] at f8
          have e : rawOf (bl s) = none := by
            have k : ∀ (t : List (List UInt8 × Bool)) (x : List UInt8), (∀ y ∈ t.map Prod.fst, x ≠ y) → lookR t x = none := by
              intro t
              induction t with
              | nil => intro _ _; rfl
              | cons q t ih =>
                intro x h
                unfold lookR
                rw [if_neg (Ne.symm (h _ (by simp))), ih x (fun y hy => h y (by simp only [List.map_cons, List.mem_cons]; exact .inr hy))]
            refine k raws _ ?_
            intro y hy
            have : raws.map Prod.fst = (raws.take 7).map Prod.fst ++ [[116, 101, 120, 116, 97, 114, 101, 97], [116, 105, 116, 108, 101]] := by decide
            rw [this] at hy
            rcases List.mem_append.1 hy with hy | hy
            · exact hn y hy
            · simp only [List.mem_cons, List.not_mem_nil, or_false] at hy
              rcases hy with rfl | rfl
              · exact h7
              · exact h8
          have HV := hide e
          clear h7 h8 hn HR HC HN e
          go_wp2_with fail
          go_ret2
          rw [HV.out]
          exact ⟨rfl, HBEL.out⟩
    | _ + 8, hp => omega
end Go.Proofs.YtbcadeikdmlpoaaGreatDoor.Dm
