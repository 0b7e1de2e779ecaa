/-
  What the document's own Allowed answers at every place and every schemes.
-/
import Derived.Test.YtclbkemfgmnfcaaUR2
namespace Go.Proofs.Ytclbkemfgmnfcaa
open Go.RowKit
open Utf1

theorem lt32 (c : UInt8) : decide ((c.toNat : Int) < 32) = decide (c.toNat < 32) := by
  by_cases h : c.toNat < 32
  · rw [decide_eq_true h, decide_eq_true (by omega)]
  · rw [decide_eq_false h, decide_eq_false (by omega)]
theorem any_bad {b : List UInt8} {c : UInt8} {j : Nat} (h : b[j]? = some c) (hc : badB c = true) : plainOk b = false := by
  unfold plainOk
  rw [Bool.and_eq_false_iff]
  right
  rw [List.all_eq_false]
  refine ⟨c, List.mem_of_getElem? h, ?_⟩
  rw [hc]
  decide
theorem take_two (s : ByteArray) : (s.extract 0 2) = ⟨((bl s).take 2).toArray⟩ := extract_take s 2
theorem mem_upto {ss : List ByteArray} {x : List UInt8} {i : Nat} {y : ByteArray} (h : ss[i]? = some y) (hn : ∀ j z, j < i → ss[j]? = some z → bl z ≠ x) (hy : bl y ≠ x) : ∀ j z, j < i + 1 → ss[j]? = some z → bl z ≠ x := by
  intro j z hj hz
  by_cases e : j = i
  · subst e
    rw [h] at hz
    cases hz
    exact hy
  · exact hn j z (by omega) hz
theorem not_mem_of {ss : List ByteArray} {x : List UInt8} {N : Nat} (hN : ss.length ≤ N) (h : ∀ j z, j < N → ss[j]? = some z → bl z ≠ x) : x ∉ ss.map bl := by
  intro hx
  obtain ⟨y, hy, e⟩ := List.mem_map.1 hx
  obtain ⟨j, hj, e2⟩ := List.mem_iff_getElem.1 hy
  exact h j y (by omega) (by rw [List.getElem?_eq_getElem hj, e2]) e

set_option maxHeartbeats 4000000 in
theorem rallowed_any (s : ByteArray) (v : Value) (ss : List ByteArray) (hs : s.size ≤ 100000) (hl : ss.length ≤ 100000) (w : World) (hv : StrArg w v ss) :
    Calls Try.prog 15 #[.string s, v] w fun e w' => e = .returned (.bool (allowed (bl s) (ss.map bl))) ∧ Below w.heap.size w w' := by
  have c1 := fun w => rscheme_any s hs w
  have c2 := fun w => rbare_any s hs w
  have HAL : Hid (allowed (bl s) (ss.map bl) = match scheme (bl s) with
    | some x => decide (x ∈ ss.map bl)
    | none => plainOk (bare (bl s))) := hide rfl
  obtain ⟨R, hR⟩ : ∃ R, R = allowed (bl s) (ss.map bl) := ⟨_, rfl⟩
  rw [← hR] at HAL ⊢
  clear hR
  have hbl := bare_len (bl s)
  rw [bl_len] at hbl
  cases hsc : scheme (bl s) with
  | some x =>
    rw [hsc] at c1 HAL
    have c1 : ∀ w, Calls Try.prog 11 #[.string s] w fun e w' => e = .returned (.tuple #[.string ⟨x.toArray⟩, .bool true]) ∧ Below w.heap.size w w' := c1
    have HAL : Hid (R = decide (x ∈ ss.map bl)) := HAL
    have HX : Hid (bl ⟨x.toArray⟩ = x) := hide rfl
    generalize (⟨x.toArray⟩ : ByteArray) = X at c1 HX
    obtain ⟨p, cap, rfl, -, hc⟩ := hv
    have HC := hide hc
    obtain ⟨N, hN⟩ : ∃ N, N = ss.length := ⟨_, rfl⟩
    rw [← hN] at hl ⊢
    have HN := hide hN
    clear hc hN hsc c2 hbl
    go_enter Try.func15, Try.ntmps15
    go_wp2_with fail
    refine (c1 _).mono ?_
    rintro e w1 ⟨rfl, hb1⟩
    have HB := hide hb1
    clear c1 hb1
    go_wp2_with fail
    go_loopg [7] N (fun g v wx => wx = w1 ∧ ∃ i : Nat, i + g = N ∧ v = .int .i64 (i : Int) ∧ Hid (∀ j z, j < i → ss[j]? = some z → bl z ≠ x))
    case atStart => exact ⟨rfl, 0, by omega, rfl, hide (fun j z hj => by omega)⟩
    case round =>
      obtain ⟨rfl, i, hi, rfl, HU⟩ := hrel
      by_cases hlt : i < N
      · have hlt' : i < ss.length := by rw [← HN.out]; exact hlt
        have hge : ss[i]? = some ss[i] := List.getElem?_eq_getElem hlt'
        generalize ss[i] = y at hge
        obtain ⟨b, off, rfl, c0⟩ := HC.out i y hge
        have c0 := cell_keep c0 HB.out
        have q0 := eq_two y X
        have HG := hide hge
        clear hge hlt'
        by_cases hy : bl y = bl X
        · rw [decide_eq_true hy] at q0
          have HR : Hid (R = true) := hide (by
            rw [HAL.out]
            apply decide_eq_true
            rw [← HX.out, ← hy]
            exact List.mem_map_of_mem (List.mem_of_getElem? HG.out))
          clear hy HU HG
          go_wp2_with fail
          go_ret
          rw [HR.out]
          exact ⟨rfl, HB.out⟩
        · rw [decide_eq_false hy] at q0
          have HU2 := hide (mem_upto HG.out HU.out (by rw [← HX.out]; exact hy))
          clear hy HU HG
          go_wp2_with fail
          go_roundg (gk - 1)
          case measure => omega
          case rel => exact ⟨rfl, i + 1, by omega, by first | rfl | simp, HU2⟩
      · have HR : Hid (R = false) := hide (by
          rw [HAL.out]
          apply decide_eq_false
          exact not_mem_of (N := i) (by rw [← HN.out]; omega) HU.out)
        clear HU
        go_wp2_with fail
        go_ret
        rw [HR.out]
        exact ⟨rfl, HB.out⟩
  | none =>
    rw [hsc] at c1 HAL
    have c1 : ∀ w, Calls Try.prog 11 #[.string s] w fun e w' => e = .returned (.tuple #[.string ⟨#[]⟩, .bool false]) ∧ Below w.heap.size w w' := c1
    have HAL : Hid (R = plainOk (bare (bl s))) := HAL
    have hbs : (⟨(bare (bl s)).toArray⟩ : ByteArray).size ≤ 100000 := by rw [size_mk]; omega
    have HB0 : Hid (bare (bl s) = bl (⟨(bare (bl s)).toArray⟩ : ByteArray)) := hide rfl
    generalize (⟨(bare (bl s)).toArray⟩ : ByteArray) = B at c2 hbs HB0
    have HAL : Hid (R = plainOk (bl B)) := hide (by rw [← HB0.out]; exact HAL.out)
    obtain ⟨pv, cap, rfl, -, -⟩ := hv
    have q0 := eq_lit (B.extract 0 2) [47, 47]
    rw [take_two B] at q0
    have q0 : ((B.extract 0 2).toList == [47, 47]) = decide ((bl B).take 2 = [47, 47]) := by rw [take_two B]; exact q0
    clear hsc hbl HB0
    go_enter Try.func15, Try.ntmps15
    go_wp2_with fail
    refine (c1 _).mono ?_
    rintro e w1 ⟨rfl, hb1⟩
    have HB := hide hb1
    clear c1 hb1
    go_wp2_with fail
    refine (c2 _).mono ?_
    rintro e w2 ⟨rfl, rfl⟩
    clear c2
    by_cases h2 : (bl B).take 2 = [47, 47]
    · rw [decide_eq_true h2] at q0
      have hsz : 1 < B.size := by
        have := congrArg List.length h2
        rw [List.length_take, bl_len] at this
        simp at this
        omega
      have HR : Hid (R = false) := hide (by
        rw [HAL.out]
        unfold plainOk
        rw [decide_eq_true h2]
        rfl)
      clear h2 HAL
      go_wp2_with fail
      go_ret
      rw [HR.out]
      exact ⟨rfl, HB.out⟩
    · rw [decide_eq_false h2] at q0
      have HAL : Hid (R = (bl B).all (fun c => !badB c)) := hide (by
        rw [HAL.out]
        unfold plainOk
        rw [decide_eq_false h2]
        rfl)
      have HBAD : Hid (∀ (j : Nat) (c : UInt8), (bl B)[j]? = some c → badB c = true → R = false) := hide (fun j c h hc => by
        rw [HAL.out, List.all_eq_false]
        exact ⟨c, List.mem_of_getElem? h, by rw [hc]; decide⟩)
      clear h2
      by_cases hsz : 1 < B.size
      · go_wp2_with fail
        go_loopg [9] B.size (fun g v wx => wx = w2 ∧ ∃ i : Nat, i + g = B.size ∧ v = .int .i64 (i : Int) ∧ Hid (∀ j c, j < i → (bl B)[j]? = some c → badB c = false))
        case atStart => exact ⟨rfl, 0, by omega, rfl, hide (fun j z hj => by omega)⟩
        case round =>
          obtain ⟨rfl, i, hi, rfl, HU⟩ := hrel
          by_cases hlt : i < B.size
          · obtain ⟨c, hc⟩ := getK B i hlt
            have i0 := fun w => idxK hc w
            have k32 := lt32 c
            have k92 : ((c.toNat : Int) == 92) = decide (c = 92) := beqK c 92 (by decide)
            have k127 : ((c.toNat : Int) == 127) = decide (c = 127) := beqK c 127 (by decide)
            have HRB : Hid (badB c = true → R = false) := hide (HBAD.out i c hc)
            have HU2 : Hid (badB c = false → ∀ j d, j < i + 1 → (bl B)[j]? = some d → badB d = false) := hide (fun hb j d hj hd => by
              by_cases e : j = i
              · subst e
                rw [hc] at hd
                cases hd
                exact hb
              · exact HU.out j d (by omega) hd)
            clear hc HU
            by_cases h32 : c.toNat < 32
            · rw [decide_eq_true h32] at k32
              have HR : Hid (R = false) := hide (HRB.out (decide_eq_true (.inl h32)))
              generalize (c.toNat : Int) = z at i0 k32
              clear k92 k127 HRB HU2 h32
              go_wp2_with fail
              go_ret
              rw [HR.out]
              exact ⟨rfl, HB.out⟩
            · rw [decide_eq_false h32] at k32
              by_cases h92 : c = 92
              · rw [decide_eq_true h92] at k92
                have HR : Hid (R = false) := hide (HRB.out (decide_eq_true (.inr (.inl h92))))
                generalize (c.toNat : Int) = z at i0 k32 k92
                clear k127 HRB HU2 h32 h92
                go_wp2_with fail
                go_ret
                rw [HR.out]
                exact ⟨rfl, HB.out⟩
              · rw [decide_eq_false h92] at k92
                by_cases h127 : c = 127
                · rw [decide_eq_true h127] at k127
                  have HR : Hid (R = false) := hide (HRB.out (decide_eq_true (.inr (.inr h127))))
                  generalize (c.toNat : Int) = z at i0 k32 k92 k127
                  clear HRB HU2 h32 h92 h127
                  go_wp2_with fail
                  go_ret
                  rw [HR.out]
                  exact ⟨rfl, HB.out⟩
                · rw [decide_eq_false h127] at k127
                  have HU3 := hide (HU2.out (decide_eq_false (by rintro (h | h | h); exact h32 h; exact h92 h; exact h127 h)))
                  generalize (c.toNat : Int) = z at i0 k32 k92 k127
                  clear HRB HU2 h32 h92 h127
                  go_wp2_with fail
                  go_roundg (gk - 1)
                  case measure => omega
                  case rel => exact ⟨rfl, i + 1, by omega, by first | rfl | simp, HU3⟩
          · have HR : Hid (R = true) := hide (by
              rw [HAL.out, List.all_eq_true]
              intro c hc
              obtain ⟨j, hj, e⟩ := List.mem_iff_getElem.1 hc
              have := HU.out j c (by rw [bl_len] at hj; omega) (by rw [List.getElem?_eq_getElem hj, e])
              rw [this]
              rfl)
            clear HU
            go_wp2_with fail
            go_ret
            rw [HR.out]
            exact ⟨rfl, HB.out⟩
      · clear q0
        go_wp2_with fail
        go_loopg [9] B.size (fun g v wx => wx = w2 ∧ ∃ i : Nat, i + g = B.size ∧ v = .int .i64 (i : Int) ∧ Hid (∀ j c, j < i → (bl B)[j]? = some c → badB c = false))
        case atStart => exact ⟨rfl, 0, by omega, rfl, hide (fun j z hj => by omega)⟩
        case round =>
          obtain ⟨rfl, i, hi, rfl, HU⟩ := hrel
          by_cases hlt : i < B.size
          · obtain ⟨c, hc⟩ := getK B i hlt
            have i0 := fun w => idxK hc w
            have k32 := lt32 c
            have k92 : ((c.toNat : Int) == 92) = decide (c = 92) := beqK c 92 (by decide)
            have k127 : ((c.toNat : Int) == 127) = decide (c = 127) := beqK c 127 (by decide)
            have HRB : Hid (badB c = true → R = false) := hide (HBAD.out i c hc)
            have HU2 : Hid (badB c = false → ∀ j d, j < i + 1 → (bl B)[j]? = some d → badB d = false) := hide (fun hb j d hj hd => by
              by_cases e : j = i
              · subst e
                rw [hc] at hd
                cases hd
                exact hb
              · exact HU.out j d (by omega) hd)
            clear hc HU
            by_cases h32 : c.toNat < 32
            · rw [decide_eq_true h32] at k32
              have HR : Hid (R = false) := hide (HRB.out (decide_eq_true (.inl h32)))
              generalize (c.toNat : Int) = z at i0 k32
              clear k92 k127 HRB HU2 h32
              go_wp2_with fail
              go_ret
              rw [HR.out]
              exact ⟨rfl, HB.out⟩
            · rw [decide_eq_false h32] at k32
              by_cases h92 : c = 92
              · rw [decide_eq_true h92] at k92
                have HR : Hid (R = false) := hide (HRB.out (decide_eq_true (.inr (.inl h92))))
                generalize (c.toNat : Int) = z at i0 k32 k92
                clear k127 HRB HU2 h32 h92
                go_wp2_with fail
                go_ret
                rw [HR.out]
                exact ⟨rfl, HB.out⟩
              · rw [decide_eq_false h92] at k92
                by_cases h127 : c = 127
                · rw [decide_eq_true h127] at k127
                  have HR : Hid (R = false) := hide (HRB.out (decide_eq_true (.inr (.inr h127))))
                  generalize (c.toNat : Int) = z at i0 k32 k92 k127
                  clear HRB HU2 h32 h92 h127
                  go_wp2_with fail
                  go_ret
                  rw [HR.out]
                  exact ⟨rfl, HB.out⟩
                · rw [decide_eq_false h127] at k127
                  have HU3 := hide (HU2.out (decide_eq_false (by rintro (h | h | h); exact h32 h; exact h92 h; exact h127 h)))
                  generalize (c.toNat : Int) = z at i0 k32 k92 k127
                  clear HRB HU2 h32 h92 h127
                  go_wp2_with fail
                  go_roundg (gk - 1)
                  case measure => omega
                  case rel => exact ⟨rfl, i + 1, by omega, by first | rfl | simp, HU3⟩
          · have HR : Hid (R = true) := hide (by
              rw [HAL.out, List.all_eq_true]
              intro c hc
              obtain ⟨j, hj, e⟩ := List.mem_iff_getElem.1 hc
              have := HU.out j c (by rw [bl_len] at hj; omega) (by rw [List.getElem?_eq_getElem hj, e])
              rw [this]
              rfl)
            clear HU
            go_wp2_with fail
            go_ret
            rw [HR.out]
            exact ⟨rfl, HB.out⟩
end Go.Proofs.Ytclbkemfgmnfcaa
