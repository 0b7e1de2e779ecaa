/-
  What url.oneOf, url.near and url.Allowed answer.
-/
import Derived.Test.YtclbkemfgmnfcaaUP2
namespace Go.Proofs.Ytclbkemfgmnfcaa
open Go.RowKit
open Utf1

set_option maxHeartbeats 4000000 in
theorem oneOf_any (X : ByteArray) (v : Value) (ss : List ByteArray) (hl : ss.length ≤ 100000) (w : World) (hv : StrArg w v ss) :
    Calls Try.prog 22 #[.string X, v] w fun e w' => e = .returned (.bool (decide (bl X ∈ ss.map bl))) ∧ w' = w := by
  obtain ⟨R, hR⟩ : ∃ R, R = decide (bl X ∈ ss.map bl) := ⟨_, rfl⟩
  rw [← hR]
  have HAL := hide hR
  clear hR
  obtain ⟨p, cap, rfl, -, hc⟩ := hv
  have HC := hide hc
  obtain ⟨N, hN⟩ : ∃ N, N = ss.length := ⟨_, rfl⟩
  rw [← hN] at hl ⊢
  have HN := hide hN
  clear hc hN
  go_enter Try.func22, Try.ntmps22
  go_wp2_with fail
  go_loopg [9] N (fun g v wx => wx = w ∧ ∃ i : Nat, i + g = N ∧ v = .int .i64 (i : Int) ∧ Hid (∀ j z, j < i → ss[j]? = some z → bl z ≠ bl X))
  case atStart => exact ⟨rfl, 0, by omega, rfl, hide (fun j z hj => by omega)⟩
  case round =>
    obtain ⟨rfl, i, hi, rfl, HU⟩ := hrel
    by_cases hlt : i < N
    · have hlt' : i < ss.length := by rw [← HN.out]; exact hlt
      have hge : ss[i]? = some ss[i] := List.getElem?_eq_getElem hlt'
      generalize ss[i] = y at hge
      obtain ⟨b, off, rfl, c0⟩ := HC.out i y hge
      have q0 := eq_two y X
      have HG := hide hge
      clear hge hlt'
      by_cases hy : bl y = bl X
      · rw [decide_eq_true hy] at q0
        have HR : Hid (R = true) := hide (by
          rw [HAL.out]
          apply decide_eq_true
          rw [← hy]
          exact List.mem_map_of_mem (List.mem_of_getElem? HG.out))
        clear hy HU HG
        go_wp2_with fail
        go_ret
        rw [HR.out]
        exact ⟨rfl, rfl⟩
      · rw [decide_eq_false hy] at q0
        have HU2 := hide (mem_upto HG.out HU.out hy)
        clear hy HU HG
        go_wp2_with fail
        go_roundg (gk - 1)
        case measure => omega
        case rel => exact ⟨rfl, i + 1, by omega, by first | rfl | simp, HU2⟩
    · have HR : Hid (R = false) := hide (by
        rw [HAL.out]
        apply decide_eq_false
        exact not_mem_of (N := i) (by rw [← HN.out]; omega) HU.out)
      clear HU
      go_wp2_with fail
      go_ret
      rw [HR.out]
      exact ⟨rfl, rfl⟩

theorem pre_two (B : ByteArray) : ([47, 47] : List UInt8).isPrefixOf (bl B) = decide ((bl B).take 2 = [47, 47]) := by
  by_cases h : (bl B).take 2 = [47, 47]
  · rw [decide_eq_true h, List.isPrefixOf_iff_prefix]
    exact ⟨(bl B).drop 2, by rw [← h, List.take_append_drop]⟩
  · rw [decide_eq_false h]
    apply Bool.eq_false_iff.2
    intro e
    obtain ⟨t, ht⟩ := List.isPrefixOf_iff_prefix.1 e
    exact h (by rw [← ht]; rfl)
theorem pre_c (s : ByteArray) (b : Bool) (h : decide ((bl s).take 2 = [47, 47]) = b) (w : World) : Calls Try.prog 25 #[.string s, .string ⟨#[47, 47]⟩] w fun e w' => e = .returned (.bool b) ∧ w' = w := by
  rw [← h, ← pre_two]
  exact Try.strings_HasPrefix s ⟨#[47, 47]⟩ w

set_option maxHeartbeats 4000000 in
theorem near_any (B : ByteArray) (hs : B.size ≤ 100000) (w : World) :
    Calls Try.prog 23 #[.string B] w fun e w' => e = .returned (.bool (plainOk (bl B))) ∧ w' = w := by
  obtain ⟨R, hR⟩ : ∃ R, R = plainOk (bl B) := ⟨_, rfl⟩
  rw [← hR]
  have HAL := hide hR
  clear hR
  by_cases h2 : (bl B).take 2 = [47, 47]
  · have cp := fun w => pre_c B true (decide_eq_true h2) w
    have HR : Hid (R = false) := hide (by
      rw [HAL.out]
      unfold plainOk
      rw [decide_eq_true h2]
      rfl)
    clear h2 HAL
    go_enter Try.func23, Try.ntmps23
    go_wp2_with fail
    refine (cp _).mono ?_
    rintro e w1 ⟨rfl, rfl⟩
    go_wp2_with fail
    go_ret
    rw [HR.out]
    exact ⟨rfl, rfl⟩
  · have cp := fun w => pre_c B false (decide_eq_false h2) w
    have HAL : Hid (R = (bl B).all (fun c => !badB c)) := hide (by
      rw [HAL.out]
      unfold plainOk
      rw [decide_eq_false h2]
      rfl)
    have HBAD : Hid (∀ (j : Nat) (c : UInt8), (bl B)[j]? = some c → badB c = true → R = false) := hide (fun j c h hc => by
      rw [HAL.out, List.all_eq_false]
      exact ⟨c, List.mem_of_getElem? h, by rw [hc]; decide⟩)
    clear h2
    go_enter Try.func23, Try.ntmps23
    go_wp2_with fail
    refine (cp _).mono ?_
    rintro e w1 ⟨rfl, rfl⟩
    clear cp
    go_wp2_with fail
    go_loopg [9] B.size (fun g v wx => wx = w1 ∧ ∃ i : Nat, i + g = B.size ∧ v = .int .i64 (i : Int) ∧ Hid (∀ j c, j < i → (bl B)[j]? = some c → badB c = false))
    case atStart => exact ⟨rfl, 0, by omega, rfl, hide (fun j z hj => by omega)⟩
    case round =>
      obtain ⟨rfl, i, hi, rfl, HU⟩ := hrel
      by_cases hlt : i < B.size
      · obtain ⟨c, hc⟩ := getK B i hlt
        have i0 := fun w => idxK hc w
        have k32 := lt32 c
        have k92 : ((c.toNat : Int) == 92) = decide (c = 92) := beqK c 92 (by decide)
        have k127 : ((c.toNat : Int) == 127) = decide (c = 127) := beqK c 127 (by decide)
        have HRB : Hid (badB c = true → R = false) := hide (HBAD.out i c hc)
        have HU2 : Hid (badB c = false → ∀ j d, j < i + 1 → (bl B)[j]? = some d → badB d = false) := hide (fun hb j d hj hd => by
          by_cases e : j = i
          · subst e
            rw [hc] at hd
            cases hd
            exact hb
          · exact HU.out j d (by omega) hd)
        clear hc HU
        by_cases h32 : c.toNat < 32
        · rw [decide_eq_true h32] at k32
          have HR : Hid (R = false) := hide (HRB.out (decide_eq_true (.inl h32)))
          generalize (c.toNat : Int) = z at i0 k32
          clear k92 k127 HRB HU2 h32
          go_wp2_with fail
          go_ret
          rw [HR.out]
          exact ⟨rfl, rfl⟩
        · rw [decide_eq_false h32] at k32
          by_cases h92 : c = 92
          · rw [decide_eq_true h92] at k92
            have HR : Hid (R = false) := hide (HRB.out (decide_eq_true (.inr (.inl h92))))
            generalize (c.toNat : Int) = z at i0 k32 k92
            clear k127 HRB HU2 h32 h92
            go_wp2_with fail
            go_ret
            rw [HR.out]
            exact ⟨rfl, rfl⟩
          · rw [decide_eq_false h92] at k92
            by_cases h127 : c = 127
            · rw [decide_eq_true h127] at k127
              have HR : Hid (R = false) := hide (HRB.out (decide_eq_true (.inr (.inr h127))))
              generalize (c.toNat : Int) = z at i0 k32 k92 k127
              clear HRB HU2 h32 h92 h127
              go_wp2_with fail
              go_ret
              rw [HR.out]
              exact ⟨rfl, rfl⟩
            · rw [decide_eq_false h127] at k127
              have HU3 := hide (HU2.out (decide_eq_false (by rintro (h | h | h); exact h32 h; exact h92 h; exact h127 h)))
              generalize (c.toNat : Int) = z at i0 k32 k92 k127
              clear HRB HU2 h32 h92 h127
              go_wp2_with fail
              go_roundg (gk - 1)
              case measure => omega
              case rel => exact ⟨rfl, i + 1, by omega, by first | rfl | simp, HU3⟩
      · have HR : Hid (R = true) := hide (by
          rw [HAL.out, List.all_eq_true]
          intro c hc
          obtain ⟨j, hj, e⟩ := List.mem_iff_getElem.1 hc
          have := HU.out j c (by rw [bl_len] at hj; omega) (by rw [List.getElem?_eq_getElem hj, e])
          rw [this]
          rfl)
        clear HU
        go_wp2_with fail
        go_ret
        rw [HR.out]
        exact ⟨rfl, rfl⟩

set_option maxHeartbeats 4000000 in
theorem allowed_any : AllowedC := by
  intro s v ss w hs hl hv
  have c1 := fun w => scheme_any s w hs
  have c2 := fun w => bare_any s w hs
  have HAL : Hid (allowed (bl s) (ss.map bl) = match scheme (bl s) with
    | some x => decide (x ∈ ss.map bl)
    | none => plainOk (bare (bl s))) := hide rfl
  obtain ⟨R, hR⟩ : ∃ R, R = allowed (bl s) (ss.map bl) := ⟨_, rfl⟩
  rw [← hR] at HAL ⊢
  clear hR
  have hbl := bare_len (bl s)
  rw [bl_len] at hbl
  cases hsc : scheme (bl s) with
  | some x =>
    rw [hsc] at c1 HAL
    have c1 : ∀ w, Calls Try.prog 10 #[.string s] w fun e w' => e = .returned (.tuple #[.string ⟨x.toArray⟩, .bool true]) ∧ Below w.heap.size w w' := c1
    have HAL : Hid (R = decide (bl ⟨x.toArray⟩ ∈ ss.map bl)) := HAL
    have H3 : Hid (∀ w, StrArg w v ss → Calls Try.prog 22 #[.string ⟨x.toArray⟩, v] w fun e w' => e = .returned (.bool R) ∧ w' = w) := hide (fun w h => by
      rw [HAL.out]
      exact oneOf_any ⟨x.toArray⟩ v ss hl w h)
    generalize (⟨x.toArray⟩ : ByteArray) = X at c1 H3
    have HV := hide hv
    obtain ⟨p, cap, rfl, -, -⟩ := hv
    clear hsc c2 hbl HAL
    generalize ss.length = N at *
    go_enter Try.func14, Try.ntmps14
    go_wp2_with fail
    refine (c1 _).mono ?_
    rintro e w1 ⟨rfl, hb1⟩
    go_wp2_with fail
    refine (H3.out _ (HV.out.below hb1)).mono ?_
    rintro e w2 ⟨rfl, rfl⟩
    go_wp2_with fail
    go_ret
    exact ⟨rfl, hb1⟩
  | none =>
    rw [hsc] at c1 HAL
    have c1 : ∀ w, Calls Try.prog 10 #[.string s] w fun e w' => e = .returned (.tuple #[.string ⟨#[]⟩, .bool false]) ∧ Below w.heap.size w w' := c1
    have c3 : ∀ w, Calls Try.prog 23 #[.string ⟨(bare (bl s)).toArray⟩] w fun e w' => e = .returned (.bool R) ∧ w' = w := fun w => by
      rw [HAL.out]
      exact near_any (⟨(bare (bl s)).toArray⟩ : ByteArray) (by rw [size_mk]; omega) w
    generalize (⟨(bare (bl s)).toArray⟩ : ByteArray) = B at c2 c3
    obtain ⟨pv, cap, rfl, -, -⟩ := hv
    clear hsc hbl HAL
    generalize ss.length = N at *
    go_enter Try.func14, Try.ntmps14
    go_wp2_with fail
    refine (c1 _).mono ?_
    rintro e w1 ⟨rfl, hb1⟩
    go_wp2_with fail
    refine (c2 _).mono ?_
    rintro e w2 ⟨rfl, hb2⟩
    go_wp2_with fail
    refine (c3 _).mono ?_
    rintro e w3 ⟨rfl, rfl⟩
    go_wp2_with fail
    go_ret
    exact ⟨rfl, bel2 hb1 hb2⟩
end Go.Proofs.Ytclbkemfgmnfcaa
