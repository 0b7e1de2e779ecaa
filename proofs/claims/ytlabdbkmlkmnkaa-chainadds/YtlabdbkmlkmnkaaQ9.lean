/-
  The document's own all, Attr, sameList.
-/
import Derived.Test.YtlabdbkmlkmnkaaQ5
namespace Go.Proofs.Ytlabdbkmlkmnkaa
open Go.RowKit
open Utf1 Pol8

set_option maxHeartbeats 8000000 in
theorem rall_any (v u : Value) (ss rs : List ByteArray) (hl : ss.length ≤ 100000) (hr : rs.length ≤ 100000) (w : World) (hv : StrArg w v ss) (hu : StrArg w u rs) :
    Calls Try.prog 54 #[v, u] w fun e w' => e = .returned (.bool (sub (ss.map bl) (rs.map bl))) ∧ w' = w := by
  obtain ⟨R, hR⟩ : ∃ R, R = sub (ss.map bl) (rs.map bl) := ⟨_, rfl⟩
  rw [← hR]
  have HAL : Hid (R = (ss.map bl).all fun x => decide (x ∈ rs.map bl)) := hide hR
  clear hR
  have CH := hide (fun y => rhas_any u rs y hr w hu)
  obtain ⟨p, cap, rfl, -, hc⟩ := hv
  obtain ⟨p', cap', rfl, -, -⟩ := hu
  have HC := hide hc
  obtain ⟨N, hN⟩ : ∃ N, N = ss.length := ⟨_, rfl⟩
  rw [← hN] at hl ⊢
  have HN := hide hN
  clear hc hN
  go_enter Try.func54, Try.ntmps54
  go_wp2_with fail
  go_loopg [5] N (fun g v wx => wx = w ∧ ∃ i : Nat, i + g = N ∧ v = .int .i64 (i : Int) ∧ Hid (∀ j z, j < i → ss[j]? = some z → decide (bl z ∈ rs.map bl) = true))
  case atStart => exact ⟨rfl, 0, by omega, rfl, hide (fun j z hj => by omega)⟩
  case round =>
    obtain ⟨rfl, i, hi, rfl, HU⟩ := hrel
    by_cases hlt : i < N
    · obtain ⟨y, hge⟩ : ∃ y, ss[i]? = some y := ⟨_, List.getElem?_eq_getElem (by rw [← HN.out]; exact hlt)⟩
      obtain ⟨b, off, rfl, c0⟩ := HC.out i y hge
      have CY := hide (CH.out y)
      have HG := hide hge
      clear hge
      cases hm : decide (bl y ∈ rs.map bl) with
      | true =>
        rw [hm] at CY
        have HU2 := hide (upto_next (f := fun x => decide (x ∈ rs.map bl)) HG.out hm HU.out)
        clear hm HU HG
        go_wp2_with fail
        refine CY.out.mono ?_
        rintro e w1 ⟨rfl, rfl⟩
        go_wp2_with fail
        go_roundg (gk - 1)
        case measure => omega
        case rel => exact ⟨rfl, i + 1, by omega, by first | rfl | simp, HU2⟩
      | false =>
        rw [hm] at CY
        have HR : Hid (R = false) := hide (by
          rw [HAL.out]
          exact all_false (f := fun x => decide (x ∈ rs.map bl)) HG.out hm)
        clear hm HU HG HAL
        go_wp2_with fail
        refine CY.out.mono ?_
        rintro e w1 ⟨rfl, rfl⟩
        go_wp2_with fail
        go_ret
        rw [HR.out]
        exact ⟨rfl, rfl⟩
    · have HR : Hid (R = true) := hide (by
        rw [HAL.out]
        exact all_true (f := fun x => decide (x ∈ rs.map bl)) fun j z hj => HU.out j z (by rw [← HN.out] at hj; omega))
      clear HU HAL
      go_wp2_with fail
      go_ret
      rw [HR.out]
      exact ⟨rfl, rfl⟩

theorem same_ext {a b : List ByteArray} (hl : a.length = b.length) (h : ∀ j x y, j < a.length → a[j]? = some x → b[j]? = some y → bl x = bl y) : a.map bl = b.map bl := by
  apply List.ext_getElem?
  intro j
  rw [List.getElem?_map, List.getElem?_map]
  by_cases hj : j < a.length
  · rw [List.getElem?_eq_getElem hj, List.getElem?_eq_getElem (by omega)]
    exact congrArg some (h j _ _ hj (List.getElem?_eq_getElem hj) (List.getElem?_eq_getElem (by omega)))
  · rw [List.getElem?_eq_none (by omega), List.getElem?_eq_none (by omega)]

set_option maxRecDepth 100000 in
set_option maxHeartbeats 8000000 in
theorem rsame_any (v u : Value) (ss rs : List ByteArray) (hr : rs.length ≤ 100000) (w : World) (hv : StrArg w v ss) (hu : StrArg w u rs) :
    Calls Try.prog 22 #[v, u] w fun e w' => e = .returned (.bool (decide (ss.map bl = rs.map bl))) ∧ Below w.heap.size w w' := by
  obtain ⟨R, hR⟩ : ∃ R, R = decide (ss.map bl = rs.map bl) := ⟨_, rfl⟩
  rw [← hR]
  have HAL := hide hR
  clear hR
  have HV := hide hv
  have HW := hide hu
  obtain ⟨p, cap, rfl, -, -⟩ := hv
  obtain ⟨p', cap', rfl, -, -⟩ := hu
  by_cases hne : ss.length = rs.length
  · rw [← hne] at hr HW ⊢
    obtain ⟨N, hN⟩ : ∃ N, N = ss.length := ⟨_, rfl⟩
    rw [← hN] at hr HV HW ⊢
    have HN := hide hN
    have HNE := hide hne
    clear hN hne
    go_enter Try.func22, Try.ntmps22
    go_wp2_with fail
    go_loopg [5] N (fun g v wx => ∃ i : Nat, i + g = N ∧ v = .int .i64 (i : Int) ∧ Hid (Below w.heap.size w wx ∧ ∀ j x y, j < i → ss[j]? = some x → rs[j]? = some y → bl x = bl y))
    case atStart => exact ⟨0, by omega, rfl, hide ⟨Below.refl _ _, fun j x y hj => by omega⟩⟩
    case round =>
      obtain ⟨i, hi, rfl, HU⟩ := hrel
      by_cases hlt : i < N
      · obtain ⟨x, hx⟩ : ∃ x, ss[i]? = some x := ⟨_, List.getElem?_eq_getElem (by rw [← HN.out]; exact hlt)⟩
        obtain ⟨y, hy⟩ : ∃ y, rs[i]? = some y := ⟨_, List.getElem?_eq_getElem (by rw [← HNE.out, ← HN.out]; exact hlt)⟩
        obtain ⟨b, off, rfl, c0⟩ : ∃ b off, p = some ⟨b, off, none⟩ ∧ wr.cell? ⟨b, off + i, none⟩ = some (.string x) := by
          obtain ⟨q, cq, e, -, hc⟩ := HV.out.below HU.out.1
          injection e with e1 e2 e3
          obtain ⟨b, off, e4, h⟩ := hc i x hx
          exact ⟨b, off, e1.trans e4, h⟩
        obtain ⟨b', off', rfl, c1⟩ : ∃ b off, p' = some ⟨b, off, none⟩ ∧ wr.cell? ⟨b, off + i, none⟩ = some (.string y) := by
          obtain ⟨q, cq, e, -, hc⟩ := HW.out.below HU.out.1
          injection e with e1 e2 e3
          obtain ⟨b, off, e4, h⟩ := hc i y hy
          exact ⟨b, off, e1.trans e4, h⟩
        have q0 := eq_two x y
        have HB : Hid (Below w.heap.size w wr.drew) := hide HU.out.1.drew
        have HXY := hide (And.intro hx hy)
        clear hx hy
        by_cases hxy : bl x = bl y
        · rw [decide_eq_true hxy] at q0
          have HU2 : Hid (∀ j x y, j < i + 1 → ss[j]? = some x → rs[j]? = some y → bl x = bl y) := hide (fun j a c hj h1 h2 => by
            by_cases e : j = i
            · subst e
              rw [HXY.out.1] at h1
              rw [HXY.out.2] at h2
              cases h1
              cases h2
              exact hxy
            · exact HU.out.2 j a c (by omega) h1 h2)
          clear hxy HU HXY
          go_wp2_with fail
          go_region
          go_wp2_with fail
          go_roundg (gk - 1)
          case measure => omega
          case rel => exact ⟨i + 1, by omega, by first | rfl | simp, hide ⟨HB.out, HU2.out⟩⟩
        · rw [decide_eq_false hxy] at q0
          have HR : Hid (R = false) := hide (by
            rw [HAL.out]
            apply decide_eq_false
            intro e
            have := congrArg (·[i]?) e
            simp only [List.getElem?_map, HXY.out.1, HXY.out.2, Option.map_some] at this
            exact hxy (Option.some.inj this))
          clear hxy HU HXY HAL
          go_wp2_with fail
          go_region
          go_wp2_with fail
          go_ret
          rw [HR.out]
          exact ⟨rfl, HB.out⟩
      · have HR : Hid (R = true) := hide (by
          rw [HAL.out]
          exact decide_eq_true (same_ext HNE.out fun j x y hj => HU.out.2 j x y (by rw [← HN.out] at hj; omega)))
        have HB := hide HU.out.1
        clear HU HAL
        go_wp2_with fail
        go_ret
        rw [HR.out]
        exact ⟨rfl, HB.out⟩
  · have HR : Hid (R = false) := hide (by
      rw [HAL.out]
      apply decide_eq_false
      intro e
      have := congrArg List.length e
      rw [List.length_map, List.length_map] at this
      exact hne this)
    have hni : ((ss.length : Int) != (rs.length : Int)) = true := by
      have : ¬ (ss.length : Int) = (rs.length : Int) := by omega
      simpa using this
    clear HAL
    go_enter Try.func22, Try.ntmps22
    go_wp2_with fail
    go_ret
    rw [HR.out]
    exact ⟨rfl, Below.refl _ _⟩
end Go.Proofs.Ytlabdbkmlkmnkaa
