/-
  The law UrlMore, walked: it answers true at every place, all schemes and one more.
-/
import Derived.Test.YtclbkemfgmnfcaaUC
import Derived.Laws.AppendOwn
import Derived.Laws.AppendOwnNone
import Derived.Laws.OwnMore
import Derived.Deep.Cut
namespace Go.Proofs.Ytclbkemfgmnfcaa
open Go.RowKit
open Utf1

theorem info_st : ∃ i : TypeInfo, Try.prog.info? 9 = some i ∧ i.zero = some (.string ⟨#[]⟩) ∧ i.size = 1 ∧ i.bytes = 16 := by
  have h : (Try.prog.info? 9).map (fun i => (i.zero, i.size, i.bytes)) = some (some (.string ⟨#[]⟩), 1, 16) := by kernel_rfl
  cases hi : Try.prog.info? 9 with
  | none => rw [hi] at h; simp at h
  | some i =>
    rw [hi] at h
    simp at h
    exact ⟨i, rfl, h.1, h.2.1, h.2.2⟩
def strCells (ss : List ByteArray) : List Value := ss.map Value.string
theorem strCells_len (ss : List ByteArray) : (strCells ss).length = ss.length := List.length_map _
theorem own_base_le {w : World} {B : Nat} {e : TypeId} {sz : Nat} {v : Value} {n : Nat} {xs : List Value} (h : w.ownsRow B e sz v n xs) : ∀ k, v.ownBlock = some k → B ≤ k := by
  intro k hk
  obtain ⟨_, ⟨rfl, _⟩ | ⟨g, cap, cur, rfl, h1, _⟩⟩ := h
  · simp [Value.ownBlock] at hk
  · have : g = k := by simpa [Value.ownBlock] using hk
    omega
theorem own_len {w : World} {base : Nat} {e : TypeId} {size : Nat} {v : Value} {n : Nat} {xs : List Value} (h : w.ownsRow base e size v n xs) : ∃ p c, v = .slice p n c := by
  obtain ⟨_, ⟨rfl, rfl⟩ | ⟨g, cap, cur, rfl, _⟩⟩ := h
  · exact ⟨_, _, rfl⟩
  · exact ⟨_, _, rfl⟩
theorem below_grown {w w' : World} (hb : Below w.heap.size w w') : w.grownBy w' none := ⟨hb.os, hb.tape, hb.output, hb.size, fun k hk _ => hb.block k hk⟩
theorem own_below {w w1 : World} {base : Nat} {e : TypeId} {size : Nat} {v : Value} {n : Nat} {xs : List Value} (h : w.ownsRow base e size v n xs) (hb : Below w.heap.size w w1) : w1.ownsRow base e size v n xs := by
  refine h.kept (below_grown hb) ?_
  cases hv : v.ownBlock with
  | none => exact .inl rfl
  | some g => exact .inr (by simp)
/-- A row of strings of one's own is read as such. -/
theorem strArg_own {w : World} {B : Nat} {v : Value} {ss : List ByteArray} (h : w.ownsRow B 9 1 v ss.length (strCells ss)) : StrArg w v ss := by
  obtain ⟨_, ⟨hv, hx⟩ | ⟨g, c, cur, hv, _, hg, hmc, _, hcs, hx⟩⟩ := id h
  · have hl : ss = [] := List.length_eq_zero_iff.1 hx
    subst hl
    subst hv
    exact strArg_nil w
  · subst hv
    refine ⟨_, _, rfl, fun h => (by cases h), fun i s hi => ⟨g, 0, rfl, ?_⟩⟩
    have hl := (List.getElem?_eq_some_iff.1 hi).1
    have := h.cellAt i (by omega)
    rw [Nat.zero_add, this]
    unfold strCells
    rw [List.getElem?_map, hi]
    rfl
/-- Strings that came in, appended to a row of strings. -/
theorem wpList_append_strs {ops : Array Oper} {rest : List Oper} {o : Oper} {a : Act} {Q : Exit → Act → World → Prop} (hgd : o.guard = none) (s x : Operand)
    (ho : o.op = .call { callee := .builtin .append, args := #[s, x], argTypes := #[27, 27] })
    (w0 w : World) (v vb : Value) (na nb : List ByteArray) (hs : a.eval s = v) (hx : a.eval x = vb) (hb : Below w0.heap.size w0 w) (hown : w.ownsRow w0.heap.size 9 1 v na.length (strCells na))
    (hn : StrArg w vb nb) (hl : na.length + nb.length ≤ 100000)
    (h : ∀ v' w', w'.ownsRow w0.heap.size 9 1 v' (na ++ nb).length (strCells (na ++ nb)) → Below w0.heap.size w0 w' → wpList Try.prog ops Q rest (a.put o.dst v') w') : wpList Try.prog ops Q (o :: rest) a w := by
  obtain ⟨i0, hi, hz0, hz1, hz2⟩ := info_st
  obtain ⟨p, cap, rfl, h0, hc⟩ := hn
  cases p with
  | none =>
    have hnb : nb = [] := by
      cases nb with
      | nil => rfl
      | cons y t =>
        obtain ⟨b, off, e, _⟩ := hc 0 y rfl
        cases e
    have hcap := h0 rfl
    subst hnb
    subst hcap
    refine wpList_append_own_none hgd s x 27 ho w0.heap.size 9 i0 1 Try.underlying27 hi v na.length (strCells na) hs hown hx (h v w ?_ hb)
    rw [List.append_nil]
    exact hown
  | some ad =>
    refine wpList_append_own w hgd s x 27 ho w0.heap.size 9 i0 _ 1 16 Try.underlying27 hi hz0 hz1 hz2 rfl (by decide) v na.length (strCells na) hs hown ad nb.length cap (strCells nb) hx (by rw [strCells_len]; omega) ?_ ?_ (by unfold maxLen; omega) (by omega) hb.size ?_
    · intro j u hj
      unfold strCells at hj
      rw [List.getElem?_map] at hj
      cases hjn : nb[j]? with
      | none => rw [hjn] at hj; cases hj
      | some y =>
        rw [hjn] at hj
        cases hj
        obtain ⟨b, off, e, hcell⟩ := hc j y hjn
        cases e
        rw [add_plain]
        exact hcell
    · intro u hu
      obtain ⟨y, _, rfl⟩ := List.mem_map.1 hu
      rfl
    · intro v' w' g1 g2 _
      refine h v' w' ?_ (hb.grown g2 hb.size (fun j hj => own_base_le hown j hj))
      rw [List.length_append]
      rw [show strCells (na ++ nb) = strCells na ++ strCells nb from List.map_append]
      exact g1

set_option maxHeartbeats 8000000 in
theorem lawMore_walk (hS : SchemeC) (hA : AllowedC) (s : ByteArray) (v : Value) (ss : List ByteArray) (m : ByteArray) (w : World) (hv : StrArg w v ss) :
    Calls Try.prog 6 #[.string s, v, .string m] w fun e w' => e = .returned (.bool true) ∧ Below w.heap.size w w' := by
  have ca := awake_any hS hA
  by_cases hs : s.size ≤ 1000
  · by_cases hl : ss.length ≤ 100
    · by_cases hm : m.size ≤ 1000
      · have c1 := fun w => hS s w (by omega)
        have C2 := hide (fun w (h : StrArg w v ss) => hA s v ss w (by omega) (by omega) h)
        have C3 := hide (fun w v' (h : StrArg w v' (ss ++ [m])) => hA s v' (ss ++ [m]) w (by omega) (by rw [List.length_append]; show _ + 1 ≤ _; omega) h)
        have C4 := hide (fun w v' (h : StrArg w v' [m]) => hA s v' [m] w (by omega) (by simp) h)
        have HMO : Hid (allowed (bl s) (ss.map bl) = true → allowed (bl s) ((ss ++ [m]).map bl) = true) := hide (fun h => by
          rw [List.map_append]
          exact allowed_more _ _ _ h)
        have HON : Hid (∀ x, scheme (bl s) = some x → allowed (bl s) ([m].map bl) = decide (bl m = x)) := hide (fun x h => allowed_one _ _ _ h)
        have HV := hide hv
        obtain ⟨p, cap, rfl, -, -⟩ := hv
        generalize allowed (bl s) (ss.map bl) = b1 at C2 HMO
        generalize allowed (bl s) ((ss ++ [m]).map bl) = b2 at C3 HMO
        generalize allowed (bl s) ([m].map bl) = b3 at C4 HON
        have HLL := hide hl
        obtain ⟨N, hN⟩ : ∃ N, N = ss.length := ⟨_, rfl⟩
        have HV : Hid (∀ w', Below w.heap.size w w' → StrArg w' (.slice p N cap) ss) := hide (fun w' hb => by rw [hN]; exact HV.out.below hb)
        rw [← hN] at hl ⊢
        rw [← hN] at C2
        clear hN hS hA
        obtain ⟨sc, hsc⟩ : ∃ sc, sc = scheme (bl s) := ⟨_, rfl⟩
        rw [← hsc] at c1 HON
        clear hsc
        go_enter Try.func6, Try.ntmps6
        go_wp2_with fail
        refine (ca _).mono ?_
        rintro e w1 ⟨rfl, hb1⟩
        have HB1 := hide hb1
        clear hb1 ca
        go_wp2_with fail
        refine (c1 _).mono ?_
        rintro e w2 ⟨rfl, hb2⟩
        have HB2 := hide (bel2 HB1.out hb2)
        clear hb2 c1
        go_wp2_with fail
        refine (C2.out _ (HV.out _ HB2.out)).mono ?_
        rintro e w3 ⟨rfl, hb3⟩
        have HB3 := hide (bel2 HB2.out hb3)
        clear hb3 C2
        obtain ⟨wz, hwz⟩ : ∃ wz, wz = w3.alloc (.cells #[] 9) := ⟨_, rfl⟩
        have hbz : Below w3.heap.size w3 wz := by rw [hwz]; exact (Below.refl _ _).alloc (Nat.le_refl _) _
        have hown0 : wz.ownsRow w3.heap.size 9 1 (.slice (some ⟨w3.heap.size, 0, none⟩) 0 0) 0 [] := by
          rw [hwz]
          exact World.ownsRow_made w3 #[] 0 (Nat.le_refl _) (by decide) rfl
        have HOWN := hide hown0
        have HBZ := hide hbz
        clear hbz hown0
        go_upto_region 6 with fail
        go_wp2_with (at_builtin; rw [← hwz]; refine wpList_append_strs rfl (.tmp 36) (.tmp 37) rfl w3 wz _ _ [] ss rfl rfl HBZ.out HOWN.out (HV.out _ (bel2 HB3.out HBZ.out)) (by have := HLL.out; simp; omega) ?_)
        intro v1 w4 ho1 hb4
        try rw [List.nil_append] at ho1
        obtain ⟨p1, c1, hv1⟩ := own_len ho1
        obtain ⟨mm, hmm⟩ : ∃ mm, mm = ss.length := ⟨_, rfl⟩
        have HM := hide hmm
        rw [← hmm] at hv1
        subst hv1
        have HO1 := hide ho1
        have HB4 := hide hb4
        clear ho1 hb4 hwz HOWN HBZ hmm
        obtain ⟨wy, hwy⟩ : ∃ wy, wy = w4.alloc (.cells #[.string m] 9) := ⟨_, rfl⟩
        have HSM : Hid (StrArg wy (.slice (some ⟨w4.heap.size, 0, none⟩) 1 1) [m]) := hide (by rw [hwy]; exact strArg_one _ _ _)
        have HBY : Hid (Below w3.heap.size w3 wy) := hide (by rw [hwy]; exact HB4.out.alloc HB4.out.size _)
        have HOY : Hid (wy.ownsRow w3.heap.size 9 1 (.slice p1 mm c1) ss.length (strCells ss)) := hide (by
          rw [hwy]
          exact own_below HO1.out ((Below.refl _ _).alloc (Nat.le_refl _) _))
        clear HO1 HB4
        go_wp2_with (at_builtin; rw [← hwy]; refine wpList_append_strs rfl (.tmp 38) (.tmp 40) rfl w3 wy _ _ ss [m] rfl rfl HBY.out HOY.out HSM.out (by have := HLL.out; simp; omega) ?_)
        intro v2 w5 ho2 hb5
        replace ho2 : w5.ownsRow w3.heap.size 9 1 v2 (ss ++ [m]).length (strCells (ss ++ [m])) := by rw [List.length_append]; exact ho2
        have HS5 : Hid (StrArg w5 v2 (ss ++ [m])) := hide (strArg_own ho2)
        obtain ⟨p2, c2, hv2⟩ := own_len ho2
        obtain ⟨mn, hmn⟩ : ∃ mn, mn = (ss ++ [m]).length := ⟨_, rfl⟩
        rw [← hmn] at hv2
        subst hv2
        have HB5 := hide (bel2 HB3.out hb5)
        clear ho2 hb5 hwy HOY HSM HBY hmn HM
        go_wp2_with fail
        refine (C3.out _ _ HS5.out).mono ?_
        rintro e w6 ⟨rfl, hb6⟩
        have HB6 := hide (bel2 HB5.out hb6)
        clear hb6 C3 HS5
        cases sc with
        | none =>
          have hsm : (none : Option (List UInt8)).isSome = false := rfl
          cases b1 with
          | false =>
            go_wp2_with fail
            go_ret
            exact ⟨rfl, HB6.out⟩
          | true =>
            have hb2 := HMO.out rfl
            subst hb2
            go_wp2_with fail
            go_ret
            exact ⟨rfl, HB6.out⟩
        | some x =>
          have hsm : (some x : Option (List UInt8)).isSome = true := rfl
          have hq := eq_two m (schS (some x))
          have hb3 : b3 = decide (bl m = bl (schS (some x))) := HON.out x rfl
          rw [← hb3] at hq
          have q3 : (b3 == b3) = true := by cases b3 <;> rfl
          generalize schS (some x) = X at *
          clear hb3 HON
          cases b1 with
          | false =>
            go_wp2_with fail
            refine (C4.out _ _ (strArg_one _ _ _)).mono ?_
            rintro e w7 ⟨rfl, hb7⟩
            go_wp2_with fail
            go_ret
            exact ⟨rfl, bel2 (bel_alloc HB6.out _) hb7⟩
          | true =>
            have hb2 := HMO.out rfl
            subst hb2
            go_wp2_with fail
            refine (C4.out _ _ (strArg_one _ _ _)).mono ?_
            rintro e w7 ⟨rfl, hb7⟩
            go_wp2_with fail
            go_ret
            exact ⟨rfl, bel2 (bel_alloc HB6.out _) hb7⟩
      · obtain ⟨p, cap, rfl, -, -⟩ := hv
        clear hS hA
        generalize ss.length = N at *
        go_enter Try.func6, Try.ntmps6
        go_wp2_with fail
        refine (ca _).mono ?_
        rintro e w1 ⟨rfl, hb1⟩
        go_wp2_with fail
        go_ret
        exact ⟨rfl, hb1⟩
    · obtain ⟨p, cap, rfl, -, -⟩ := hv
      clear hS hA
      generalize ss.length = N at *
      go_enter Try.func6, Try.ntmps6
      go_wp2_with fail
      refine (ca _).mono ?_
      rintro e w1 ⟨rfl, hb1⟩
      go_wp2_with fail
      go_ret
      exact ⟨rfl, hb1⟩
  · obtain ⟨p, cap, rfl, -, -⟩ := hv
    clear hS hA
    generalize ss.length = N at *
    go_enter Try.func6, Try.ntmps6
    go_wp2_with fail
    refine (ca _).mono ?_
    rintro e w1 ⟨rfl, hb1⟩
    go_wp2_with fail
    go_ret
    exact ⟨rfl, hb1⟩
end Go.Proofs.Ytclbkemfgmnfcaa
