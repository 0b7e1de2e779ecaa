/-
  The tree's builder: innermost.
-/
import Derived.Test.YtholfdfjapgfbaaGreatDoorG11
import Derived.WalkMore
namespace Go.Proofs.YtholfdfjapgfbaaGreatDoor.Dm
open Go.RowKit
open Utf1

/-- The place of the innermost open element of some names, of open nodes that are listed innermost first; 0: none. -/
def innerR (ns : List (List UInt8)) : List Nd → Nat
  | [] => 0
  | nd :: rest => if rest = [] then 0 else if nd.name ∈ ns then rest.length else innerR ns rest

theorem St0.name_at {w : World} {base B : Nat} {os : List Nd} {pa bv : Value} {o n : Nat} (h : St0 w base B os pa bv o n) (h1 : 1 ≤ os.length) : ∃ go oc, BB w B (.slice (some ⟨go, 0, none⟩) os.length oc) pa bv (.int .i64 (o : Int)) (.int .i64 (n : Int)) ∧ ∀ j nd, os[j]? = some nd → w.cell? ⟨go, j * 4, none⟩ = some (.string ⟨nd.name.toArray⟩) := by
  obtain ⟨_, _, ov, l, fp, hl, hB, hro, _⟩ := h
  have hll : l.length = os.length := by
    have := congrArg List.length hl
    rwa [List.length_map] at this
  rw [hll] at hro
  obtain ⟨go, oc, rfl, hcell⟩ := own_at hro (by omega)
  refine ⟨go, oc, hB, ?_⟩
  intro j nd hj
  have hjl : j < os.length := (List.getElem?_eq_some_iff.1 hj).1
  rw [← hl, List.getElem?_map] at hj
  cases hp : l[j]? with
  | none => rw [hp] at hj; cases hj
  | some p =>
    rw [hp] at hj
    have e : p.1 = nd := by simpa using hj
    have := ndCells_at l j p hp 0 (by decide)
    rw [Nat.add_zero] at this
    rw [hcell (j * 4) (by omega), this, ← e]
    rfl

set_option maxRecDepth 100000 in
set_option maxHeartbeats 8000000 in
theorem innermost_st (w : World) (base B : Nat) (r : List Nd) (pa bv : Value) (o n : Nat) (names : List ByteArray) (g cap : Nat) (h : St0 w base B r.reverse pa bv o n) (h1 : 1 ≤ r.length) (hl : r.length ≤ 100000) (hnl : names.length ≤ 100000) (hc : ∀ i x, names[i]? = some x → w.cell? ⟨g, i, none⟩ = some (.string x)) :
    Calls Tryz.prog 59 #[.pointer (some ⟨B, 0, none⟩), .slice (some ⟨g, 0, none⟩) names.length cap] w fun e w' => e = .returned (.int .i64 (innerR (names.map bl) r : Int)) ∧ w' = w := by
  obtain ⟨go, oc, hB, hname⟩ := h.name_at (by rw [List.length_reverse]; exact h1)
  rw [List.length_reverse] at hB
  have b0 : w.cell? ⟨B, 0, none⟩ = some (.slice (some ⟨go, 0, none⟩) r.length oc) := tag_cell hB 0 _ rfl
  have HNM : Hid (∀ (d : List Nd) (nd : Nd) (q : List Nd), r = d ++ nd :: q → w.cell? ⟨go, q.length * 4, none⟩ = some (.string ⟨nd.name.toArray⟩)) := hide (by
    intro d nd q e
    refine hname q.length nd ?_
    rw [e, List.reverse_append, List.reverse_cons, List.append_assoc, List.getElem?_append_right (by simp), List.length_reverse, Nat.sub_self]
    rfl)
  obtain ⟨R, hR⟩ : ∃ R, R = innerR (names.map bl) r := ⟨_, rfl⟩
  rw [← hR]
  have HR := hide hR
  have HC := hide hc
  obtain ⟨N, hN⟩ : ∃ N, N = names.length := ⟨_, rfl⟩
  rw [← hN] at hnl ⊢
  have HN := hide hN
  obtain ⟨M, hM⟩ : ∃ M, M = r.length := ⟨_, rfl⟩
  rw [← hM] at b0 h1 hl
  have HM := hide hM
  clear h hB hname hR hc hN hM
  go_enter Tryz.func59, Tryz.ntmps59
  go_wp2_with fail
  go_step3
  go_wp2_with fail
  go_step3
  go_wp2_with fail
  go_loopg [5] (M - 1) (fun k v wr => ∃ (d : List Nd) (nd : Nd) (q : List Nd), q.length = k ∧ v = .int .i64 (q.length : Int) ∧ wr = w ∧ Hid (r = d ++ nd :: q) ∧ Hid (R = innerR (names.map bl) (nd :: q)))
  case atStart =>
    have hm := HM.out
    match r, hm, HR with
    | [], hm, HR => simp at hm; omega
    | nd :: q, hm, HR =>
      refine ⟨[], nd, q, by simp only [List.length_cons] at hm; omega, ?_, rfl, hide rfl, HR⟩
      have : (M : Int) - 1 = (q.length : Int) := by simp only [List.length_cons] at hm; omega
      first | (rw [this]; rfl) | (rw [this]) | simp [this]
  case round =>
    obtain ⟨d, nd, q, rfl, rfl, rfl, HD, HRR⟩ := hrel
    clear HR
    have hql : q.length ≤ 100000 := by
      have h1 := congrArg List.length HD.out
      rw [List.length_append, List.length_cons, ← HM.out] at h1
      omega
    have hqM : q.length < M := by
      have h1 := congrArg List.length HD.out
      rw [List.length_append, List.length_cons, ← HM.out] at h1
      omega
    by_cases hq : q = []
    · subst hq
      have hR0 : R = 0 := by
        rw [HRR.out]
        unfold innerR
        rw [if_pos rfl]
      subst hR0
      clear HRR HD
      go_wp2_with fail
      try rw [Exit.noGoto_ret]
      go_ret
      exact ⟨rfl, rfl⟩
    · have c0 := HNM.out d nd q HD.out
      have hqne : q ≠ [] := hq
      obtain ⟨nd2, q2, hq⟩ := List.exists_cons_of_ne_nil hqne
      have hqp : 0 < q.length := List.length_pos_iff.2 hqne
      have HIN : Hid (nd.name ∈ names.map bl → R = q.length) := hide (by
        intro h
        rw [HRR.out]
        unfold innerR
        rw [if_neg hqne, if_pos h])
      have HOUT : Hid (nd.name ∉ names.map bl → R = innerR (names.map bl) q) := hide (by
        intro h
        rw [HRR.out]
        conv => lhs; unfold innerR
        rw [if_neg hqne, if_neg h])
      have HQ := hide hq
      obtain ⟨X, hX⟩ : ∃ X : ByteArray, X = ⟨nd.name.toArray⟩ := ⟨_, rfl⟩
      rw [← hX] at c0
      have HX : Hid (bl X = nd.name) := hide (by rw [hX])
      clear hq HRR hX hqne
      go_wp2_with fail
      go_loopg [20] N (fun k v wx => ∃ j : Nat, j + k = N ∧ v = .int .i64 (j : Int) ∧ wx = wr ∧ Hid (∀ x ∈ (names.take j), bl x ≠ nd.name))
      case atStart => exact ⟨0, by omega, rfl, rfl, hide (by simp)⟩
      case round =>
        obtain ⟨j, hjg, rfl, rfl, HJ⟩ := hrel
        by_cases hjl : j < N
        · have hj : j < names.length := by rw [← HN.out]; exact hjl
          have hge : names[j]? = some names[j] := List.getElem?_eq_getElem hj
          have y0 := HC.out j _ hge
          have hm : names[j] ∈ names := List.getElem_mem hj
          generalize names[j] = x at hge y0 hm
          by_cases hx : bl x = nd.name
          · have e0 : (X.toList == x.toList) = true := beq_same (by rw [HX.out, hx])
            have hRq := HIN.out (List.mem_map.2 ⟨x, hm, hx⟩)
            subst hRq
            clear hge hm hx HJ hj
            go_wp2_with fail
            try rw [Exit.noGoto_ret]
            go_ret
            exact ⟨rfl, rfl⟩
          · have e0 : (X.toList == x.toList) = false := beq_ne (by rw [HX.out]; exact Ne.symm hx)
            have HJ2 : Hid (∀ x ∈ (names.take (j + 1)), bl x ≠ nd.name) := hide (by
              intro z hz
              rw [List.take_add_one, hge] at hz
              rcases List.mem_append.1 hz with hz | hz
              · exact HJ.out z hz
              · have : z = x := by simpa using hz
                rw [this]
                exact hx)
            clear hge hm hx HJ hj
            go_wp2_with fail
            go_roundg (gk - 1)
            case measure => omega
            case rel => exact ⟨j + 1, by omega, by first | rfl | (rw [wrap64_in _ ⟨by omega, by omega⟩]; rfl) | simp, rfl, HJ2⟩
        · have HR2 := hide (HOUT.out (by
            intro h
            obtain ⟨x, hx, e⟩ := List.mem_map.1 h
            have := HJ.out x (by rw [List.take_of_length_le (by rw [← HN.out]; omega)]; exact hx)
            exact this e))
          clear HJ
          have hq2l : (q.length : Int) - 1 = (q2.length : Int) := by
            have := congrArg List.length HQ.out
            rw [List.length_cons] at this
            omega
          have HL2 : Hid (q2.length < q.length) := hide (by
            have := congrArg List.length HQ.out
            rw [List.length_cons] at this
            omega)
          go_wp2_with fail
          go_roundg q2.length
          case measure => have := HL2.out; omega
          case rel =>
            refine ⟨d ++ [nd], nd2, q2, rfl, ?_, rfl, hide ?_, ?_⟩
            · first | rfl | simp
            · rw [HD.out, HQ.out]
              simp
            · rw [← HQ.out]
              exact HR2
end Go.Proofs.YtholfdfjapgfbaaGreatDoor.Dm
