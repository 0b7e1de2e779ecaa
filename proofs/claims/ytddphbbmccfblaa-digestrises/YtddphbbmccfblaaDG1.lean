/-
  The document's functions, walked: Has, Same, Size.
-/
import Derived.Test.YtddphbbmccfblaaPH
import Derived.Test.YtddphbbmccfblaaDG0
import Derived.Laws.AppendOwn
import Derived.Laws.AppendOwnNone
import Derived.Deep.Cut
import Derived.Deep.CutRange
namespace Go.Proofs.Ytddphbbmccfblaa
open Go.RowKit
open Utf1
open Pol8 hiding text right Right
open Dg16

theorem bl_inj {a b : ByteArray} (h : bl a = bl b) : a = b := ba_ext h
set_option maxRecDepth 100000 in
/-- Strings behind a row of one's own. -/
theorem dappend_strs {w : World} {ops : Array Oper} {rest : List Oper} {o : Oper} {a : Act} {Q : Exit → Act → World → Prop} (hgd : o.guard = none) (s x : Operand)
    (ho : o.op = .call { callee := .builtin .append, args := #[s, x], argTypes := #[22, 22] })
    (base : Nat) (v : Value) (n : Nat) (xs : List ByteArray) (hs : a.eval s = v) (hown : w.ownsRow base 9 1 v n (strV xs))
    (u : Value) (l : List ByteArray) (hx : a.eval x = u) (hl : StrArg w u l) (h63 : n + l.length ≤ 100000000) (hbase : base ≤ w.heap.size)
    (h : ∀ v' w', w'.ownsRow base 9 1 v' (n + l.length) (strV (xs ++ l)) → w.grownBy w' v.ownBlock → wpList Try.prog ops Q rest (a.put o.dst v') w') : wpList Try.prog ops Q (o :: rest) a w := by
  obtain ⟨i0, hi, hz0, hz1, hz2⟩ : ∃ i : TypeInfo, Try.prog.info? 9 = some i ∧ i.zero = some (.string ⟨#[]⟩) ∧ i.size = 1 ∧ i.bytes = 16 := by
    have h := infoStr
    cases hi : Try.prog.info? 9 with
    | none => rw [hi] at h; simp at h
    | some i =>
      rw [hi] at h
      simp at h
      exact ⟨i, rfl, h.1, h.2.1, h.2.2⟩
  obtain ⟨p, cap, rfl, h0, hc⟩ := hl
  cases p with
  | none =>
    have hl0 : l = [] := by
      cases l with
      | nil => rfl
      | cons y l =>
        obtain ⟨_, _, e, _⟩ := hc 0 y rfl
        cases e
    subst hl0
    rw [h0 rfl] at hx
    refine wpList_append_own_none hgd s x 22 ho base 9 i0 1 Try.underlying22 hi v n _ hs hown hx ?_
    refine h v w ?_ ⟨rfl, rfl, rfl, Nat.le_refl _, fun _ _ _ => rfl⟩
    rw [List.append_nil]
    exact hown
  | some ad =>
    refine wpList_append_own w hgd s x 22 ho base 9 i0 _ 1 16 Try.underlying22 hi hz0 hz1 hz2 rfl (by decide) v n _ hs hown ad l.length cap (strV l) hx (by rw [strV_len, Nat.mul_one]) (fun j u hj => ?_) (fun y hy => ?_) (by unfold maxLen; omega) (by omega) hbase fun v' w' h1 h2 _ => h v' w' ?_ h2
    · unfold strV at hj
      rw [List.getElem?_map] at hj
      cases hlj : l[j]? with
      | none => rw [hlj] at hj; cases hj
      | some y =>
        rw [hlj] at hj
        obtain ⟨b, off, e, hcell⟩ := hc j y hlj
        injection e with e
        subst e
        rw [add_plain, hcell]
        exact hj
    · unfold strV at hy
      obtain ⟨z, _, rfl⟩ := List.mem_map.1 hy
      rfl
    · rw [strV_app]
      exact h1
theorem own_empty (w : World) (base : Nat) (h : base ≤ w.heap.size) : (w.alloc (.cells #[] 9)).ownsRow base 9 1 (.slice (some ⟨w.heap.size, 0, none⟩) 0 0) 0 (strV []) :=
  World.ownsRow_made w _ 0 h (by decide) rfl
/-- A slice of strings that is read, not longer than its capacity. -/
def StrCap (w : World) (v : Value) (ss : List ByteArray) : Prop := StrArg w v ss ∧ ∃ p n c, v = .slice p n c ∧ n ≤ c
theorem StrCap.below {w w' : World} {v : Value} {ss : List ByteArray} (h : StrCap w v ss) (hb : Below w.heap.size w w') : StrCap w' v ss := ⟨h.1.below hb, h.2⟩
theorem strCap_nil (w : World) : StrCap w (.slice none 0 0) [] := ⟨strArg_nil w, none, 0, 0, rfl, Nat.le_refl _⟩
theorem strCap_own {w : World} {B : Nat} {v : Value} {ss : List ByteArray} (h : w.ownsRow B 9 1 v ss.length (strV ss)) : StrCap w v ss := by
  refine ⟨own_arg h, ?_⟩
  rcases h.2 with ⟨rfl, h0⟩ | ⟨g, cap, cur, rfl, _, _, hc, _⟩
  · exact ⟨none, 0, 0, rfl, Nat.le_refl _⟩
  · exact ⟨_, _, _, rfl, hc⟩

set_option maxHeartbeats 4000000 in
theorem has_any (v : Value) (ss : List ByteArray) (x : ByteArray) (hl : ss.length ≤ 1000000) (w : World) (hv : StrArg w v ss) (D : Bool) (hD : D = decide (bl x ∈ ss.map bl)) :
    Calls Try.prog 19 #[v, .string x] w fun e w' => e = .returned (.bool D) ∧ Below w.heap.size w w' := by
  have HA := hide hv
  have HD := hide hD
  obtain ⟨p, c, rfl, -, -⟩ := hv
  obtain ⟨N, hN⟩ : ∃ N, N = ss.length := ⟨_, rfl⟩
  rw [← hN] at HA hl ⊢
  have HN := hide hN
  clear hD hN
  go_enter Try.func19, Try.ntmps19
  go_wp2_with fail
  go_loopg [5] N (fun g v5 wr => ∃ j : Nat, j + g = N ∧ v5 = .int .i64 (j : Int) ∧ Hid ((∀ i y, i < j → ss[i]? = some y → bl y ≠ bl x) ∧ Below w.heap.size w wr))
  case atStart => exact ⟨0, by omega, rfl, hide ⟨fun i y h => by omega, Below.refl _ _⟩⟩
  case round =>
    obtain ⟨j, hj, rfl, HI⟩ := hrel
    by_cases hlt : j < N
    · have hja : j < ss.length := by have := HN.out; omega
      have hga : ss[j]? = some ss[j] := List.getElem?_eq_getElem hja
      generalize ss[j] = y at hga
      obtain ⟨p1, c1, e1, -, hc1⟩ := HA.out.below HI.out.2
      injection e1 with e1 _ _
      obtain ⟨b1, o1, hp1, k1⟩ := hc1 j y hga
      rw [← e1] at hp1
      subst hp1
      have HG := hide hga
      clear e1 hc1 hga hja
      by_cases hxy : bl y = bl x
      · have h1 := beq_same hxy
        have HT : Hid (D = true) := hide (by
          rw [HD.out]
          exact decide_eq_true (by rw [← hxy]; exact List.mem_map_of_mem (List.mem_of_getElem? HG.out)))
        clear hxy
        go_wp2_with fail
        go_ret
        rw [HT.out]
        exact ⟨rfl, HI.out.2⟩
      · have h1 := beq_ne hxy
        have HXY := hide hxy
        clear hxy
        go_wp2_with fail
        go_roundg (N - (j + 1))
        case measure => omega
        case rel => exact ⟨j + 1, by omega, rfl, hide ⟨fun i z hi hz => by
          rcases Nat.lt_or_ge i j with h | h
          · exact HI.out.1 i z h hz
          · have : i = j := by omega
            subst this
            rw [HG.out] at hz
            injection hz with hz
            subst hz
            exact HXY.out, HI.out.2⟩⟩
    · have hd : decide ((j : Int) < (N : Int)) = false := decide_eq_false (by omega)
      have HF : Hid (D = false) := hide (by
        rw [HD.out]
        refine decide_eq_false (fun hm => ?_)
        obtain ⟨y, hy, e⟩ := List.mem_map.1 hm
        obtain ⟨i, hi⟩ := List.getElem?_of_mem hy
        have := (List.getElem?_eq_some_iff.1 hi).1
        have := HN.out
        exact HI.out.1 i y (by omega) hi e)
      go_wp2_with fail
      go_ret
      rw [HF.out]
      exact ⟨rfl, HI.out.2⟩
set_option maxHeartbeats 4000000 in
theorem same_any (w : World) (u v : Value) (a b : List ByteArray) (ha : StrArg w u a) (hb : StrArg w v b) (hl : a.length ≤ 1000000) (D : Bool) (hD : D = decide (a = b)) :
    Calls Try.prog 11 #[u, v] w fun e w' => e = .returned (.bool D) ∧ Below w.heap.size w w' := by
  have HA := hide ha
  have HB := hide hb
  have HD := hide hD
  obtain ⟨p, c, rfl, -, -⟩ := ha
  obtain ⟨q, d, rfl, -, -⟩ := hb
  obtain ⟨N, hN⟩ : ∃ N, N = a.length := ⟨_, rfl⟩
  obtain ⟨M, hM⟩ : ∃ M, M = b.length := ⟨_, rfl⟩
  rw [← hN] at HA hl ⊢
  rw [← hM] at HB ⊢
  have HN := hide hN
  have HM := hide hM
  clear hD hN hM
  by_cases hNM : N = M
  · have h0 : ((N : Int) != (M : Int)) = false := by simp; omega
    have HNM := hide hNM
    clear hNM
    go_enter Try.func11, Try.ntmps11
    go_wp2_with fail
    go_loopg [5] N (fun g v5 wr => ∃ j : Nat, j + g = N ∧ v5 = .int .i64 (j : Int) ∧ Hid ((∀ i, i < j → a[i]? = b[i]?) ∧ Below w.heap.size w wr))
    case atStart => exact ⟨0, by omega, rfl, hide ⟨fun i h => by omega, Below.refl _ _⟩⟩
    case round =>
      obtain ⟨j, hj, rfl, HI⟩ := hrel
      by_cases hlt : j < N
      · have hja : j < a.length := by have := HN.out; omega
        have hjb : j < b.length := by have := HM.out; have := HNM.out; omega
        have hga : a[j]? = some a[j] := List.getElem?_eq_getElem hja
        have hgb : b[j]? = some b[j] := List.getElem?_eq_getElem hjb
        have hjM : (j : Int) < (M : Int) := by have := HNM.out; omega
        generalize a[j] = x at hga
        generalize b[j] = y at hgb
        obtain ⟨p1, c1, e1, -, hc1⟩ := HA.out.below HI.out.2
        obtain ⟨q1, d1, e2, -, hc2⟩ := HB.out.below HI.out.2
        injection e1 with e1 _ _
        injection e2 with e2 _ _
        obtain ⟨b1, o1, hp1, k1⟩ := hc1 j x hga
        obtain ⟨b2, o2, hp2, k2⟩ := hc2 j y hgb
        rw [← e1] at hp1
        rw [← e2] at hp2
        subst hp1
        subst hp2
        have HG := hide (And.intro hga hgb)
        clear e1 e2 hc1 hc2 hga hgb hja hjb
        by_cases hxy : x = y
        · have h1 : (x.toList == y.toList) = true := by rw [hxy]; exact beq_self_eq_true _
          have HXY := hide hxy
          clear hxy
          go_wp2_with fail
          go_region
          go_wp2_with fail
          go_roundg (N - (j + 1))
          case measure => omega
          case rel => exact ⟨j + 1, by omega, rfl, hide ⟨fun i hi => by
            rcases Nat.lt_or_ge i j with h | h
            · exact HI.out.1 i h
            · have : i = j := by omega
              subst this
              rw [HG.out.1, HG.out.2, HXY.out], HI.out.2.drew⟩⟩
        · have h1 : (x.toList == y.toList) = false := by
            rw [ByteArray.toList_eq, ByteArray.toList_eq]
            exact beq_eq_false_iff_ne.2 (fun e => hxy (bl_inj e))
          have HF : Hid (D = false) := hide (by
            rw [HD.out]
            exact decide_eq_false (fun e => hxy (by
              have h2 := HG.out
              rw [e, h2.2] at h2
              exact (Option.some.inj h2.1).symm)))
          clear hxy
          go_wp2_with fail
          go_region
          go_wp2_with fail
          go_ret
          rw [HF.out]
          exact ⟨rfl, HI.out.2.drew⟩
      · have hd : decide ((j : Int) < (N : Int)) = false := decide_eq_false (by omega)
        go_wp2_with fail
        go_ret
        have HF : D = true := by
          rw [HD.out]
          refine decide_eq_true (List.ext_getElem? fun i => ?_)
          rcases Nat.lt_or_ge i j with h | h
          · exact HI.out.1 i h
          · have h1 := HN.out
            have h2 := HM.out
            have h3 := HNM.out
            rw [List.getElem?_eq_none (by omega), List.getElem?_eq_none (by omega)]
        rw [HF]
        exact ⟨rfl, HI.out.2⟩
  · have h0 : ((N : Int) != (M : Int)) = true := by simp; omega
    have HF : Hid (D = false) := hide (by
      rw [HD.out]
      exact decide_eq_false (fun e => hNM (by rw [HN.out, HM.out, e])))
    clear hNM
    go_enter Try.func11, Try.ntmps11
    go_wp2_with fail
    go_ret
    rw [HF.out]
    exact ⟨rfl, Below.refl _ _⟩
theorem putsz {a : Int} : max a 0 = if a < 0 then 0 else a := by split <;> omega
/-- A slice of numbers that is only read. -/
def IntArg (w : World) (v : Value) (zs : List Int) : Prop := ∃ p cap, v = .slice p zs.length cap ∧ ∀ i z, zs[i]? = some z → ∃ b off, p = some ⟨b, off, none⟩ ∧ w.cell? ⟨b, off + i, none⟩ = some (.int .i64 z)
theorem IntArg.below {w w' : World} {v : Value} {zs : List Int} (h : IntArg w v zs) (hb : Below w.heap.size w w') : IntArg w' v zs := by
  obtain ⟨p, cap, rfl, hc⟩ := h
  refine ⟨p, cap, rfl, fun i s hi => ?_⟩
  obtain ⟨b, off, rfl, hcell⟩ := hc i s hi
  exact ⟨b, off, rfl, cell_keep hcell hb⟩

set_option maxHeartbeats 4000000 in
theorem size_any (v : Value) (zs : List Int) (i : Nat) (w : World) (hv : IntArg w v zs) (Z : Int) (hZ : Z = sz zs i) :
    Calls Try.prog 20 #[v, .int .i64 (i : Int)] w fun e w' => e = .returned (.int .i64 Z) ∧ Below w.heap.size w w' := by
  obtain ⟨p, c, rfl, hc⟩ := hv
  obtain ⟨N, hN⟩ : ∃ N, N = zs.length := ⟨_, rfl⟩
  rw [← hN]
  by_cases hlt : i < N
  · have hga : zs[i]? = some zs[i] := List.getElem?_eq_getElem (by omega)
    generalize zs[i] = z at hga
    obtain ⟨b1, o1, rfl, k1⟩ := hc i z hga
    have hZ2 : Z = max z 0 := by
      rw [hZ]
      unfold sz
      rw [List.getD_eq_getElem?_getD, hga]
      rfl
    have d1 : decide ((i : Int) ≥ (N : Int)) = false := decide_eq_false (by omega)
    have d2 : decide ((N : Int) ≤ (i : Int)) = false := decide_eq_false (by omega)
    clear hc hga hZ hN
    subst hZ2
    go_enter Try.func20, Try.ntmps20
    by_cases hz : z < 0
    · have e1 : max z 0 = 0 := by omega
      have d3 : decide (z < (0 : Int)) = true := decide_eq_true hz
      rw [e1]
      go_wp2_with fail
      go_ret
      exact ⟨rfl, Below.refl _ _⟩
    · have e1 : max z 0 = z := by omega
      have d3 : decide (z < (0 : Int)) = false := decide_eq_false hz
      rw [e1]
      go_wp2_with fail
      go_ret
      exact ⟨rfl, Below.refl _ _⟩
  · have hZ2 : Z = 0 := by
      rw [hZ]
      unfold sz
      rw [List.getD_eq_getElem?_getD, List.getElem?_eq_none (by omega)]
      rfl
    have d1 : decide ((i : Int) ≥ (N : Int)) = true := decide_eq_true (by omega)
    have d2 : decide ((N : Int) ≤ (i : Int)) = true := decide_eq_true (by omega)
    clear hc hZ hN
    subst hZ2
    go_enter Try.func20, Try.ntmps20
    go_wp2_with fail
    go_ret
    exact ⟨rfl, Below.refl _ _⟩
end Go.Proofs.Ytddphbbmccfblaa
